import PyProof.Rows.All
import Wide.All
import OpenK.AllK
import Wide.FinOn
import KE.KExcIs
import HandS.ForMost
import HandS.Exc
import HandS.ExcInit
import HandS.ExcOwn
import HandS.ExcValue
import HandS.ExcField
import HandS.ExcIs
import HandS.IsInst
import HandS.WordsExc
import HandS.Defaults
import HandS.HeadHook1
import HandS.HeadHook2
import HandS.Head0
import HandS.Head1
import HandS.Head2
import HandS.HeadEnd
import HandS.HeadHook4
import HandS.Comp
import KE.KOpsOwn
import PyProof.ListMulRight
import PyProof.FactsAll.int_3
import PyProof.FactsAll.int_5
import HandS.Star
import HandS.Gcd
import HandS.Wide
import HandS.SlotsOwn
import PyProof.InstNe
import HandS.TryMany
import HandS.MakeKwOnly
import HandS.CallSlots
import HandS.SetFor
import HandS.Strs
import HandS.SetTxt0
import PyProof.Rows.SortShellAny
import HandS.Iter
import HandS.Head3
import HandS.Walk
import KE.GoesEnum
import HandS.Style
import HandS.TupAny
import HandS.Lambda
import HandS.Deep
import HandS.SortInts
import HandS.More
import HandS.OwnEq
import PyProof.ExcBaseAll.ValueError
import HandS.TupMul
import HandS.EndTab
import KE.KNest
import PySem.Challenge.RW_loopsize_k49_rewritings_refused
set_option Elab.async false
set_option linter.all false
set_option maxRecDepth 100000
set_option maxHeartbeats 4000000
namespace Z
open PySem PySem.Spec PyProof.Rows L2
end Z
set_option maxHeartbeats 4000000
namespace Z
open PySem PySem.Spec PyProof.Rows L2
abbrev FaK : Type := PySem.W.Frag → Bool
def obsX (fa : List FaK) (fn : List He.DefD) (K : PySem.W.Frag) : He.AlD := ((fa.all fun f => f K) && fn.all fun d => d.ok K, fn.map fun d => He.fnW K d.at_)
def SaysX (fa : List FaK) (fn : List He.DefD) (K : PySem.W.Frag) : Prop := obsX fa fn K = He.valD fn
section
variable {fa : List FaK} {fn : List He.DefD} {K : PySem.W.Frag}
theorem SaysX.fact (c : SaysX fa fn K) (i : Nat) {f : FaK} (h : fa[i]? = some f := by rfl) : f K = true := by
  have c1 := (He.ba (show ((fa.all fun f => f K) && fn.all fun d => d.ok K) = true from congrArg (fun z : He.AlD => z.1) c)).1
  exact List.all_eq_true.mp c1 f (List.mem_of_getElem? h)
theorem SaysX.def_ (c : SaysX fa fn K) (i : Nat) {d : He.DefD} (h : fn[i]? = some d := by rfl) : ∃ fd, FunD K d.name d.qual d.params d.body d.scope (d.dvs K) (d.kws K) (He.fAd K d.at_) fd := by
  have c2 := (He.ba (show ((fa.all fun f => f K) && fn.all fun d => d.ok K) = true from congrArg (fun z : He.AlD => z.1) c)).2
  have e : fn.map (fun d => He.fnW K d.at_) = fn.map He.DefD.val := congrArg (fun z : He.AlD => z.2) c
  have e2 : (fn.map fun d => He.fnW K d.at_)[i]? = (fn.map He.DefD.val)[i]? := by rw [e]
  rw [List.getElem?_map, List.getElem?_map, h] at e2
  exact He.DefD.funD (Option.some.inj e2) (List.all_eq_true.mp c2 d (List.mem_of_getElem? h))
end
def oexB (K : PySem.W.Frag) (C : Addr) : Bool := match K.lookup C with
  | some ⟨.type t, _, .cls cd, sl⟩ => decide (t = "type") && (match cd.mro, sl.toList with
    | .ref C' :: bm, [_, _, _, _, some (.builtin n), _] => decide (C' = C) && (decide (n = "ValueError.__new__") && (!cd.hasDel && (cd.hasDict && PySem.HandSPX.refsVE bm)))
    | _, _ => false)
  | _ => false
theorem oexB_ok {K : PySem.W.Frag} {C : Addr} (q : oexB K C = true) : ∃ nm q N bs bm sn sub ab col dd k0 k1 k2 k3 k5, K.lookup C = some (excClassObj nm q C N bs bm true sn sub ab col dd k0 k1 k2 k3 k5 "ValueError.__new__") ∧ PySem.HandSPX.refsVE bm = true := by
  unfold oexB at q
  split at q
  · rename_i t dd cd sl ho
    split at q
    · rename_i C' bm k0 k1 k2 k3 n k5 hm hs
      obtain ⟨q0, q⟩ := He.ba q
      obtain ⟨q1, q⟩ := He.ba q
      obtain ⟨q2, q⟩ := He.ba q
      obtain ⟨q3, q⟩ := He.ba q
      obtain ⟨q4, q5⟩ := He.ba q
      have e0 := of_decide_eq_true q0
      have e1 := of_decide_eq_true q1
      have e2 := of_decide_eq_true q2
      obtain ⟨nm, bs, mro, ns, qn, hd, sn, sub, ab, col, del⟩ := cd
      dsimp only at hm q3 q4
      have e3 : del = false := by
        cases del
        · rfl
        · cases q3
      subst hm e3 q4
      have hsl : sl = #[k0, k1, k2, k3, some (.builtin n), k5] := by
        obtain ⟨l⟩ := sl
        simp only at hs
        rw [hs]
      subst hsl
      rw [e0, e1, e2] at ho
      exact ⟨nm, qn, ns, bs, bm, sn, sub, ab, col, dd, k0, k1, k2, k3, k5, ho, q5⟩
    · obtain ⟨_, q⟩ := He.ba q
      cases q
  · cases q
/-- all that is asked of an exception class -/
def exkB (K : PySem.W.Frag) (C : Addr) : Bool :=
  He.eqO (PySem.W.findIn K (.ref C) "__setattr__") (some (some (.builtin "object.__setattr__"))) &&
  (decide (PySem.W.subIn K (.ref C) (.type "BaseException") = some true) &&
  (decide (PySem.W.typeIn K (.ref C) = some (.type "type")) &&
  (PySem.W.keepIn K (.ref C) &&
  (He.eqO (PySem.W.findIn K (.ref C) "__getattribute__") (some (some (.builtin "BaseException.__getattribute__"))) &&
  (He.eqO (PySem.W.findIn K (.ref C) "__getattr__") (some none) &&
  (PySem.W.hasDictIn K C &&
  (He.eqO (PySem.W.findIn K (.ref C) "__class__") (some (some (.builtin "object.__class__"))) &&
  (He.eqO (PySem.W.specialIn K (.builtin "object.__class__") "__get__") (some (some (.builtin "getset_descriptor.__get__"))) &&
  (decide (PySem.W.takesIn K (.builtin "object.__class__") = some true) &&
  decide (PySem.W.mroIn K C (.type "object") = some true))))))))))
structure Exk (K : PySem.W.Frag) (C : Addr) : Prop where
  sa : PySem.W.findIn K (.ref C) "__setattr__" = some (some (.builtin "object.__setattr__"))
  exC : PySem.W.subIn K (.ref C) (.type "BaseException") = some true
  tyC : PySem.W.typeIn K (.ref C) = some (.type "type")
  kC : PySem.W.keepIn K (.ref C) = true
  xf : XfC K C
  ec : ExcC K C
theorem exkB_ok {K : PySem.W.Frag} {C : Addr} (q : exkB K C = true) : Exk K C := by
  unfold exkB at q
  obtain ⟨h1, q⟩ := He.ba q
  obtain ⟨h2, q⟩ := He.ba q
  obtain ⟨h3, q⟩ := He.ba q
  obtain ⟨h4, q⟩ := He.ba q
  obtain ⟨h5, q⟩ := He.ba q
  obtain ⟨h6, q⟩ := He.ba q
  obtain ⟨h7, q⟩ := He.ba q
  obtain ⟨h8, q⟩ := He.ba q
  obtain ⟨h9, q⟩ := He.ba q
  obtain ⟨h10, h11⟩ := He.ba q
  have e2 := of_decide_eq_true h2
  exact ⟨He.eqO_ok h1, e2, of_decide_eq_true h3, h4, ⟨He.eqO_ok h5, He.eqO_ok h6, e2, h7⟩, ⟨He.eqO_ok h5, He.eqO_ok h6, e2, h7, He.eqO_ok h8, He.eqO_ok h9, of_decide_eq_true h10, of_decide_eq_true h11⟩⟩
theorem oex_of {K : PySem.W.Frag} {C : Addr} (q : oexB K C = true) (e : Exk K C) : OexC K C := ⟨oexB_ok q, e.sa, e.exC, e.tyC, e.kC⟩
def Dn (P : Program) (w : World) (K : PySem.W.Frag) (mg : Str → Option Value) (base : Heap) (j : Nat) (x : Str) (ps : List Str) (sp : Sp) : Prop :=
  ∃ (f : Addr) (fd : FuncData), FnOk P w K mg base CX0 j f fd ps sp ∧ mg x = some (.ref f) ∧ PySem.W.keepIn K (.ref f) = true ∧ Binds K fd ps []
section
variable {X : Cx} {e : Expr} {es : List Expr} {t : TA} {p pos : Pos}
theorem pe_dn {k j : Nat} {x : Str} {ps : List Str} {sp : Sp} (D : Dn X.prog X.w X.K X.mg X.base j x ps sp) (hr : Room k X.A) (ha : PA X (e :: es) t) (hjk : j ≤ k := by decide) (hg : Gl X x := by rfl)
    (hdb : (x == ("__debug__" : Str)) = false := by decide) (he : starEach (e :: es) X.env = (false, eval e X.env) :: starEach es X.env := by rfl) (hpl : (backTo pos (starEach es X.env)).any (·.1) = false := by rfl) :
    PE X (.Call (.Name x p) (e :: es) [] pos) (tCall sp [] E0 t) := by
  obtain ⟨f, fd, G, hm, hk, hb⟩ := D
  exact pe_call G (hr.mono hjk) hg hm hk hb .nil pass0 ha hdb he hpl
end
end Z
set_option maxHeartbeats 4000000
namespace Z
open PySem PySem.Spec PyProof.Rows L2
end Z
namespace Z
theorem map3 {α β γ δ : Type} {o : Option α} {f : α → β} {g : α → γ} {h : α → δ} {a : β} {b : γ} {c : δ} (h1 : o.map f = some a) (h2 : o.map g = some b) (h3 : o.map h = some c) : o.map (fun x => (f x, g x, h x)) = some (a, b, c) := by
  cases o with
  | none => cases h1
  | some x =>
    cases h1
    cases h2
    cases h3
    rfl
open PySem PySem.Spec PyProof.Rows L2
end Z
set_option maxHeartbeats 4000000
namespace Z
open PySem PySem.Spec PyProof.Rows L2
def obsRT (n : Nat) (fa : List FaK) (fn : List He.DefD) (g : Addr → Option Obj) : He.AlD := obsX fa fn (He.frT g (List.range n))
def hookRT (n : Nat) (fa : List FaK) (fn : List He.DefD) : PySem.W.Hook where
  α := He.AlD
  obs := fun s => obsRT n fa fn s.heap.get?
  val := fun _ => He.valD fn
  says := fun _ h => ∃ K : PySem.W.Frag, K.In h ∧ SaysX fa fn K
  of := fun _ _ e => ⟨_, He.frT_in, e⟩
  keeps := fun _ _ _ ⟨K, hK, c⟩ k => ⟨K, PySem.W.Frag.In.keeps hK k, c⟩
theorem obsRT_eq {n : Nat} {fa : List FaK} {fn : List He.DefD} {g : Addr → Option Obj} {s : Shared} (h : ∀ a, g a = s.heap.get? a) : obsRT n fa fn g = (hookRT n fa fn).obs s := by
  have e : g = s.heap.get? := funext h
  rw [e] <;> rfl
theorem obs_catT {α : Type} {o : Option α} {F : α → Addr → Option Obj} {n : Nat} {fa1 fa2 : List FaK} {fn1 fn2 : List He.DefD} (h1 : o.map (fun x => obsRT n fa1 fn1 (F x)) = some (He.valD fn1)) (h2 : o.map (fun x => obsRT n fa2 fn2 (F x)) = some (He.valD fn2)) :
    o.map (fun x => obsRT n (fa1 ++ fa2) (fn1 ++ fn2) (F x)) = some (He.valD (fn1 ++ fn2)) := by
  cases o with
  | none => cases h1
  | some x =>
    have e1 : obsRT n fa1 fn1 (F x) = He.valD fn1 := Option.some.inj h1
    have e2 : obsRT n fa2 fn2 (F x) = He.valD fn2 := Option.some.inj h2
    refine congrArg some ?_
    have a1 := (Prod.mk.inj e1)
    have a2 := (Prod.mk.inj e2)
    obtain ⟨b1, c1⟩ := He.ba a1.1
    obtain ⟨b2, c2⟩ := He.ba a2.1
    refine Prod.ext ?_ ?_
    · show (((fa1 ++ fa2).all fun f => f _) && (fn1 ++ fn2).all fun d => d.ok _) = true
      rw [List.all_append, List.all_append, b1, b2, c1, c2]
      rfl
    · show (fn1 ++ fn2).map _ = (fn1 ++ fn2).map _
      rw [List.map_append, List.map_append]
      exact congr (congrArg _ a1.2) a2.2
end Z
set_option maxHeartbeats 2000000
namespace Z
open PySem PySem.Spec PyProof.Rows L2
/-- behind the block: ended, or an error of a step on its way out; the block's frame is F -/
def OutC (M : Model) (A : Around) (E : Value → Shared → Prop) (use : Option (Value → Sem Unit)) (Q : Value → Shared → Prop) (acc : Value) (C : Addr) (F : Option Addr) (r : Result) (s' : Shared) : Prop :=
  (∀ f, r = .ok f → compPost M A E use Q acc C (.ok f) s') ∧
  ∀ x, r = .error x → ∃ m, s'.heap.Ns C m ∧ ∀ h', Heap.SameBut C s'.heap h' → ∀ ce : Env, ce.locals = C → ce.frame = F → wpAny M A (passOn "comprehension.variables-let-go" x ce : Sem Value) (fun _ _ => False) E { s' with heap := h' }
theorem note_frame {x : Value} {e1 e2 : Env} (h : e1.frame = e2.frame) : noteFrame x e1 = noteFrame x e2 := by
  unfold noteFrame PySem.frameOf
  rw [h]
section
variable {M : Model} {A : Around} {E : Value → Shared → Prop} {s : Shared} {env : Env}
theorem comp_out {e : Expr} {scope : Scope} {pos : Pos} {newAcc first : Sem Value} {g : Comprehension} {gs : List Comprehension} {cl : List (Str × Addr)} {use : Option (Value → Sem Unit)} {Q : Value → Shared → Prop}
    (hcl : clausesOf e = g :: gs) (hs : ∀ x, foldedSetIterable g.iter env x = pure x) (hclos : closureFor scope env = pure cl) (hkind : scope.kind = .function) (hnames : ∀ x ∈ scope.names, x.2 = .local → scope.names.lookup x.1 = some .local)
    (h : wpAny M A first (fun x s1 => wpAny M A (pyIter x) (fun it s2 => wpAny M A newAcc (fun acc s3 => wpAny M A (newFunctionEnv scope env.globals cl [] env.qual none .none (some env)) (fun ce s4 =>
      codeAny M A (.compStart e 0 it acc { ce with scope := relabel scope env }) (OutC M A E use Q acc ce.locals ce.frame) s4) E s3) E s2) E s1) E s) :
    wpAny M A (comprehension e scope env pos newAcc false first use) Q E s := by
  have up : ∀ {α : Type} {m : Sem α} {P P' : α → Shared → Prop} {s : Shared}, wpAny M A m P E s → (∀ a s', P a s' → P' a s') → wpAny M A m P' E s := fun h k => wpAny_mono h k fun _ _ z => z
  unfold comprehension
  rw [hclos, hcl]
  refine wpAny_bind (up h fun x s1 h1 => wpAny_bind (wpAny_standAt (wpAny_bind (wpAny_of_eq (hs x) (wpAny_bind (wpAny_holding (up h1 fun it s2 h2 => ?_)))))))
  refine wpAny_standIf (wpAny_bind (up h2 fun acc s3 h3 => wpAny_bind (wpAny_pure (wpAny_bind (up h3 fun ce s4 h4 => ?_)))))
  dsimp only
  have loc : ∀ x ∈ (scope.names.filter fun x => (x.2 == .local || x.2 == .cell) && x.1 != (".0" : Str)).reverse, x.2 = .local → Env.kindOf { ce with scope := relabel scope env } x.1 = some .local := fun x hx hl =>
    lookup_relabel_local (hnames x (List.mem_filter.mp (List.mem_reverse.mp hx)).1 hl)
  refine wpAny_holding (wpAny_bind (wpAny_attempt (wpAny_holding (wpAny_run (codeAny_mono h4 fun r s' hr => ?_)))))
  cases r with
  | ok f =>
    have hr := hr.1 f rfl
    cases use with
    | none =>
      obtain ⟨m, hn, hr⟩ := hr
      exact wpAny_bind (wpAny_holding (wpAny_comp_letGo (cenv := { ce with scope := relabel scope env }) hkind _ s' m loc hn fun h' m' _ sb => wpAny_pure (hr h' sb)))
    | some u =>
      refine wpAny_bind (wpAny_rule (wpAny_bind (wpAny_holding (up hr fun _ s'' hr => ?_))))
      obtain ⟨m, hn, hr⟩ := hr
      refine wpAny_bind (wpAny_comp_letGo (cenv := { ce with scope := relabel scope env }) hkind _ s'' m (fun x hx hl => ?_) hn fun h' m' _ sb => wpAny_pure (hr h' sb))
      exact (List.mem_append.mp hx).elim (fun z => loc x (List.mem_of_mem_drop z) hl) fun z => loc x (List.mem_of_mem_take z) hl
  | error x =>
    obtain ⟨m, hn, hr⟩ := hr.2 x rfl
    have fin : ∀ h', Heap.SameBut ce.locals s'.heap h' → wpAny M A (passOn "comprehension.variables-let-go" x { ce with scope := relabel scope env } : Sem Value) Q E { s' with heap := h' } := fun h' sb =>
      wpAny_mono (hr h' sb _ rfl rfl) (fun _ _ z => z.elim) fun _ _ z => z
    cases use <;> exact wpAny_bind (wpAny_holding (wpAny_comp_letGo (cenv := { ce with scope := relabel scope env }) hkind _ s' m loc hn fun h' m' _ sb => fin h' sb))
end
theorem fun_frames_but {h h' B : Heap} {C : Addr} (k : ∀ b, b ≠ C → h'.get? b = h.get? b) : ∀ {l : List Env}, h.FunFrames B l → C ∉ frs l → h'.FunFrames B l
  | [], _, _ => trivial
  | env :: l, hl, n => by
    obtain ⟨hk, ⟨L, o, hf, hb, ho, hd⟩, hr⟩ := hl
    have nL : L ≠ C := fun z => n (List.mem_filterMap.mpr ⟨env, List.mem_cons_self, by rw [hf, z]⟩)
    refine ⟨hk, ⟨L, o, hf, hb, (k L nL).trans ho, hd⟩, fun_frames_but k hr fun hm => ?_⟩
    obtain ⟨e, he, q⟩ := List.mem_filterMap.mp hm
    exact n (List.mem_filterMap.mpr ⟨e, List.mem_cons_of_mem _ he, q⟩)
section
variable {X : Cx} {pins pins' : List (Addr × Obj)} {σ σ' : L2.St} {H3 H5 : Hp} {s3 s5 : Shared} {scope : Scope} {ce : Env} {fp : List Addr} {Y : Value → Shared → Prop} {E : XK}
/-- what a call within the block lets out leaves the block and is taken outside -/
theorem pass_blk {E' : Value → Shared → Prop} {use : Option (Value → Sem Unit)} {Qf : Value → Shared → Prop} {acc : Value} (I3 : Inv X pins σ H3 s3) (hs : X.stack = X.env :: X.outer) (hf : X.env.frame = some X.env.locals) (tk : Takes X (fun c d _ H => E c d H))
    (hcf : ce.frame = X.env.frame) (cL : ce.locals = s3.heap.objs.size) (f3 : ∀ b ∈ fp, FpOk X pins H3 b ∧ b < s3.heap.objs.size) (I5 : Inv ((X.blk s3 H3 scope ce fp).wish Y) pins' σ' H5 s5) {u : Value} {s' : Shared} (c : L2.CX X.prog X.w X.stack H5 s5 E u s') :
    wpAny (model X.prog X.w) X.A (noteFrame u ce) (fun _ s'' => OutC (model X.prog X.w) X.A X.xe use Qf acc s3.heap.objs.size ce.frame (.error u) s'') E' s' := by
  obtain ⟨a, B, H', cls, d, rfl, fl, hok, ub, na, os, ag, hE⟩ := c
  have hfr : X.A.frames = some (X.env :: X.outer) := by rw [I3.ok.frames, hs]
  have nC : s3.heap.objs.size ∉ frs X.stack := fun hm => (List.mem_cons.mp (I3.stkSub _ hm)).elim (fun z => absurd I3.lt (by rw [← z]; exact Nat.lt_irrefl _)) (I3.nofs (Nat.le_refl _))
  obtain ⟨m, ⟨oC, es, ep, hC5, hdC, hk⟩, _⟩ := I5.loc
  have hC5 : s5.heap.get? s3.heap.objs.size = some oC := by
    rw [← cL]
    exact hC5
  have nHC5 : H5 s3.heap.objs.size = none := by
    rw [← cL]
    exact I5.free
  have hBC := ub.keep _ _ hC5 nHC5 nC
  have nHC := ub.free _ _ hC5 nHC5
  obtain ⟨B2, eB2⟩ : ∃ Z, Z = PySem.W.hideAll B [s3.heap.objs.size] := ⟨_, rfl⟩
  have b1 : ∀ b o, B2.get? b = some o → B.get? b = some o := fun b o e => by
    rw [eB2] at e
    exact PySem.W.of_hideAll _ e
  have b2 : ∀ b o, b ≠ s3.heap.objs.size → B.get? b = some o → B2.get? b = some o := fun b o n e => by
    rw [eB2]
    exact PySem.W.hideAll_get _ e fun hm => n (List.mem_singleton.mp hm)
  have b3 : ∀ b, B.get? b = none → B2.get? b = none := fun b e => by
    cases q : B2.get? b with
    | none => rfl
    | some o =>
      rw [b1 b o q] at e
      cases e
  have bC : B2.get? s3.heap.objs.size = none := by
    rw [eB2]
    exact PySem.W.hideAll_none _ (List.mem_singleton.mpr rfl)
  obtain ⟨k1, k2, k3, oe, vs, T, oT, ts, t1, t2, t3, t4, t5, t6⟩ := fl
  have fl2 : HandSPX.FlyingZ B2 (X.env :: X.outer) a (Zc cls d) s'.heap := by
    refine ⟨fun b o e => k1 b o (b1 b o e), b3 _ k2, ?_, oe, vs, T, oT, ts, t1, t2, t3, t4, b3 _ t5, t6⟩
    rw [← hs]
    exact funFrames_none k3 fun L hL => b3 _ (k3.mem hL).1
  rw [note_frame hcf]
  refine HandSPX.looks_onZ Zc.steady hfr hf fl2 fun h1 hh up1 => ?_
  show OutC _ _ _ _ _ _ _ _ (Except.error (Value.ref a)) _
  refine ⟨fun f z => (nomatch z), fun x z => ?_⟩
  obtain rfl : Value.ref a = x := Except.error.inj z
  have Ns1 : h1.Ns s3.heap.objs.size m := up1.ns ⟨oC, es, ep, k1 _ _ hBC, hdC, hk⟩
  refine ⟨m, Ns1, fun h2 sb ce' _ e2 => ?_⟩
  obtain ⟨oC1, es1, ep1, hC1, hdC1, _⟩ := Ns1
  obtain ⟨j1, j2, j3, oe', vs', T', oT', ts', q1, q2, q3, q4, q5, q6, q7, q8, q9⟩ := hh
  have naC : a ≠ s3.heap.objs.size := fun z => by
    rw [z, hC1] at q1
    cases q1
    rw [hdC1] at q3
    cases q3
  have nTC : T' ≠ s3.heap.objs.size := fun z => by
    rw [z, hC1] at q7
    cases q7
    rw [hdC1] at q8
    cases q8
  have st2 : B2.StaysIn h2 := fun b o e => (sb.2 b fun z => by
    rw [z, bC] at e
    cases e).trans (j1 b o e)
  have ff2 : h2.FunFrames B2 (X.env :: X.outer) := fun_frames_but sb.2 j3 (by rw [← hs]; exact nC)
  have he2 : h2.get? a = some oe' := (sb.2 a naC).trans q1
  unfold PySem.passOn
  refine wpAny_bind (wpAny_field he2 q3 q4 ?_)
  rw [if_neg (show ¬ ((Value.ref T' == Value.none) = true) from by simp)]
  rw [e2, hcf, hf]
  have fin : wpAny (model X.prog X.w) X.A (setFlight (.ref a) (some X.env.locals)) (fun _ s4 => wpAny (model X.prog X.w) X.A (throw (.ref a) : Sem Value) (fun _ _ => False) X.xe s4) X.xe { s' with heap := h2 } := by
    refine HandSPX.setFlight_anyZ (base := B2) (l := X.env :: X.outer) (Z := Zc cls d) st2 ff2 ⟨oe', vs', T', oT', ts', he2, q2, q3, q4, q5, q6, (sb.2 T' nTC).trans q7, q8, q9⟩ fun h3 y1 y2 y3 up3 => wpAny_throw (tk _ _ ?_)
    obtain ⟨G, g1, g2⟩ := restrict h3 fun b => (B2.get? b).isSome || decide (b ∈ frs X.stack)
    have gB : ∀ b o, B2.get? b = some o → G.get? b = some o := fun b o e => by
      rw [g1 b (by simp [e])]
      exact y1 b o e
    have gF : ∀ b, b ∈ frs X.stack → G.get? b = h3.get? b := fun b hb => g1 b (by simp [hb])
    have og : ∀ b o, G.get? b = some o → h3.get? b = some o ∧ ((B2.get? b).isSome = true ∨ b ∈ frs X.stack) := fun b o e => by
      cases q : ((B2.get? b).isSome || decide (b ∈ frs X.stack)) with
      | false => rw [g2 b q] at e; cases e
      | true =>
        rw [g1 b q] at e
        exact ⟨e, by simpa [Bool.or_eq_true] using q⟩
    have lt3 : ∀ b o, s3.heap.get? b = some o → b ≠ s3.heap.objs.size := fun b o e z => by
      have := Heap.lt_size e
      rw [z] at this
      exact Nat.lt_irrefl _ this
    have slotG : ∀ b o, s3.heap.get? b = some o → H3 b = none → b ∈ frs X.stack → b ∉ fp → ∃ sl, G.get? b = some { o with slots := sl } := fun b o e n hb hx => by
      obtain ⟨sl1, e1⟩ := I5.base.slot b o e n hb hx
      obtain ⟨sl2, e2⟩ := ub.slot b _ e1 hb
      obtain ⟨_, o', e', hd'⟩ := I3.stack.mem hb
      rw [e] at e'
      cases e'
      obtain ⟨sl3, e3⟩ := up1 b _ e2 hd'
      have e4 := (sb.2 b (lt3 b o e)).trans e3
      obtain ⟨sl5, e5⟩ := up3 b _ e4 hd'
      exact ⟨sl5, by rw [gF b hb]; exact e5⟩
    have J : Inv X pins σ H' { s3 with heap := G, gens := s'.gens, drawn := s'.drawn, toks := s'.toks } := by
      refine I3.call (ch := fp) ⟨fun b o e n hb hx => ?_, slotG, fun b o e n hx => ?_, fun b o e hx => ?_, fun b xs e => ub.tups b xs (I5.base.tups b xs e), fun b o u e => ub.frzs b o u (I5.base.frzs b o u e), fun b ps e => ?_⟩ ?_ ag fun b hb => ⟨(f3 b hb).1.2.2.2.1, (f3 b hb).1.2.1, (f3 b hb).1.2.2.2.2.1, (f3 b hb).1.2.2.2.2.2⟩
      · exact gB _ _ (b2 b o (lt3 b o e) (ub.keep b o (I5.base.keep b o e n hb hx) (I5.base.free b o e n hx) hb))
      · obtain ⟨o', e'⟩ := I5.base.there b o e hx
        exact ub.free b o' e' (I5.base.free b o e n hx)
      · by_cases hb : b ∈ frs X.stack
        · obtain ⟨sl, q⟩ := slotG b o e (I3.stkFree b hb) hb hx
          exact ⟨_, q⟩
        · obtain ⟨o', e'⟩ := I5.base.there b o e hx
          obtain ⟨o2, e2⟩ := ub.there b o' e' hb
          exact ⟨o2, gB _ _ (b2 b o2 (lt3 b o e) e2)⟩
      · obtain ⟨m1, e1⟩ := I5.base.tbls b ps e
        obtain ⟨m2, e2⟩ := ub.tbls b _ e1
        exact ⟨m1 ++ m2, by rw [e2, Array.append_assoc]⟩
      · have hok2 : HOk X.prog X.w H' B2 := fun b o q => (hok b o q).stay (fun c u hc r => b2 c u (fun z => by
          subst z
          rcases hc with hc | hc
          · rw [hc, q] at nHC
            cases nHC
          · rw [hc] at nHC
            cases nHC) r) (fun _ r => r) fun _ _ r => r
        exact hok2.kept gB
    refine ⟨a, B2, _, pins, σ, H', cls, d, rfl, J, fun b o e hb => ?_, Heap.UpToSlots.of_keeps fun b o e => (og b o e).1, .inr (.inr ⟨y1, b3 _ k2, by rw [hs]; exact y2, y3⟩), na, os.trans I5.os, ag, hE⟩
    obtain ⟨e', h⟩ := og b o e
    rcases h with h | h
    · obtain ⟨o', q⟩ := Option.isSome_iff_exists.mp h
      have z := y1 b o' q
      rw [e'] at z
      cases z
      exact q
    · exact absurd h hb
  first
    | exact wpAny_bind (wpAny_pure (wpAny_bind fin))
    | exact wpAny_bind fin
end
/-- the block's context, with a wish about exceptions -/
abbrev blkX (X : Cx) (s : Shared) (H : Hp) (scope : Scope) (ce : Env) (fp : List Addr) (Y : Value → Shared → Prop) : Cx := (X.blk s H scope ce fp).wish Y
section
variable {X : Cx} {E : XK} {elt tg iter : Expr} {scope : Scope} {own : List (Str × Nat)} {wi : TI} {g : TG} {te : TE}
theorem lcX_core {pins : List (Addr × Obj)} {s : Shared} {σ : L2.St} {H : Hp} {Q : VK} {pos pos' : Pos} {use : Option (Value → Sem Unit)} {Qf : Value → Shared → Prop}
    (hc : X.calm = true) (hN : X.N.Nodup) (hs : X.stack = X.env :: X.outer) (hf : X.env.frame = some X.env.locals) (tk : Takes X (fun c d _ H => E c d H)) (I : Inv X pins σ H s) (hi : PI X tg iter wi) (ok : BlkOk X.N X.env.scope scope own)
    (hg : ∀ (s : Shared) (H : Hp) (C : Addr) (cl : List (Str × Addr)) (fp : List Addr) (Y : Value → Shared → Prop), PG (blkX X s H scope (compEnvC scope cl C X.env) fp Y) tg g)
    (he : ∀ (s : Shared) (H : Hp) (C : Addr) (cl : List (Str × Addr)) (fp : List Addr) (Y : Value → Shared → Prop), (∀ σ, PassesAt (L2.CX X.prog X.w) (blkX X s H scope (compEnvC scope cl C X.env) fp Y) σ E) → PE (blkX X s H scope (compEnvC scope cl C X.env) fp Y) elt te)
    (hfs : ∀ x, foldedSetIterable iter X.env x = pure x) (h : tLc wi g tYes te (own.map (·.2)) σ H Q)
    (back : ∀ D C s' m H', Inv X pins σ H' s' → Q (.ref D) H' → s'.heap.Ns C m → FpOk X pins H' C → compPost (model X.prog X.w) X.A X.xe use Qf (.ref D) C (.ok .next) s') :
    wpAny (model X.prog X.w) X.A (comprehension (.ListComp elt [⟨tg, iter, [], 0⟩] scope pos) scope X.env pos' (newList []) false (eval iter X.env) use) Qf X.xe s := by
  refine comp_out (use := use) rfl hfs (closure_ok fun y hy e => ?_) ok.kind (fun y hy e => by rw [ok.uniq y hy, e]) (thn (hi.run pins s σ H _ I h) fun xv s1 hx => thn hx fun itv s2 h2 => ?_)
  · rcases ok.free y hy e with k | k
    · exact I.ok.has _ (.inl k)
    · exact I.ok.has _ (.inr k)
  obtain ⟨it, fp, tn, J, H2, rfl, I2, T, st2, f2, q⟩ := h2
  refine wpAny_newObj_type (newEnv_comp ?_) (by show 0 ≤ sizeLine; decide)
  obtain ⟨D, hD⟩ : ∃ D, D = s2.heap.objs.size := ⟨_, rfl⟩
  have nD : H2 D = none := I2.hok.fresh (Nat.le_of_eq hD.symm)
  obtain ⟨W, ⟨m0, w0⟩, turn⟩ := q D nD
  rw [← hD]
  obtain ⟨s3, h3⟩ : ∃ s3 : Shared, s3 = { s2 with heap := s2.heap.push { cls := .type "list", data := .seq ([] : List Value).toArray } } := ⟨_, rfl⟩
  have hp3 : s3.heap = s2.heap.push { cls := .type "list", data := .seq ([] : List Value).toArray } := by rw [h3]
  rw [← h3]
  obtain ⟨H3, eH3⟩ : ∃ H3, H3 = upd H2 D (.lst []) := ⟨_, rfl⟩
  rw [← eH3] at w0
  have I3 : Inv X pins σ H3 s3 := by
    rw [h3, eH3]
    refine I2.laid (t' := s2.toks) (fun b o e => Heap.get?_push_of_some _ e) (Nat.le_of_eq hD.symm) ⟨Nat.zero_le _, [], 0, .nil, ?_⟩
    rw [hD]
    exact Heap.get?_push_size _ rfl
  have f3 : ∀ b ∈ fp, FpOk X pins H3 b ∧ b < s3.heap.objs.size := fun b hb => by
    obtain ⟨o, e, _⟩ := T.obj _ _ st2 b hb
    have lt := Heap.lt_size e
    refine ⟨⟨?_, (f2 b hb).2⟩, by rw [hp3, Heap.size_push]; exact Nat.lt_succ_of_lt lt⟩
    rw [eH3, upd_ne (by rw [hD]; exact Nat.ne_of_lt lt)]
    exact (f2 b hb).1
  have n3 : ∀ b ∈ fp, H3 b = none := fun b hb => (f3 b hb).1.1
  have st3 : tn 0 s3.heap := T.keep _ _ _ st2 fun b _ o e => by
    rw [hp3]
    exact Heap.get?_push_of_some _ e
  have I4 := block_start I3 ok hN f3
  obtain ⟨cl, ecl⟩ : ∃ cl, cl = cellsFrom (s3.heap.objs.size + 1) scope.names (cloFrom X.env.cells scope.names []) := ⟨_, rfl⟩
  show codeAny _ _ (.compStart (.ListComp elt [⟨tg, iter, [], 0⟩] scope pos) 0 (.ref it) (.ref D) (compEnvC scope (cellsFrom (s3.heap.objs.size + 1) scope.names (cloFrom X.env.cells scope.names [])) s3.heap.objs.size X.env)) (OutC (model X.prog X.w) X.A X.xe use Qf (.ref D) s3.heap.objs.size X.env.frame) { s3 with heap := pushCells (s3.heap.push { cls := .type "dict", data := .dict #[] }) scope.names }
  rw [← ecl] at I4 ⊢
  obtain ⟨Y, eY⟩ : ∃ Y, Y = notedBy (model X.prog X.w) X.A (compEnvC scope cl s3.heap.objs.size X.env) fun e s' => OutC (model X.prog X.w) X.A X.xe use Qf (.ref D) s3.heap.objs.size X.env.frame (.error e) s' := ⟨_, rfl⟩
  have px : ∀ σ', PassesAt (L2.CX X.prog X.w) (blkX X s3 H3 scope (compEnvC scope cl s3.heap.objs.size X.env) fp Y) σ' E := fun σ' pins' H5 s5 e s' I5 c => by
    show Y e s'
    rw [eY]
    exact pass_blk (ce := compEnvC scope cl s3.heap.objs.size X.env) I3 hs hf tk rfl rfl f3 I5 c
  have pg := hg s3 H3 s3.heap.objs.size cl fp Y
  have pe := he s3 H3 s3.heap.objs.size cl fp Y px
  obtain ⟨s4, e4⟩ : ∃ s4 : Shared, s4 = { s3 with heap := pushCells (s3.heap.push { cls := .type "dict", data := .dict #[] }) scope.names } := ⟨_, rfl⟩
  rw [← e4] at I4 ⊢
  have st4 : tn 0 s4.heap := T.keep _ _ _ st3 fun b _ o e => by
    rw [e4]
    exact pushCells_keeps _ _ _ _ (Heap.get?_push_of_some _ e)
  have I4 := I4.wish Y
  have stat : ∀ {σ' : L2.St} {H' : Hp} {s' : Shared}, Inv (blkX X s3 H3 scope (compEnvC scope cl s3.heap.objs.size X.env) fp Y) [] σ' H' s' → (∀ b ∈ fp, H' b = none) → ∀ b ∈ fp, FpOk (blkX X s3 H3 scope (compEnvC scope cl s3.heap.objs.size X.env) fp Y) [] H' b := fun {σ' H' s'} I' hn b hb =>
    ⟨hn b hb, (I'.ok.exf b hb).1, I'.ok.exfs b hb, .inl hb, fun x c e => (I'.ok.exf b hb).2 x c e, fun p hp => absurd (show p ∈ ([] : List (Addr × Obj)) ++ [] from hp) (by simp)⟩
  have loop : codeAny (model X.prog X.w) X.A (.compLoop (.ListComp elt [⟨tg, iter, [], 0⟩] scope pos) 0 (.ref it) (.ref D) (compEnvC scope cl s3.heap.objs.size X.env)) (OutC (model X.prog X.w) X.A X.xe use Qf (.ref D) s3.heap.objs.size X.env.frame) s4 := by
    refine compLoop_any (fun n s' => ∃ i H', Inv (blkX X s3 H3 scope (compEnvC scope cl s3.heap.objs.size X.env) fp Y) [] (wipe σ (own.map (·.2))) H' s' ∧ tn i s'.heap ∧ (∀ b ∈ fp, H' b = none) ∧ W i n H') ?_ m0 ⟨0, H3, I4, st4, n3, w0⟩
    rintro n s5 ⟨i, H5, I5, st5, n5, w5⟩
    rw [← eY]
    rcases turn i n H5 w5 with ⟨stop, qq⟩ | ⟨go, Nx, hNx, step⟩
    · refine thnF (T.done (blkX X s3 H3 scope (compEnvC scope cl s3.heap.objs.size X.env) fp Y) rfl rfl rfl hc i [] s5 _ H5 (fun _ _ => False) I5 (stat I5 n5) st5 stop) fun r s6 ⟨hr, I6⟩ => ?_
      subst hr
      have I7 : Inv X pins σ H5 s6 := I3.call' (ch := fp) I6.os I6.base I6.hok I6.bare fun b hb => ⟨(f3 b hb).1.2.2.2.1, (f3 b hb).1.2.1, (f3 b hb).1.2.2.2.2.1, (f3 b hb).1.2.2.2.2.2⟩
      obtain ⟨m, hn, _⟩ := I6.loc
      refine ⟨fun f z => ?_, fun x z => (nomatch z)⟩
      obtain rfl : Flow.next = f := Except.ok.inj z
      exact back D s3.heap.objs.size s6 m H5 I7 qq hn (I3.fpOk (Nat.le_refl _) I6.free)
    · refine thnF (T.item (blkX X s3 H3 scope (compEnvC scope cl s3.heap.objs.size X.env) fp Y) rfl rfl rfl hc i [] s5 _ H5 (fun _ _ => False) I5 (stat I5 n5) st5 go) fun r s6 ⟨u, hr, h6⟩ => ?_
      subst hr
      refine thnF h6 fun _ s7 ⟨x, H7, I7, r7, y7, st7, n7⟩ => ?_
      refine thn (pg.run _ s7 _ H7 x u _ (I7.pinned (stat I7 n7) (T.obj _ _ st7)) r7 (step x H7 y7)) fun _ s8 ⟨σ8, H8, I8, hw8, q8⟩ => ?_
      have q8 : te σ8 H8 fun y H4 => ∃ acc, H4 D = some (.lst acc) ∧ acc.length < sizeLine ∧ Nx (upd H4 D (.lst (acc ++ [y]))) := by
        have q8 : (if true = true then te σ8 H8 fun y H4 => ∃ acc, H4 D = some (.lst acc) ∧ acc.length < sizeLine ∧ Nx (upd H4 D (.lst (acc ++ [y]))) else Nx H8) := q8
        rwa [if_pos rfl] at q8
      refine thn ((pts_nil (X := blkX X s3 H3 scope (compEnvC scope cl s3.heap.objs.size X.env) fp Y)).run _ s8 σ8 H8 (fun b H9 => b = true ∧ H9 = H8) I8 ⟨rfl, rfl⟩) fun b s9 ⟨H9, I9, q9⟩ => ?_
      obtain ⟨rfl, rfl⟩ := q9
      rw [if_pos rfl]
      refine thn (pe.run _ s9 σ8 H9 _ I9 q8) fun z s10 ⟨yv, H10, I10, r10, acc, hD10, hz10, nx⟩ => ?_
      refine app_ok (X := blkX X s3 H3 scope (compEnvC scope cl s3.heap.objs.size X.env) fp Y) I10 hD10 hz10 r10 fun s11 I11 => ?_
      obtain ⟨m', hm, w'⟩ := hNx _ nx
      have pin' : ∀ b ∈ fp, ∀ o, s7.heap.get? b = some o → s11.heap.get? b = some o ∧ upd H10 D (.lst (acc ++ [yv])) b = none := fun b hb o e =>
        let z := I11.pin (b, o) (List.mem_append_right _ (List.mem_append_right _ (mem_pinsAt hb e)))
        ⟨z.1, z.2.1⟩
      refine ⟨m', hm, i + 1, _, (I11.unpinned (pins := [])).weak (by rw [← hw8, wipe_length]) (fun j v e => ?_), T.keep _ _ _ st7 fun b hb o e => (pin' b hb o e).1, fun b hb => ?_, w'⟩
      · rw [← hw8] at e
        exact (wipe_some e).1
      · obtain ⟨o, e, _⟩ := T.obj _ _ st7 b hb
        exact (pin' b hb o e).2
  exact codeAny_compStart_list loop (T.self X.A 0 _ _ _ st4 loop)
/-- name = [..] on one line -/
theorem ps_setLcX {i : Nat} {y : Str} {py pos spos : Pos} (hc : X.calm = true) (hN : X.N.Nodup) (hs : X.stack = X.env :: X.outer) (hf : X.env.frame = some X.env.locals) (tk : Takes X (fun c d _ H => E c d H)) (hy : X.N[i]? = some y) (hyl : X.env.scope.names.lookup y = some .local)
    (hsw : swapsWith (.ListComp elt [⟨tg, iter, [], 0⟩] scope pos) (some (.Name y py)) spos.line X.env = pure true) (hi : PI X tg iter wi) (ok : BlkOk X.N X.env.scope scope own)
    (hg : ∀ (s : Shared) (H : Hp) (C : Addr) (cl : List (Str × Addr)) (fp : List Addr) (Y : Value → Shared → Prop), PG (blkX X s H scope (compEnvC scope cl C X.env) fp Y) tg g)
    (he : ∀ (s : Shared) (H : Hp) (C : Addr) (cl : List (Str × Addr)) (fp : List Addr) (Y : Value → Shared → Prop), (∀ σ, PassesAt (L2.CX X.prog X.w) (blkX X s H scope (compEnvC scope cl C X.env) fp Y) σ E) → PE (blkX X s H scope (compEnvC scope cl C X.env) fp Y) elt te)
    (hfs : ∀ x, foldedSetIterable iter X.env x = pure x := by intro _; rfl) : PS X (.Assign [.Name y py] (.ListComp elt [⟨tg, iter, [], 0⟩] scope pos) spos) (tAsg (tLc wi g tYes te (own.map (·.2))) (gName i)) := by
  refine ⟨fun pins s σ H D I h => ?_⟩
  rw [exec_Assign_Name_used _ _ _ _ hsw]
  refine wpAny_bind (wpAny_standAt (wpAny_bind ?_))
  show wpAny _ X.A (do let _ ← comprehension (.ListComp elt [⟨tg, iter, [], 0⟩] scope pos) scope X.env (firstIterPos [⟨tg, iter, [], 0⟩] pos) (newList []) false (eval iter X.env) (some (assign (.Name y py) X.env))) _ _ s
  have h : tLc wi g tYes te (own.map (·.2)) σ H (fun x H1 => gName i x σ H1 D.nx) := h
  refine wpAny_bind (thn (lcX_core (Qf := fun _ s' => SP X pins D .next s') hc hN hs hf tk I hi ok hg he hfs h fun L C s' m H' I' q hn f => ?_) fun _ s' hq => wpAny_pure (wpAny_pure hq))
  obtain ⟨f0, f1, f2, f3, f4, f5⟩ := f
  refine wpAny_assign_Name (store_ok2 (v := V.ref L) I' hN hy (.inl hyl) rfl (fun s2 I2 ⟨a, sb, ha⟩ => ?_) (.inr hyl))
  have haC : C ≠ a := ha.elim (fun z => by rw [z]; exact f1) fun z => fun e => f4 y a z e.symm
  exact ⟨m, hn.sameBut sb haC, fun h3 sb3 => ⟨_, H', I2.turned (t' := s2.toks) (fun b o hb e => (sb3.2 b hb).trans e) f0 f1 f3 f4 f5, q⟩⟩
end
end Z
set_option maxHeartbeats 4000000
namespace Z
open PySem PySem.Spec PyProof.Rows L2
def penK (c : Addr) (a l : Int) : List (Key × V) := [(.inr "cells", .ref c), (.inr "at", .int a), (.inr "left", .int l)]
theorem key_ne {x y : Str} (h : ¬ x = y) : ¬ ((Sum.inr x : Key) = Sum.inr y) := fun q => h (Sum.inr.inj q)
theorem ca_ : ¬ (("cells" : Str) = "at") := by decide +kernel
theorem cl_ : ¬ (("cells" : Str) = "left") := by decide +kernel
theorem al_ : ¬ (("at" : Str) = "left") := by decide +kernel
theorem penK_cells (c : Addr) (a l : Int) : valV (penK c a l) (Sum.inr "cells" : Key) = some (.ref c) := valV_pos rfl
theorem penK_at (c : Addr) (a l : Int) : valV (penK c a l) (Sum.inr "at" : Key) = some (.int a) := by
  unfold penK
  rw [valV_neg (key_ne ca_)]
  exact valV_pos rfl
theorem penK_left (c : Addr) (a l : Int) : valV (penK c a l) (Sum.inr "left" : Key) = some (.int l) := by
  unfold penK
  rw [valV_neg (key_ne cl_), valV_neg (key_ne al_)]
  exact valV_pos rfl
theorem penK_put_at (c : Addr) (a l b : Int) : putK (penK c a l) (Sum.inr "at" : Key) (.int b) = penK c b l := by
  unfold putK
  rw [valV_any, penK_at, if_pos (show (some (V.int a)).isSome = true from rfl)]
  unfold penK
  simp only [List.map_cons, List.map_nil, if_neg (key_ne ca_), if_neg (key_ne (fun q => al_ q.symm)), if_true]
theorem penK_put_left (c : Addr) (a l b : Int) : putK (penK c a l) (Sum.inr "left" : Key) (.int b) = penK c a b := by
  unfold putK
  rw [valV_any, penK_left, if_pos (show (some (V.int l)).isSome = true from rfl)]
  unfold penK
  simp only [List.map_cons, List.map_nil, if_neg (key_ne cl_), if_neg (key_ne al_), if_true]
/-- a pen stands at p; at most t numbers were drawn -/
def Pen (H : Hp) (p : Addr) (t : Nat) : Prop := ∃ (c : Addr) (ns : List Int) (a l : Int), H p = some (.dK (penK c a l)) ∧ H c = some (.lst (ns.map V.int)) ∧ ns.length ≤ 63 ∧ 0 ≤ a ∧ a ≤ (t : Int) ∧ 0 ≤ l
/-- all but p is as it was -/
def Keep (p : Addr) (H H' : Hp) : Prop := ∀ a o, a ≠ p → H a = some o → H' a = some o
theorem Keep.refl (p : Addr) (H : Hp) : Keep p H H := fun _ _ _ h => h
theorem Keep.trans {p : Addr} {H H1 H2 : Hp} (a : Keep p H H1) (b : Keep p H1 H2) : Keep p H H2 := fun c o n h => b c o n (a c o n h)
theorem Keep.of {p : Addr} {H H' : Hp} (s : Same H H') : Keep p H H' := fun a o _ h => s a o h
theorem Keep.upd {p : Addr} {H H1 : Hp} (o : HO) (k : Keep p H H1) : Keep p H (upd H1 p o) := fun a u n h => by
  rw [upd_ne n]
  exact k a u n h
theorem Keep.new {p l : Addr} {H H1 : Hp} (o : HO) (k : Keep p H H1) (hl : H1 l = none) : Keep p H (L2.upd H1 l o) := fun a u n h => by
  have q := k a u n h
  rw [upd_ne (ne_of_none q hl)]
  exact q
theorem Same.new {l : Addr} {H H1 : Hp} (o : HO) (k : Same H H1) (hl : H1 l = none) : Same H (upd H1 l o) := fun a u h => by
  have q := k a u h
  rw [upd_ne (ne_of_none q hl)]
  exact q
theorem Pen.mono {H : Hp} {p : Addr} {t t' : Nat} (h : Pen H p t) (e : t ≤ t') : Pen H p t' := by
  obtain ⟨c, ns, a, l, h1, h2, h3, h4, h5, h6⟩ := h
  exact ⟨c, ns, a, l, h1, h2, h3, h4, by omega, h6⟩
/-- a pen is not touched where all stands -/
theorem Pen.same {H H' : Hp} {p : Addr} {t : Nat} (h : Pen H p t) (s : Same H H') : Pen H' p t := by
  obtain ⟨c, ns, a, l, h1, h2, h3⟩ := h
  exact ⟨c, ns, a, l, s _ _ h1, s _ _ h2, h3⟩
/-- what is no dict is not the pen -/
theorem Pen.ne {H : Hp} {p a : Addr} {t : Nat} {o : HO} (h : Pen H p t) (e : H a = some o) (d : ∀ kvs, o ≠ .dK kvs) : a ≠ p := by
  obtain ⟨c, ns, x, l, h1, _⟩ := h
  exact ne_of e h1 (d _)
def spPen (K : PySem.W.Frag) : Sp := fun vs H Q _ => ∃ (a : Addr) (ns : List Int), vs = [.ref a] ∧ SqL K H a (ns.map V.int) ∧ ns.length ≤ 63 ∧ ∀ H' p, Same H H' → H p = none → Pen H' p 0 → Q (.ref p) H'
def spPick : Sp := fun vs H Q _ => ∃ (p l : Addr) (xs : List V) (t : Nat), vs = [.ref p, .ref l] ∧ H l = some (.lst xs) ∧ 0 < xs.length ∧ xs.length < 1000 ∧ t < 1000000000 ∧ Pen H p t ∧
  ∀ H' (i : Nat) (v : V), xs[i]? = some v → Pen H' p (t + 1) → Keep p H H' → Q v H'
theorem fmod_range {x m : Int} (h : 0 < m) : 0 ≤ x.fmod m ∧ x.fmod m < m := by
  rw [Int.fmod_eq_emod_of_nonneg _ (Int.le_of_lt h)]
  exact ⟨Int.emod_nonneg _ (by omega), Int.emod_lt_of_pos _ h⟩
theorem fdiv_nn {x m : Int} (hx : 0 ≤ x) (h : 0 < m) : 0 ≤ x.fdiv m := by
  rw [Int.fdiv_eq_ediv_of_nonneg _ (Int.le_of_lt h)]
  exact Int.ediv_nonneg hx (Int.le_of_lt h)
theorem mul_okf {x m : Int} (h : 0 < m) (hm : m ≤ 2147483648) : -(2 ^ 64) < x.fmod m ∧ x.fmod m < 2 ^ 64 := by
  have := fmod_range (x := x) h
  omega
theorem mul_okf1 {x m : Int} (h : 0 < m) (hm : m ≤ 2147483648) : -(2 ^ 64) < x.fmod m + 1 ∧ x.fmod m + 1 < 2 ^ 64 := by
  have := fmod_range (x := x) h
  omega
section
variable {H : Hp} {p c : Addr} {a l b : Int}
theorem pen_left (h : H p = some (.dK (penK c a l))) : DGet H p (.str "left") (some (.int l)) := by
  have z := DGet.k (k := (Sum.inr "left" : Key)) h
  rw [penK_left] at z
  exact z
theorem pen_at (h : H p = some (.dK (penK c a l))) : DGet H p (.str "at") (some (.int a)) := by
  have z := DGet.k (k := (Sum.inr "at" : Key)) h
  rw [penK_at] at z
  exact z
theorem pen_cells (h : H p = some (.dK (penK c a l))) : DGet H p (.str "cells") (some (.ref c)) := by
  have z := DGet.k (k := (Sum.inr "cells" : Key)) h
  rw [penK_cells] at z
  exact z
theorem pen_put_left (b : Int) (h : H p = some (.dK (penK c a l))) : DPut H p (.str "left") (.int b) (upd H p (.dK (penK c a b))) := by
  have z := DPut.k (k := (Sum.inr "left" : Key)) (v := .int b) h (show 3 < sizeLine by decide)
  rw [penK_put_left] at z
  exact z
theorem pen_put_at (b : Int) (h : H p = some (.dK (penK c a l))) : DPut H p (.str "at") (.int b) (upd H p (.dK (penK c b l))) := by
  have z := DPut.k (k := (Sum.inr "at" : Key)) (v := .int b) h (show 3 < sizeLine by decide)
  rw [penK_put_at] at z
  exact z
end
theorem lst_ne_dK {xs : List V} {kvs : List (Key × V)} : HO.lst xs ≠ .dK kvs := fun z => by cases z
/-- data: a list of ints -/
theorem dpAll_ints {K : PySem.W.Frag} {H : Hp} : ∀ ns : List Int, DpAll K H (ns.map V.int) (ns.map PyData.int)
  | [] => .nil
  | _ :: ns => .cons (.int _) (dpAll_ints ns)
theorem canLay_ints : ∀ ns : List Int, PyData.canLayAll0 (ns.map PyData.int) = true
  | [] => by simp [PyData.canLayAll0]
  | _ :: ns => by simp [PyData.canLayAll0, PyData.canLay0, canLay_ints ns]
theorem depth_ints : ∀ ns : List Int, PyData.depthAll (ns.map PyData.int) = 0
  | [] => by simp [PyData.depthAll]
  | _ :: ns => by simp [PyData.depthAll, PyData.depth, depth_ints ns]
theorem shaped_ints (ns : List Int) : SeqAt.shaped (.list (ns.map PyData.int)) = true := by
  simp [SeqAt.shaped, PyData.canLay0, canLay_ints, PyData.depth, depth_ints]
theorem shaped_nil : SeqAt.shaped (.list []) = true := shaped_ints []
theorem eqv_ints_nil (ns : List Int) : PyData.eqv (.list (ns.map PyData.int)) (.list []) = ns.isEmpty := by
  cases ns <;> simp [PyData.eqv, PyData.eqvAll]
theorem get_ints {ns : List Int} {i : Nat} (h : i < ns.length) : (ns.map V.int)[i]? = some (.int (ns[i]'h)) := by
  rw [List.getElem?_map, List.getElem?_eq_getElem h]
  rfl
end Z
set_option maxHeartbeats 4000000
namespace Z
open PySem PySem.W PySem.Calls PyProof.Rows
end Z
set_option maxHeartbeats 4000000
namespace Z
open PySem PySem.Spec PyProof.Rows L2
/-- what is asked of a class whose instances stand beside ints -/
def opiB (K : PySem.W.Frag) (C : Addr) (nm : String) : Bool :=
  PySem.W.selfFirst K C && ((match PySem.W.findIn K (.ref C) (dunderR nm) with
    | some none => true
    | some (some (.ref _)) => true
    | _ => false) && ((PySem.W.findIn K (.type "int") (dunder nm)).isSome && ((PySem.W.findIn K (.type "int") (dunderR nm)).isSome && (decide (PySem.W.subIn K (.type "int") (.ref C) = some false) && decide (PySem.W.subIn K (.ref C) (.type "int") = some false)))))
structure OpI (K : PySem.W.Frag) (C : Addr) (nm : String) : Prop where
  sf : PySem.W.selfFirst K C = true
  rr : ∃ rc, PySem.W.findIn K (.ref C) (dunderR nm) = some rc ∧ (rc = none ∨ ∃ g : Addr, rc = some (.ref g))
  i1 : ∃ fo, PySem.W.findIn K (.type "int") (dunder nm) = some fo
  i2 : ∃ fo, PySem.W.findIn K (.type "int") (dunderR nm) = some fo
  s1 : PySem.W.subIn K (.type "int") (.ref C) = some false
  s2 : PySem.W.subIn K (.ref C) (.type "int") = some false
theorem opiB_ok {K : PySem.W.Frag} {C : Addr} {nm : String} (h : opiB K C nm = true) : OpI K C nm := by
  obtain ⟨h1, h⟩ := He.ba h
  obtain ⟨h2, h⟩ := He.ba h
  obtain ⟨h3, h⟩ := He.ba h
  obtain ⟨h4, h⟩ := He.ba h
  obtain ⟨h5, h6⟩ := He.ba h
  refine ⟨h1, ?_, Option.isSome_iff_exists.mp h3, Option.isSome_iff_exists.mp h4, of_decide_eq_true h5, of_decide_eq_true h6⟩
  cases e : PySem.W.findIn K (.ref C) (dunderR nm) with
  | none =>
    rw [e] at h2
    cases h2
  | some o =>
    rw [e] at h2
    cases o with
    | none => exact ⟨_, rfl, .inl rfl⟩
    | some v =>
      cases v with
      | ref g => exact ⟨_, rfl, .inr ⟨g, rfl⟩⟩
      | _ => cases h2
/-- a method that the class itself has, and its promise -/
def Om (P : Program) (w : World) (K : PySem.W.Frag) (mg : Str → Option Value) (base : Heap) (C : Addr) (k : Nat) (name : Str) (sp : Sp) : Prop :=
  ∃ (f : Addr) (fd : FuncData) (ps : List Str), FnOk P w K mg base CX0 k f fd ps sp ∧ PySem.W.findIn K (.ref C) name = some (some (.ref f)) ∧ PySem.W.isFn K (.ref f) = true ∧ Binds K fd ps []
theorem not_ni {v : V} {u : Value} (r : RelV v u) : u ≠ .notImplemented := by
  intro e
  subst e
  cases v with
  | non => cases r
  | bl b => cases r
  | int i => obtain ⟨_, r⟩ := r; cases r
  | str x => obtain ⟨_, r⟩ := r; cases r
  | byt b => obtain ⟨_, r⟩ := r; cases r
  | flt b => obtain ⟨_, r⟩ := r; cases r
  | ref a => cases r
  | ty n => cases r
section
variable {X : Cx}
theorem back_of {pins : List (Addr × Obj)} {σ : L2.St} {Q : VK} {u : Value} {s' : Shared} (h : EP X pins σ Q u s') : PySem.W.CmpBack (EP X pins σ Q) u s' := by
  obtain ⟨v, H', I, r, q⟩ := h
  have n := not_ni r
  cases u <;> first | exact absurd rfl n | exact ⟨v, H', I, r, q⟩
theorem om_run {pins : List (Addr × Obj)} {σ : L2.St} {H : Hp} {s : Shared} {Q : VK} {us : List Value} {vs : List V} {k : Nat} {f : Addr} {fd : FuncData} {ps : List Str} {sp : Sp} (F : FnOk X.prog X.w X.K X.mg X.base CX0 k f fd ps sp) (hb : Binds X.K fd ps []) (hr : Room k X.A)
    (I : L2.Inv X pins σ H s) (r : Vals vs us) (h : sp vs H Q E0) : wpAny (model X.prog X.w) X.A (call (.ref f) us) (PySem.W.CmpBack (EP X pins σ Q)) X.xe s := by
  have h2 : sp (vs ++ []) H Q E0 := by
    rw [List.append_nil]
    exact h
  exact wpAny_mono (run_fn F hr hb .nil pass0 I r h2) (fun u s' q => back_of q) fun _ _ z => z
theorem ins_at {pins : List (Addr × Obj)} {σ : L2.St} {H : Hp} {s : Shared} {a C dx : Addr} {fs : List (Str × V)} (I : L2.Inv X pins σ H s) (e : H a = some (.ins C dx fs)) : ∃ od, PySem.W.InstAt s.heap a (PySem.W.instObj C dx) C (some od) := by
  obtain ⟨mA, O, _⟩ := ins_get I.hok e
  obtain ⟨od, J, _⟩ := O.look
  exact ⟨od, J⟩
/-- x == y, x of the class C with its own == -/
def rEqOwn (K : PySem.W.Frag) (C : Addr) (sp : Sp) : R2 := fun x y H Q => ∃ (a dx : Addr) (fs : List (Str × V)) (t : Value), x = .ref a ∧ H a = some (.ins C dx fs) ∧ TyOf K H y t ∧ PySem.W.notFirst K C t = true ∧ sp [x, y] H Q E0
theorem ty_looks {pins : List (Addr × Obj)} {σ : L2.St} {H : Hp} {s : Shared} {y : V} {u t : Value} (I : L2.Inv X pins σ H s) (ry : RelV y u) (ty : TyOf X.K H y t) : PySem.W.Looks (model X.prog X.w) s.heap (typeOf u) t := by
  obtain ⟨P, Z, p, _⟩ := kit_of I ry (.base ty)
  exact Z.ty _ _ I.kIn p
theorem op_eqOwn {C : Addr} {k j : Nat} {sp : Sp} (O : Om X.prog X.w X.K X.mg X.base C j "__eq__" sp) (hr : Room k X.A) (hjk : j ≤ k := by decide) : OpR X (compareOp .Eq) (rEqOwn X.K C sp) := by
  intro pins s σ H x y v u Q I rx ry h
  obtain ⟨a, dx, fs, t, rfl, ha, ty, hn, q⟩ := h
  obtain ⟨f, fd, ps, F, hs, hf, hbd⟩ := O
  have rr : Vals [V.ref a, y] [v, u] := .cons rx (.cons ry .nil)
  cases (show v = Value.ref a from rx)
  obtain ⟨od, J⟩ := ins_at I ha
  obtain ⟨m, hF⟩ := I.fr
  show wpAny (model X.prog X.w) X.A (richCompare .Eq (.ref a) u) (EP X pins σ Q) X.xe s
  exact PySem.W.cmp_K (op := .Eq) hr.units0 hF I.ok.mod.kin J (ty_looks I ry ty) hn hs hf (om_run F hbd (hr.mono hjk) I rr q)
end
end Z
set_option maxHeartbeats 4000000
namespace Z
open PySem PySem.Spec PyProof.Rows L2
theorem Same.keep {H H1 H' : Hp} {a : Addr} {o : HO} (s : Same H H1) (ha : H1 a = none) (kp : Keep a (upd H1 a o) H') : Same H H' := fun b u e => by
  have q := s b u e
  have nb : b ≠ a := ne_of_none q ha
  exact kp b u nb (by rw [upd_ne nb]; exact q)
/-- behind a new instance -/
theorem Same.made {H H1 H' : Hp} {x dx C : Addr} (s : Same H H1) (nx : H1 x = none) (nd : H1 dx = none) (kp : Keep x (upd (upd H1 dx (.own x)) x (.ins C dx [])) H') : Same H H' := fun b u e => by
  have q := s b u e
  have nb : b ≠ x := ne_of_none q nx
  have nd' : b ≠ dx := ne_of_none q nd
  exact kp b u nb (by rw [upd_ne nb, upd_ne nd']; exact q)
theorem in_ : ¬ (("i" : Str) = "n") := by decide +kernel
theorem io_ : ¬ (("i" : Str) = "one") := by decide +kernel
theorem no_ : ¬ (("n" : Str) = "one") := by decide +kernel
theorem sd_ : ¬ (("straight" : Str) = "divisor") := by decide +kernel
theorem len1 (f : Str) (v : V) : (putF f v []).length < 1000 := Nat.lt_of_le_of_lt (length_putF f v []) (by decide)
theorem len2 (f g : Str) (v u : V) : (putF f v (putF g u [])).length < 1000 := Nat.lt_of_le_of_lt (Nat.le_trans (length_putF f v _) (Nat.add_le_add_right (length_putF g u []) 1)) (by decide)
def sf (a b c : Int) : List (Str × V) := putF "one" (.int c) (putF "n" (.int b) (putF "i" (.int a) []))
theorem sf_i (a b c : Int) : (sf a b c).lookup ("i" : Str) = some (.int a) := by
  unfold sf
  rw [lookup_putF, if_neg io_, lookup_putF, if_neg in_, lookup_putF, if_pos rfl]
theorem sf_n (a b c : Int) : (sf a b c).lookup ("n" : Str) = some (.int b) := by
  unfold sf
  rw [lookup_putF, if_neg no_, lookup_putF, if_pos rfl]
theorem sf_one (a b c : Int) : (sf a b c).lookup ("one" : Str) = some (.int c) := by
  unfold sf
  rw [lookup_putF, if_pos rfl]
def pf (q : Addr) (d : Int) : List (Str × V) := putF "divisor" (.int d) (putF "straight" (.ref q) [])
theorem pf_s (q : Addr) (d : Int) : (pf q d).lookup ("straight" : Str) = some (.ref q) := by
  unfold pf
  rw [lookup_putF, if_neg sd_, lookup_putF, if_pos rfl]
theorem pf_d (q : Addr) (d : Int) : (pf q d).lookup ("divisor" : Str) = some (.int d) := by
  unfold pf
  rw [lookup_putF, if_pos rfl]
section
variable (K : PySem.W.Frag)
abbrev CS : Addr := He.ga K "Straight"
abbrev CP : Addr := He.ga K "Place"
def StrAt (H : Hp) (p : Addr) (a b c : Int) : Prop := ∃ dx, H p = some (.ins (CS K) dx (sf a b c))
def PlcAt (H : Hp) (p : Addr) (a b c d : Int) : Prop := ∃ dx q, H p = some (.ins (CP K) dx (pf q d)) ∧ StrAt K H q a b c
/-- a sum, or an int in its place -/
def SumV (H : Hp) (v : V) (a b c : Int) : Prop := (∃ p, v = .ref p ∧ StrAt K H p a b c) ∨ (v = .int c ∧ a = 0 ∧ b = 0)
end
variable {K : PySem.W.Frag}
theorem StrAt.same {H H' : Hp} {p : Addr} {a b c : Int} (h : StrAt K H p a b c) (s : Same H H') : StrAt K H' p a b c := by
  obtain ⟨dx, h⟩ := h
  exact ⟨dx, s _ _ h⟩
theorem PlcAt.same {H H' : Hp} {p : Addr} {a b c d : Int} (h : PlcAt K H p a b c d) (s : Same H H') : PlcAt K H' p a b c d := by
  obtain ⟨dx, q, h, h2⟩ := h
  exact ⟨dx, q, s _ _ h, h2.same s⟩
theorem SumV.same {H H' : Hp} {v : V} {a b c : Int} (h : SumV K H v a b c) (s : Same H H') : SumV K H' v a b c := by
  rcases h with ⟨p, e, h⟩ | h
  · exact .inl ⟨p, e, h.same s⟩
  · exact .inr h
theorem StrAt.keep {H H' : Hp} {p q : Addr} {a b c : Int} {t : Nat} (h : StrAt K H p a b c) (hp : Pen H q t) (k : Keep q H H') : StrAt K H' p a b c := by
  obtain ⟨dx, h⟩ := h
  exact ⟨dx, k _ _ (hp.ne h fun _ z => by cases z) h⟩
theorem PlcAt.keep {H H' : Hp} {p q : Addr} {a b c d : Int} {t : Nat} (h : PlcAt K H p a b c d) (hp : Pen H q t) (k : Keep q H H') : PlcAt K H' p a b c d := by
  obtain ⟨dx, r, h, h2⟩ := h
  exact ⟨dx, r, k _ _ (hp.ne h fun _ z => by cases z) h, h2.keep hp k⟩
structure Inx (K : PySem.W.Frag) (C : Addr) : Prop where
  ha : PySem.W.findIn K (.ref C) "__class__" = some (some (.builtin "object.__class__"))
  hn : PySem.W.specialIn K (.builtin "object.__class__") "__get__" = some (some (.builtin "getset_descriptor.__get__"))
  ht : PySem.W.takesIn K (.builtin "object.__class__") = some true
  hm : PySem.W.mroIn K C (.type "object") = some true
structure StTx (K : PySem.W.Frag) (mg : Str → Option Value) : Prop where
  gS : mg "Straight" = some (.ref (CS K))
  clS : Cls K (CS K)
  mkS : Mk K (CS K) (He.ma K (CS K) "__init__")
  ixS : Inx K (CS K)
  nI : NoAttr K (CS K) "i"
  nN : NoAttr K (CS K) "n"
  nO : NoAttr K (CS K) "one"
  kSi : PySem.W.kitOne K (.ref (CS K)) (.type "int") = some false
  kSS : PySem.W.kitOne K (.ref (CS K)) (.ref (CS K)) = some true
  kiS : PySem.W.kitOne K (.type "int") (.ref (CS K)) = some false
  isi : mg "isinstance" = none
  int : mg "int" = none
  bool : mg "bool" = none
theorem StTx.ty {mg : Str → Option Value} (T : StTx K mg) {H : Hp} {p : Addr} {a b c : Int} (h : StrAt K H p a b c) : TyOf K H (.ref p) (.ref (CS K)) := by
  obtain ⟨dx, h⟩ := h
  exact .ins h T.clS T.ixS.ha T.ixS.hn T.ixS.ht T.ixS.hm
theorem kii {K : PySem.W.Frag} : PySem.W.kitOne K (.type "int") (.type "int") = some true := kit_ty (by decide +kernel)
theorem kib {K : PySem.W.Frag} : PySem.W.kitOne K (.type "int") (.type "bool") = some false := kit_ty (by decide +kernel)
section
variable (K : PySem.W.Frag)
def spSI : Sp := fun vs H Q _ => ∃ (p dx : Addr) (a b c : Int), vs = [.ref p, .int a, .int b, .int c] ∧ H p = some (.ins (CS K) dx []) ∧ ∀ H', H' p = some (.ins (CS K) dx (sf a b c)) → Keep p H H' → Q .non H'
/-- a new sum is handed back -/
def NewS (H : Hp) (a b c : Int) (Q : VK) : Prop := ∀ p H', Same H H' → H p = none → StrAt K H' p a b c → Q (.ref p) H'
def spIsInt : Sp := fun vs H Q _ => ∃ v, vs = [v] ∧ ((∃ i, v = .int i ∧ Q (.bl true) H) ∨ ∃ p a b c, v = .ref p ∧ StrAt K H p a b c ∧ Q (.bl false) H)
def spLike : Sp := fun vs H Q _ => ∃ v a b c, vs = [v] ∧ SumV K H v a b c ∧ ∀ p H', Same H H' → StrAt K H' p a b c → Q (.ref p) H'
def spSEq : Sp := fun vs H Q _ => ∃ (p : Addr) (a b c : Int) (v : V), vs = [.ref p, v] ∧ StrAt K H p a b c ∧ ((∃ q x y z, v = .ref q ∧ StrAt K H q x y z ∧ Q (.bl (decide (a = x ∧ b = y ∧ c = z))) H) ∨
  ∃ t, TyOf K H v t ∧ PySem.W.kitOne K t (.ref (CS K)) = some false ∧ Q (.bl false) H)
end
end Z
set_option maxHeartbeats 4000000
namespace Z
open PySem PySem.Spec PyProof.Rows L2
end Z
set_option maxHeartbeats 4000000
namespace Z
open PySem PySem.Spec PyProof.Rows L2
def Bd (n : Nat) (x : Int) : Prop := x.natAbs < 2 ^ n
theorem Bd.mono {n m : Nat} {x : Int} (h : Bd n x) (e : n ≤ m) : Bd m x := Nat.lt_of_lt_of_le h (Nat.pow_le_pow_right (by decide) e)
theorem Bd.sub {n : Nat} {x y : Int} (h : Bd n x) (g : Bd n y) : Bd (n + 1) (x - y) := by
  unfold Bd at *
  rw [Nat.pow_succ]
  omega
theorem Bd.of {n : Nat} {x : Int} (N : Nat) (hN : N < 2 ^ n) (h1 : -(N : Int) ≤ x) (h2 : x ≤ (N : Int)) : Bd n x := by
  unfold Bd
  omega
theorem bd_c {n m : Nat} {x y : Int} (h : Bd n x) (g : Bd m y) (h0 : 0 < n := by decide) (h1 : 0 < m := by decide) (e : n + m ≤ 1000000 := by decide) : CMulW x y := wide_mul h g h0 h1 e
section
variable (K : PySem.W.Frag)
def spReplW : Sp := fun vs H Q _ => ∃ (p : Addr) (a b c f g : Int), vs = [.ref p, .int f, .int g] ∧ StrAt K H p a b c ∧ Bd 400 a ∧ Bd 400 f ∧ Bd 400 g ∧ NewS K H (a * f) b (c + a * g) Q
end
end Z
set_option maxHeartbeats 4000000
namespace Z
open PySem PySem.Spec PyProof.Rows L2
section
variable {X : Cx} {CX : CXT} {k : Nat} {f C : Addr} {fd : FuncData} {ps : List Str} {sp : Sp} {E : XK}
theorem make_at {pins : List (Addr × Obj)} {σ : L2.St} {H : Hp} {s : Shared} {Q : VK} {us : List Value} {vs : List V} (M : Mk X.K C f) (F : FnOk X.prog X.w X.K X.mg X.base CX k f fd ps sp) (hr : Room (k + 1) X.A) (hb : Binds X.K fd ps [])
    (hx : PassesAt CX X σ E) (I : L2.Inv X pins σ H s) (r : Vals vs us)
    (h : ∀ x dx, H x = none → H dx = none → dx ≠ x → sp (.ref x :: vs) (upd (upd H dx (.own x)) x (.ins C dx [])) (fun v H2 => v = .non ∧ Q (.ref x) H2) E) :
    wpAny (model X.prog X.w) X.A (call (.ref C) us) (EP X pins σ Q) X.xe s := by
  have q0 := h (s.heap.objs.size + 1) s.heap.objs.size (I.hok.fresh (Nat.le_succ _)) (I.hok.fresh (Nat.le_refl _)) (Nat.ne_of_lt (Nat.lt_succ_self _))
  have J := Inv.made (C := C) I
  have rr : Vals (V.ref (s.heap.objs.size + 1) :: vs) (Value.ref (s.heap.objs.size + 1) :: us) := .cons rfl r
  have len : (Value.ref (s.heap.objs.size + 1) :: us).length = ps.length := by
    have e := rr.length
    rw [F.len _ _ _ _ q0] at e
    exact e.symm
  have bb := hb _ (Value.ref (s.heap.objs.size + 1) :: us) J.kIn (by rw [List.append_nil]; exact len)
  rw [List.append_nil] at bb
  refine wpAny_call (make_map (f := f) I.kIn M.makes M.init (beq_iff_eq.mp M.fn) (codeAny_mono (F.run _ X.stack _ _ ⟨Value.ref (s.heap.objs.size + 1) :: us, []⟩ (Value.ref (s.heap.objs.size + 1) :: us) _ _ E (hr.make C us [])
    (J.env0.make C us []) bb rr q0) fun r' s' z => ?_))
  cases r' with
  | error e => exact hx pins _ _ e s' J z
  | ok fl =>
    cases fl with
    | ret u =>
      obtain ⟨v, H', I3, rv, ev, q3⟩ := J.after z
      subst ev
      exact ⟨rv, ⟨V.ref (s.heap.objs.size + 1), H', I3, rfl, q3⟩⟩
    | next => exact False.elim z
    | brk => exact False.elim z
    | cont => exact False.elim z
theorem at_E0 (σ : L2.St) : PassesAt (L2.CX X.prog X.w) X σ E0 := fun pins H s e s' I h => passL pins σ H s e s' I h
end
def spErr (K : PySem.W.Frag) (x : Str) (fs : List Str) : Sp := fun vs H Q _ => ∃ (a : Addr) (ws : List V), vs = .ref a :: ws ∧ ws.length = fs.length ∧ H a = some (exo a (He.ga K x) none) ∧
  ∀ (d : Addr) (H' : Hp), H d = none → H' a = some (exo a (He.ga K x) (some d)) → H' d = some (exd d (fs.zip ws).reverse) → Keep a H H' → Q .non H'
structure EC (K : PySem.W.Frag) (mg : Str → Option Value) (x : Str) (fs : List Str) : Prop where
  gC : mg x = some (.ref (He.ga K x))
  ox : OexC K (He.ga K x)
  ex : Exk K (He.ga K x)
  iC : PySem.W.findIn K (.ref (He.ga K x)) "__init__" = some (some (.ref (He.ma K (He.ga K x) "__init__")))
  tI : PySem.W.typeIn K (.ref (He.ma K (He.ga K x) "__init__")) = some (.type "function")
  na : ∀ f ∈ fs, PySem.W.findIn K (.ref (He.ga K x)) f = some none
theorem list2 {ws : List V} (h : ws.length = 2) : ∃ y z, ws = [y, z] := match ws, h with | [y, z], _ => ⟨y, z, rfl⟩
theorem list1 {ws : List V} (h : ws.length = 1) : ∃ y, ws = [y] := match ws, h with | [y], _ => ⟨y, rfl⟩
theorem list3 {ws : List V} (h : ws.length = 3) : ∃ y z u, ws = [y, z, u] := match ws, h with | [y, z, u], _ => ⟨y, z, u, rfl⟩
section
variable {K : PySem.W.Frag} {mg : Str → Option Value} {x f1 f2 f3 n0 n1 n2 n3 : Str} {vs : List V} {H : Hp} {Q : VK} {E : XK}
theorem keep1 {a d : Addr} {o u : HO} (hd : H d = none) : Keep a H (upd (upd H d o) a u) := Keep.upd _ (Keep.new _ (Keep.refl a H) hd)
theorem rd_err1 (M : EC K mg x [f1]) (h : spErr K x [f1] vs H Q E) :
    tOst K f1 (tVar 0) (tVar 1) { nx := fun _ H' => Q .non H', rt := Q } (L2.start [n0, n1] vs) H := by
  obtain ⟨a, ws, rfl, hl, ha, k⟩ := h
  obtain ⟨y, rfl⟩ := list1 hl
  refine ⟨_, rfl, _, rfl, a, _, rfl, M.ox, M.na _ (by simp), .inl ⟨ha, fun d hd nd => ?_⟩⟩
  exact k d _ hd upd_same (by rw [upd_ne nd, upd_same]; rfl) (keep1 hd)
theorem rd_err2 (M : EC K mg x [f1, f2]) (h : spErr K x [f1, f2] vs H Q E) :
    tSeq (tOst K f1 (tVar 0) (tVar 1)) (tOst K f2 (tVar 0) (tVar 2)) { nx := fun _ H' => Q .non H', rt := Q } (L2.start [n0, n1, n2] vs) H := by
  obtain ⟨a, ws, rfl, hl, ha, k⟩ := h
  obtain ⟨y, z, rfl⟩ := list2 hl
  refine ⟨_, rfl, _, rfl, a, _, rfl, M.ox, M.na _ (by simp), .inl ⟨ha, fun d hd nd => ?_⟩⟩
  refine ⟨_, rfl, _, rfl, a, _, rfl, M.ox, M.na _ (by simp), .inr ⟨d, [(f1, y)], upd_same, (by rw [upd_ne nd, upd_same]), (by show 1 ≤ 900; decide), ?_⟩⟩
  refine k d _ hd (by rw [upd_ne nd.symm, upd_same]) upd_same fun b u nb e => ?_
  rw [upd_ne (ne_of_none e hd)]
  exact keep1 hd b u nb e
theorem rd_err3 (M : EC K mg x [f1, f2, f3]) (h : spErr K x [f1, f2, f3] vs H Q E) :
    tSeq (tOst K f1 (tVar 0) (tVar 1)) (tSeq (tOst K f2 (tVar 0) (tVar 2)) (tOst K f3 (tVar 0) (tVar 3))) { nx := fun _ H' => Q .non H', rt := Q } (L2.start [n0, n1, n2, n3] vs) H := by
  obtain ⟨a, ws, rfl, hl, ha, k⟩ := h
  obtain ⟨y, z, u, rfl⟩ := list3 hl
  refine ⟨_, rfl, _, rfl, a, _, rfl, M.ox, M.na _ (by simp), .inl ⟨ha, fun d hd nd => ?_⟩⟩
  refine ⟨_, rfl, _, rfl, a, _, rfl, M.ox, M.na _ (by simp), .inr ⟨d, [(f1, y)], upd_same, (by rw [upd_ne nd, upd_same]), (by show 1 ≤ 900; decide), ?_⟩⟩
  refine ⟨_, rfl, _, rfl, a, _, rfl, M.ox, M.na _ (by simp), .inr ⟨d, [(f2, z), (f1, y)], (by rw [upd_ne nd.symm, upd_same]), upd_same, (by show 2 ≤ 900; decide), ?_⟩⟩
  refine k d _ hd (by rw [upd_ne nd.symm, upd_ne nd.symm, upd_same]) upd_same fun b v nb e => ?_
  rw [upd_ne (ne_of_none e hd), upd_ne (ne_of_none e hd)]
  exact keep1 hd b v nb e
end
/-- an error class that may be raised -/
def Mx (P : Program) (w : World) (K : PySem.W.Frag) (mg : Str → Option Value) (base : Heap) (x : Str) (ps fs : List Str) : Prop :=
  EC K mg x fs ∧ ∃ fd, FnOk P w K mg base CX0 1 (He.ma K (He.ga K x) "__init__") fd ps (spErr K x fs) ∧ Binds K fd ps []
section
variable {X : Cx} {e : Expr} {es : List Expr} {t : TA} {p pos pos2 : Pos} {W : WX}
theorem pmk_err {k : Nat} {x : Str} {ps fs : List Str} (M : Mx X.prog X.w X.K X.mg X.base x ps fs) (hr : Room k X.A) (ha : PA X (e :: es) t) (hk : 2 ≤ k := by decide) (hg : Gl X x := by rfl)
    (hdb : (x == ("__debug__" : Str)) = false := by decide) (he : starEach (e :: es) X.env = (false, eval e X.env) :: starEach es X.env := by rfl) (hpl : (backTo pos (starEach es X.env)).any (·.1) = false := by rfl) :
    PMk X (.Call (.Name x p) (e :: es) [] pos) (tMkO (He.ga X.K x) (spErr X.K x fs) [] t) := by
  obtain ⟨T, fd, F, hb⟩ := M
  exact pmk_oex (CX := CX0) (dvs := []) (ds := []) T.ox T.iC T.tI F (hr.mono hk) hb .nil pass0 hg T.gC ha hdb he hpl
/-- the reading of such a raise behind its arguments: the new dict holds the fields, all else is as it was -/
theorem err_go {K : PySem.W.Frag} {x : Str} {fs : List Str} {vs : List V} {H1 : Hp} {Q : XK} (hl : vs.length ≤ 1000) (hlf : vs.length = fs.length)
    (w : ∀ d H', Same H1 H' → H' d = some (.xd (fs.zip vs).reverse) → Q (.ref (He.ga K x)) (some d) H') :
    vs.length ≤ 1000 ∧ ∀ a, H1 a = none → spErr K x fs (.ref a :: (vs ++ [])) (upd H1 a (exo a (He.ga K x) none))
      (fun v H2 => v = .non ∧ ∃ (d : Addr) (fs' : List (Str × V)), H2 a = some (exo a (He.ga K x) (some d)) ∧ H2 d = some (exd d fs') ∧ H1 d = none ∧ Q (.ref (He.ga K x)) (some d) (upd (del H2 a) d (.xd fs'))) (fun _ _ _ => False) := by
  refine ⟨hl, fun a ha => ?_⟩
  rw [List.append_nil]
  refine ⟨a, vs, rfl, hlf, upd_same, fun d H' hd hA hD kp => ⟨rfl, d, _, hA, hD, ?_, w d _ (fun b u e => ?_) upd_same⟩⟩
  · have n : d ≠ a := fun z => by
      rw [z, upd_same] at hd
      cases hd
    rw [upd_ne n] at hd
    exact hd
  · have nb : b ≠ a := ne_of_none e ha
    have nd : b ≠ d := fun z => by
      rw [← z, upd_ne nb] at hd
      rw [hd] at e
      cases e
    rw [upd_ne nd, del_ne nb]
    exact kp b u nb (by rw [upd_ne nb]; exact e)
end
def gg (a b d : Int) : Nat := Nat.gcd (Nat.gcd a.natAbs b.natAbs) d.natAbs
abbrev CB (K : PySem.W.Frag) : Addr := He.ga K "BadNumber"
structure PlTx (K : PySem.W.Frag) (mg : Str → Option Value) : Prop extends StTx K mg where
  gP : mg "Place" = some (.ref (CP K))
  clP : Cls K (CP K)
  mkP : Mk K (CP K) (He.ma K (CP K) "__init__")
  ixP : Inx K (CP K)
  nS : NoAttr K (CP K) "straight"
  nD : NoAttr K (CP K) "divisor"
  gcd : mg "gcd" = some (.builtin "math.gcd")
  kPP : PySem.W.kitOne K (.ref (CP K)) (.ref (CP K)) = some true
  kPS : PySem.W.kitOne K (.ref (CP K)) (.ref (CS K)) = some false
  kSP : PySem.W.kitOne K (.ref (CS K)) (.ref (CP K)) = some false
  kiP : PySem.W.kitOne K (.type "int") (.ref (CP K)) = some false
theorem PlTx.pty {K : PySem.W.Frag} {mg : Str → Option Value} (T : PlTx K mg) {H : Hp} {p : Addr} {a b c d : Int} (h : PlcAt K H p a b c d) : TyOf K H (.ref p) (.ref (CP K)) := by
  obtain ⟨dx, q, h, _⟩ := h
  exact .ins h T.clP T.ixP.ha T.ixP.hn T.ixP.ht T.ixP.hm
def bnF (w : Str) (v : V) : List (Str × V) := [("number", v), ("what", .str w)]
section
variable (K : PySem.W.Frag)
/-- the place that is made of a sum and a divisor -/
def NewP (H : Hp) (a b c d : Int) (Q : VK) : Prop := ∀ p H', Same H H' → PlcAt K H' p (a.fdiv (gg a b d)) (b.fdiv (gg a b d)) (c.fdiv (gg a b d)) (d.fdiv (gg a b d)) → Q (.ref p) H'
def BadN (H : Hp) (w : Str) (v : V) (E : XK) : Prop := ∀ e H', Same H H' → H' e = some (.xd (bnF w v)) → E (.ref (CB K)) (some e) H'
def spPEq : Sp := fun vs H Q _ => ∃ (p : Addr) (a b c d : Int) (v : V), vs = [.ref p, v] ∧ PlcAt K H p a b c d ∧ ((∃ q x y z u, v = .ref q ∧ PlcAt K H q x y z u ∧ Q (.bl (decide (a = x ∧ b = y ∧ c = z ∧ d = u))) H) ∨
  ∃ t, TyOf K H v t ∧ PySem.W.kitOne K t (.ref (CP K)) = some false ∧ Q (.bl false) H)
end
end Z
namespace Z
theorem fe {x g : Int} (h : 0 < g) : x.fdiv g = x / g := Int.fdiv_eq_ediv_of_nonneg _ (Int.le_of_lt h)
theorem gg_pos {a b d : Int} (h : 0 < d) : 0 < gg a b d := Nat.gcd_pos_of_pos_right _ (by omega)
theorem gg_le {a b d : Int} (h : 0 < d) : ((gg a b d : Nat) : Int) ≤ d := by
  have := Nat.le_of_dvd (by omega) (Nat.gcd_dvd_right (Nat.gcd a.natAbs b.natAbs) d.natAbs)
  show ((Nat.gcd (Nat.gcd a.natAbs b.natAbs) d.natAbs : Nat) : Int) ≤ d
  omega
theorem gg_dvd (a b d : Int) : ∃ a' b' d', a = (gg a b d : Int) * a' ∧ b = (gg a b d : Int) * b' ∧ d = (gg a b d : Int) * d' := by
  have h1 : ((gg a b d : Nat) : Int) ∣ a := Int.ofNat_dvd_left.mpr (Nat.dvd_trans (Nat.gcd_dvd_left _ _) (Nat.gcd_dvd_left _ _))
  have h2 : ((gg a b d : Nat) : Int) ∣ b := Int.ofNat_dvd_left.mpr (Nat.dvd_trans (Nat.gcd_dvd_left _ _) (Nat.gcd_dvd_right _ _))
  have h3 : ((gg a b d : Nat) : Int) ∣ d := Int.ofNat_dvd_left.mpr (Nat.gcd_dvd_right _ _)
  exact ⟨_, _, _, h1.choose_spec, h2.choose_spec, h3.choose_spec⟩
theorem fmul {g x : Int} (h : 0 < g) : (g * x).fdiv g = x := by
  rw [fe h]
  exact Int.mul_ediv_cancel_left _ (by omega)
theorem fdiv_bd {x M g : Int} (h : 0 < g) (hM : 0 ≤ M) (h1 : -M ≤ x) (h2 : x ≤ M) : -M ≤ x.fdiv g ∧ x.fdiv g ≤ M := by
  rw [fe h]
  have z : M ≤ M * g := by
    have := Int.mul_le_mul_of_nonneg_left (show (1 : Int) ≤ g by omega) hM
    omega
  have z2 : -M * g ≤ x := by
    rw [Int.neg_mul]
    omega
  refine ⟨Int.le_ediv_of_mul_le h z2, ?_⟩
  exact Int.ediv_le_of_le_mul h (by omega)
/-- the divisor of the least form is from 1 on and not above d -/
theorem dv_bd {a b d : Int} (h : 0 < d) : 1 ≤ d.fdiv (gg a b d) ∧ d.fdiv (gg a b d) ≤ d := by
  have g0 : (0 : Int) < (gg a b d : Nat) := by exact_mod_cast gg_pos h
  refine ⟨?_, (fdiv_bd g0 (Int.le_of_lt h) (by omega) (Int.le_refl d)).2⟩
  rw [fe g0]
  exact Int.le_ediv_of_mul_le g0 (by rw [Int.one_mul]; exact gg_le h)
/-- the value of the least form -/
theorem val_least {a b c d i n : Int} (h : 0 < d) : ((a.fdiv (gg a b d)) * i + (b.fdiv (gg a b d)) * n + c.fdiv (gg a b d)).fdiv (d.fdiv (gg a b d)) = (a * i + b * n + c).fdiv d := by
  have dv := dv_bd (a := a) (b := b) h
  obtain ⟨a', b', d', ha, hb, hd⟩ := gg_dvd a b d
  have g0 : (0 : Int) < (gg a b d : Nat) := by exact_mod_cast gg_pos h
  generalize ((gg a b d : Nat) : Int) = g at *
  have e1 : a.fdiv g = a' := by rw [ha]; exact fmul g0
  have e2 : b.fdiv g = b' := by rw [hb]; exact fmul g0
  have e3 : d.fdiv g = d' := by rw [hd]; exact fmul g0
  rw [e3] at dv
  rw [e1, e2, e3, fe (show 0 < d' by omega), fe g0, fe h]
  have e4 : a * i + b * n + c = c + g * (a' * i + b' * n) := by
    rw [ha, hb, Int.mul_add, Int.mul_assoc, Int.mul_assoc]
    omega
  have e5 : a' * i + b' * n + c / g = (c + g * (a' * i + b' * n)) / g := by
    rw [Int.add_mul_ediv_left _ _ (by omega)]
    omega
  rw [e4, e5, hd, Int.ediv_ediv_of_nonneg (Int.le_of_lt g0)]
end Z
set_option maxHeartbeats 4000000
namespace Z
open PySem PySem.Spec PyProof.Rows L2
def g2 (a b : Int) : Nat := Nat.gcd a.natAbs b.natAbs
def lf3 (a b c : Int) : Int := if g2 a b = 0 then (if 0 ≤ c then 0 else -1) else c.fdiv (g2 a b)
theorem g2_le {a b : Int} {N : Nat} (ha : a.natAbs ≤ N) (hb : b.natAbs ≤ N) : g2 a b ≤ N := by
  unfold g2
  by_cases h : a.natAbs = 0
  · rw [h, Nat.gcd_zero_left]
    exact hb
  · exact Nat.le_trans (Nat.le_of_dvd (by omega) (Nat.gcd_dvd_left _ _)) ha
theorem g2_zero {a b : Int} (h : g2 a b = 0) : a = 0 ∧ b = 0 := by
  unfold g2 at h
  have h1 := Nat.eq_zero_of_gcd_eq_zero_left h
  have h2 := Nat.eq_zero_of_gcd_eq_zero_right h
  omega
section
variable (K : PySem.W.Frag)
abbrev CA : Addr := He.ga K "AtLeast"
abbrev CR : Addr := He.ga K "Rest"
def af (q : Addr) : List (Str × V) := putF "straight" (.ref q) []
def rf (q : Addr) (m r : Int) : List (Str × V) := putF "rest" (.int r) (putF "modulus" (.int m) (putF "straight" (.ref q) []))
def AtlAt (H : Hp) (p : Addr) (a b c : Int) : Prop := ∃ dx q, H p = some (.ins (CA K) dx (af q)) ∧ StrAt K H q a b c
def RstAt (H : Hp) (p : Addr) (a b m r : Int) : Prop := ∃ dx q, H p = some (.ins (CR K) dx (rf q m r)) ∧ StrAt K H q a b 0
end
theorem sm_ : ¬ (("straight" : Str) = "modulus") := by decide +kernel
theorem sr_ : ¬ (("straight" : Str) = "rest") := by decide +kernel
theorem mr_ : ¬ (("modulus" : Str) = "rest") := by decide +kernel
theorem af_s (q : Addr) : (af q).lookup ("straight" : Str) = some (.ref q) := by
  unfold af
  rw [lookup_putF, if_pos rfl]
theorem af_no (q : Addr) {m : Str} (h1 : ¬ m = "straight") : (af q).lookup m = none := by
  unfold af
  rw [lookup_putF, if_neg h1]
  rfl
theorem rf_s (q : Addr) (m r : Int) : (rf q m r).lookup ("straight" : Str) = some (.ref q) := by
  unfold rf
  rw [lookup_putF, if_neg sr_, lookup_putF, if_neg sm_, lookup_putF, if_pos rfl]
theorem rf_m (q : Addr) (m r : Int) : (rf q m r).lookup ("modulus" : Str) = some (.int m) := by
  unfold rf
  rw [lookup_putF, if_neg mr_, lookup_putF, if_pos rfl]
theorem rf_r (q : Addr) (m r : Int) : (rf q m r).lookup ("rest" : Str) = some (.int r) := by
  unfold rf
  rw [lookup_putF, if_pos rfl]
theorem rf_no (q : Addr) (k r : Int) {m : Str} (h1 : ¬ m = "straight") (h2 : ¬ m = "modulus") (h3 : ¬ m = "rest") : (rf q k r).lookup m = none := by
  unfold rf
  rw [lookup_putF, if_neg h3, lookup_putF, if_neg h2, lookup_putF, if_neg h1]
  rfl
variable {K : PySem.W.Frag}
theorem AtlAt.same {H H' : Hp} {p : Addr} {a b c : Int} (h : AtlAt K H p a b c) (s : Same H H') : AtlAt K H' p a b c := by
  obtain ⟨dx, q, h, h2⟩ := h
  exact ⟨dx, q, s _ _ h, h2.same s⟩
theorem RstAt.same {H H' : Hp} {p : Addr} {a b m r : Int} (h : RstAt K H p a b m r) (s : Same H H') : RstAt K H' p a b m r := by
  obtain ⟨dx, q, h, h2⟩ := h
  exact ⟨dx, q, s _ _ h, h2.same s⟩
theorem AtlAt.keep {H H' : Hp} {p q : Addr} {a b c : Int} {t : Nat} (h : AtlAt K H p a b c) (hp : Pen H q t) (k : Keep q H H') : AtlAt K H' p a b c := by
  obtain ⟨dx, r, h, h2⟩ := h
  exact ⟨dx, r, k _ _ (hp.ne h fun _ z => by cases z) h, h2.keep hp k⟩
theorem RstAt.keep {H H' : Hp} {p q : Addr} {a b m r : Int} {t : Nat} (h : RstAt K H p a b m r) (hp : Pen H q t) (k : Keep q H H') : RstAt K H' p a b m r := by
  obtain ⟨dx, r, h, h2⟩ := h
  exact ⟨dx, r, k _ _ (hp.ne h fun _ z => by cases z) h, h2.keep hp k⟩
section
variable (K : PySem.W.Frag)
def NewA (H : Hp) (a b c : Int) (Q : VK) : Prop := ∀ p H', Same H H' → AtlAt K H' p a b c → Q (.ref p) H'
def NewR (H : Hp) (a b m r : Int) (Q : VK) : Prop := ∀ p H', Same H H' → RstAt K H' p a b m r → Q (.ref p) H'
def spIntFrom : Sp := fun vs H Q _ => ∃ v lo hi : Int, vs = [.int v, .int lo, .int hi] ∧ Q (.bl (decide (lo ≤ v ∧ v ≤ hi))) H
def spAI : Sp := fun vs H Q _ => ∃ (p dx : Addr) (v : V) (a b c : Int), vs = [.ref p, v] ∧ H p = some (.ins (CA K) dx []) ∧ SumV K H v a b c ∧ g2 a b < 1073741824 ∧
  ∀ q H', H' p = some (.ins (CA K) dx (af q)) → StrAt K H' q (a.fdiv (g2 a b)) (b.fdiv (g2 a b)) (lf3 a b c) → Keep p H H' → Q .non H'
/-- what Rest(v, m, r) asks -/
def rRst (v : V) (m r : Int) (H : Hp) (ok : Int → Int → Int → Prop) (E : XK) : Prop := ∃ a b c, SumV K H v a b c ∧ (¬ (2 ≤ m ∧ m ≤ 4) → BadN K H "modulus" (.int m) E) ∧ (2 ≤ m → m ≤ 4 → ¬ (0 ≤ r ∧ r ≤ m - 1) → BadN K H "rest" (.int r) E) ∧ (2 ≤ m → m ≤ 4 → 0 ≤ r → r ≤ m - 1 → ok a b c)
def spRI : Sp := fun vs H Q E => ∃ (p dx : Addr) (v : V) (m r : Int), vs = [.ref p, v, .int m, .int r] ∧ H p = some (.ins (CR K) dx []) ∧
  rRst K v m r H (fun a b c => ∀ q H', H' p = some (.ins (CR K) dx (rf q m ((r - c).fmod m))) → StrAt K H' q (a.fmod m) (b.fmod m) 0 → Keep p H H' → Q .non H') E
end
end Z
set_option maxHeartbeats 4000000
namespace Z
open PySem PySem.Spec PyProof.Rows L2
end Z
namespace Z
open PySem PySem.Spec PyProof.Rows L2
end Z
set_option maxHeartbeats 4000000
namespace Z
open PySem PySem.Spec PyProof.Rows L2
/-- the ends of a suite behind which slot i is bare -/
def bare (i : Nat) (D : Ends) : Ends := { nx := fun σ' H' => D.nx (σ'.set i none) H', rt := D.rt, bk := fun σ' H' => D.bk (σ'.set i none) H', ct := fun σ' H' => D.ct (σ'.set i none) H' }
end Z
set_option maxHeartbeats 4000000
namespace Z
open PySem PySem.Spec PyProof.Rows L2
inductive Er where
  | num (w : Str) (v : Int)
  | many (w : Str) (m l : Int)
  | name (x : Str)
def Er.cls (K : PySem.W.Frag) : Er → Addr
  | .num _ _ => He.ga K "BadNumber"
  | .many _ _ _ => He.ga K "TooMany"
  | .name _ => He.ga K "BadName"
def Er.fs : Er → List (Str × V)
  | .num w v => [("number", .int v), ("what", .str w)]
  | .many w m l => [("limit", .int l), ("many", .int m), ("what", .str w)]
  | .name x => [("name", .str x)]
section
variable (K : PySem.W.Frag)
/-- the error is raised, all else as it was -/
def Rz (H : Hp) (E : XK) (e : Er) : Prop := ∀ d H', Same H H' → H' d = some (.xd e.fs) → E (.ref (e.cls K)) (some d) H'
/-- .. but for the object at p -/
def RzK (p : Addr) (H : Hp) (E : XK) (e : Er) : Prop := ∀ d H', Keep p H H' → H' d = some (.xd e.fs) → E (.ref (e.cls K)) (some d) H'
end
/-- the first error of all, or what follows -/
def Out (o : Option Er) (r : Er → Prop) (q : Prop) : Prop := (∀ e, o = some e → r e) ∧ (o = none → q)
theorem Out.none {r : Er → Prop} {q : Prop} (h : q) : Out none r q := ⟨fun _ z => (by cases z), fun _ => h⟩
theorem Out.ok {o : Option Er} {r : Er → Prop} {q : Prop} (h : o = Option.none) (k : q) : Out o r q := ⟨fun _ z => (by rw [h] at z; cases z), fun _ => k⟩
theorem Out.bad {o : Option Er} {e : Er} {r : Er → Prop} {q : Prop} (h : o = some e) (k : r e) : Out o r q := ⟨fun e' z => (by rw [h] at z; cases z; exact k), fun z => (by rw [h] at z; cases z)⟩
theorem Out.or {o1 o2 : Option Er} {r r1 : Er → Prop} {q q1 : Prop} (h : Out (o1.or o2) r q) (hr : ∀ e, r e → r1 e) (k : Out o2 r q → q1) : Out o1 r1 q1 := by
  refine ⟨fun e z => hr e (h.1 e (by rw [z]; rfl)), fun z => k ?_⟩
  subst z
  exact h
theorem Out.end_ {o1 : Option Er} {r r1 : Er → Prop} {q q1 : Prop} (h : Out o1 r q) (hr : ∀ e, r e → r1 e) (k : q → q1) : Out o1 r1 q1 := ⟨fun e z => hr e (h.1 e z), fun z => k (h.2 z)⟩
section
variable {K : PySem.W.Frag} {H H1 : Hp} {E : XK} {e : Er} {p : Addr}
theorem Rz.same (h : Rz K H E e) (s : Same H H1) : Rz K H1 E e := fun d H' s' hd => h d H' (s.trans s') hd
theorem RzK.rz (h : RzK K p H E e) (k : Keep p H H1) : Rz K H1 E e := fun d H' s' hd => h d H' (fun b o nb eb => s' _ _ (k b o nb eb)) hd
end
def ckN (w : Str) (v lo hi : Int) : Option Er := if lo ≤ v ∧ v ≤ hi then none else some (.num w v)
def ckM (w : Str) (m l : Int) : Option Er := if m ≤ l then none else some (.many w m l)
def ckS (a b c : Int) : Option Er := (ckN "i" a (-12) 12).or ((ckN "n" b (-12) 12).or (ckN "one" c (-999) 999))
def ckP (a b c d : Int) : Option Er := (ckS a b c).or (ckN "divisor" d 1 3)
def ckR (a b c d : Int) : Option Er := (ckN "i" a 0 0).or ((ckN "n" b 0 3).or ((ckN "one" c (-999) 999).or (ckN "divisor" d 1 3)))
def kept : List Str := ["for", "i", "from", "n", "below", "by", "down", "if", "and", "mod"]
def lets : Str := "abcdefghijklmnopqrstuvwxyz"
def isName (x : Str) : Bool := decide (1 ≤ x.length ∧ x.length ≤ 8) && (x.cps.toList.all (fun c => decide (c ∈ lets.cps.toList)) && decide (x ∉ kept))
def ckA (x : Str) : Option Er := if isName x = true then none else some (.name x)
def ckRead (x : Str) (f a b c d : Int) : Option Er := (ckA x).or ((if f = 0 then some (.num "factor" f) else none).or ((ckN "factor" f (-999) 999).or (ckP a b c d)))
def ckCs : List (Int × Int × Int) → Option Er
  | [] => none
  | q :: r => (ckS q.1 q.2.1 q.2.2).or (ckCs r)
def ckStm (m1 m2 : Int) (x : Str) (cs : List (Int × Int × Int)) (a b c k : Int) : Option Er :=
  (ckM "reads" m1 3).or ((ckM "conditions" m2 3).or ((ckA x).or ((ckCs cs).or ((ckS a b c).or (ckN "constant" k (-999) 999)))))
def ckLoop (m S a1 b1 c1 d1 a2 b2 c2 d2 : Int) : Option Er :=
  (ckM "statements" m 16).or ((ckN "step" S 1 16).or ((ckR a1 b1 c1 d1).or ((ckR a2 b2 c2 d2).or (if 1 < S ∧ 1 < d1 then some (.num "step" S) else none))))
section
variable {X : Cx} {K : PySem.W.Frag} {mg : Str → Option Value} {k j n : Nat} {f C : Addr} {fd : FuncData} {ps ks : List Str} {sp : Sp} {E : L2.St → XK} {x : Str} {p pos : Pos} {e : Expr} {es : List Expr} {kws : List Keyword} {t tk : TA}
/-- a global def that may raise -/
def Dx (P : Program) (w : World) (K : PySem.W.Frag) (mg : Str → Option Value) (base : Heap) (j : Nat) (x : Str) (ps : List Str) (sp : Sp) : Prop :=
  ∃ (f : Addr) (fd : FuncData), FnOk P w K mg base (L2.CX P w) j f fd ps sp ∧ mg x = some (.ref f) ∧ PySem.W.keepIn K (.ref f) = true ∧ Binds K fd ps []
theorem pe_dx (D : Dx X.prog X.w K X.mg X.base j x ps sp) (hK : X.K = K) (hr : Room k X.A) (hx : ∀ σ, PassesAt (L2.CX X.prog X.w) X σ (E σ)) (ha : PA X (e :: es) t) (hjk : j ≤ k := by decide) (hg : Gl X x := by rfl)
    (hdb : (x == ("__debug__" : Str)) = false := by decide) (he : starEach (e :: es) X.env = (false, eval e X.env) :: starEach es X.env := by rfl) (hpl : (backTo pos (starEach es X.env)).any (·.1) = false := by rfl) :
    PE X (.Call (.Name x p) (e :: es) [] pos) (tCallS sp E t) := by
  subst hK
  obtain ⟨f, fd, F, hm, hk, hb⟩ := D
  exact pe_callS F (hr.mono hjk) hg hm hk hb hx ha hdb he hpl
/-- the class C of the name x may be made: __init__ with its promise, and how its parameters are bound -/
structure Mc (P : Program) (w : World) (K : PySem.W.Frag) (mg : Str → Option Value) (base : Heap) (j : Nat) (x : Str) (f : Addr) (fd : FuncData) (ps : List Str) (sp : Sp) : Prop where
  mK : Mk K (He.ga K x) f
  gC : mg x = some (.ref (He.ga K x))
  fn : FnOk P w K mg base (L2.CX P w) j f fd ps sp
theorem make_run {CX : CXT} {pins : List (Addr × Obj)} {σ : L2.St} {H : Hp} {s : Shared} {Q : VK} {us : List Value} {kw : List (Str × Value)} {vz : List V} {uz : List Value} {E0 : XK} (M : Mk X.K C f) (F : FnOk X.prog X.w X.K X.mg X.base CX k f fd ps sp) (hr : Room (k + 1) X.A)
    (hx : PassesAt CX X σ E0) (I : L2.Inv X pins σ H s) (vals : ∀ a : Addr, Vals (V.ref a :: vz) (Value.ref a :: uz))
    (bind : ∀ (s' : Shared) (a : Addr), X.K.In s'.heap → BindsTo s' fd ⟨Value.ref a :: us, kw⟩ (ps.zip (Value.ref a :: uz)))
    (h : ∀ x dx, H x = none → H dx = none → dx ≠ x → sp (.ref x :: vz) (upd (upd H dx (.own x)) x (.ins C dx [])) (fun v H2 => v = .non ∧ Q (.ref x) H2) E0) :
    wpAny (model X.prog X.w) X.A (call (.ref C) us kw) (EP X pins σ Q) X.xe s := by
  have q0 := h (s.heap.objs.size + 1) s.heap.objs.size (I.hok.fresh (Nat.le_succ _)) (I.hok.fresh (Nat.le_refl _)) (Nat.ne_of_lt (Nat.lt_succ_self _))
  have J := Inv.made (C := C) I
  refine wpAny_call (make_map (f := f) I.kIn M.makes M.init (beq_iff_eq.mp M.fn) (codeAny_mono (F.run _ X.stack _ _ ⟨Value.ref (s.heap.objs.size + 1) :: us, kw⟩ (Value.ref (s.heap.objs.size + 1) :: uz) _ _ E0 (hr.make C us kw)
    (J.env0.make C us kw) (bind _ _ J.kIn) (vals _) q0) fun r' s' z => ?_))
  cases r' with
  | error e => exact hx pins _ _ e s' J z
  | ok fl =>
    cases fl with
    | ret u =>
      obtain ⟨v, H', I3, rv, ev, q3⟩ := J.after z
      subst ev
      exact ⟨rv, ⟨V.ref (s.heap.objs.size + 1), H', I3, rfl, q3⟩⟩
    | next => exact False.elim z
    | brk => exact False.elim z
    | cont => exact False.elim z
end
end Z
namespace Z
open PySem PySem.Spec PyProof.Rows L2
section
variable (K : PySem.W.Frag)
/-- Place(v, d), d of any size: only the common divisor must be small -/
def spPG : Sp := fun vs H Q E => ∃ (p dx : Addr) (v : V) (a b c d : Int), vs = [.ref p, v, .int d] ∧ H p = some (.ins (CP K) dx []) ∧ SumV K H v a b c ∧ (d < 1 → BadN K H "divisor" (.int d) E) ∧
  (1 ≤ d → gg a b d < 1073741824 ∧ ∀ q H', H' p = some (.ins (CP K) dx (pf q (d.fdiv (gg a b d)))) → StrAt K H' q (a.fdiv (gg a b d)) (b.fdiv (gg a b d)) (c.fdiv (gg a b d)) → Keep p H H' → Q .non H')
def rPlG (v : V) (d : Int) (H : Hp) (Q : VK) (E : XK) : Prop := ∃ a b c, SumV K H v a b c ∧ (d < 1 → BadN K H "divisor" (.int d) E) ∧ (1 ≤ d → gg a b d < 1073741824 ∧ NewP K H a b c d Q)
end
end Z
set_option maxHeartbeats 4000000
namespace Z
open PySem PySem.Spec PyProof.Rows L2
def txtOf (e : Int × Value) : Str := match e.2 with | .str k _ => k | _ => Str.empty
def Tx1 (w : World) (e : Int × Value) : Prop := ∃ k u, e.2 = Value.str k u ∧ e.1 = hashStr w k
structure TxBody (w : World) (l : List Str) (es : Array (Int × Value)) (t : SetTable) : Prop where
  one : ∀ e ∈ es.toList, Tx1 w e
  nd : (es.toList.map txtOf).Nodup
  mem : ∀ k, k ∈ l ↔ k ∈ es.toList.map txtOf
  few : es.size < scanBound
  fit : t.fits es.size = true
  ris : Ris t.place.toList
  led : w.params.followText "set-order" = true ∨ t.led = true
/-- the set at a has the texts of l -/
def TxSet (w : World) (h : Heap) (a : Addr) (l : List Str) : Prop := ∃ o es ep t, h.get? a = some o ∧ o.ExactSet ∧ o.data = .set es ep t ∧ TxBody w l es t
section
variable {P : Program} {w : World} {A : Around} {E : Value → Shared → Prop} {s : Shared} {a : Addr} {l : List Str}
theorem TxSet.at {h h' : Heap} (R : TxSet w h a l) (k : ∀ o, h.get? a = some o → h'.get? a = some o) : TxSet w h' a l := by
  obtain ⟨o, es, ep, t, ho, r⟩ := R
  exact ⟨o, es, ep, t, k o ho, r⟩
theorem tx_is {e : Int × Value} (g : Tx1 w e) (k : Str) : (PySem.strKind P w).is k e.2 = true ↔ txtOf e = k := by
  obtain ⟨k0, u, h1, _⟩ := g
  unfold txtOf
  rw [h1]
  show Value.isStrOf k (.str k0 u) = true ↔ k0 = k
  simp only [Value.isStrOf]
  constructor
  · intro z
    exact (of_decide_eq_true z)
  · intro z
    exact decide_eq_true z
theorem tx_elems {es : List (Int × Value)} (g : ∀ e ∈ es, Tx1 w e) : ElemsOf (PySem.strKind P w) es := fun e he => by
  obtain ⟨k, u, h1, h2⟩ := g e he
  exact ⟨⟨k, by rw [h1]; exact PySem.Froz.is_str k u, h2⟩, by rw [h1] <;> rfl⟩
theorem tx_mem {es : List (Int × Value)} (g : ∀ e ∈ es, Tx1 w e) (k : Str) : k ∈ es.map txtOf ↔ ∃ e ∈ es, (PySem.strKind P w).is k e.2 = true := by
  rw [List.mem_map]
  exact ⟨fun ⟨e, he, q⟩ => ⟨e, he, (tx_is (g e he) k).2 q⟩, fun ⟨e, he, q⟩ => ⟨e, he, (tx_is (g e he) k).1 q⟩⟩
theorem tx_perm {es es' : Array (Int × Value)} {t t' : SetTable} (B : TxBody w l es t) (p : es'.toList.Perm es.toList) (hf : t'.fits es'.size = true) (r : Ris t'.place.toList) (e : t'.led = t.led) : TxBody w l es' t' := by
  have sz : es'.size = es.size := by rw [← Array.length_toList, p.length_eq, Array.length_toList]
  exact ⟨fun x hx => B.one x (p.mem_iff.mp hx), (p.map txtOf).nodup_iff.mpr B.nd, fun k => (B.mem k).trans (p.map txtOf).mem_iff.symm, sz ▸ B.few, hf, r, B.led.imp id fun z => e.trans z⟩
theorem len_sub {α : Type} [DecidableEq α] : ∀ (m l : List α), m.Nodup → (∀ x ∈ m, x ∈ l) → m.length ≤ l.length
  | [], l, _, _ => Nat.zero_le _
  | x :: m, l, d, h => by
    obtain ⟨d1, d2⟩ := List.nodup_cons.mp d
    have q := len_sub m (l.erase x) d2 fun y hy => (List.mem_erase_of_ne (fun (z : y = x) => d1 (by rw [← z]; exact hy))).mpr (h y (.tail _ hy))
    have hx := List.length_erase_of_mem (h x (.head _))
    have hp := List.length_pos_of_mem (h x (.head _))
    simp only [List.length_cons]
    omega
theorem TxBody.size {es : Array (Int × Value)} {t : SetTable} (B : TxBody w l es t) : es.size ≤ l.length := by
  have q := len_sub (es.toList.map txtOf) l B.nd fun x hx => (B.mem x).2 hx
  rw [List.length_map, Array.length_toList] at q
  exact q
/-- the new entries are stored, the table laid anew where it is too full -/
theorem tx_store {g : Bool → Sem Unit} (hg : ∀ (b : Bool) (s₁ : Shared) (Q' : Unit → Shared → Prop), Q' () s₁ → wpAny (model P w) A (g b) Q' E s₁) {o : Obj} {es es1 : Array (Int × Value)} {ep : Nat} {t t2 : SetTable} {dm : Bool}
    {R : Option Bool → Shared → Prop} (ho : s.heap.get? a = some o) (hx : o.ExactSet) (hd : o.data = .set es ep t) (B : TxBody w l es1 t2) (k : ∀ h', Heap.SameBut a s.heap h' → TxSet w h' a l → R (some true) { s with heap := h' }) :
    wpAny (model P w) A (do
        storeSet a es1 t2
        if (!dm && t2.tooFull) = true then do
            g (relayAll t2 es1 (SetTable.grown es1.size)).2.2
            storeSet a (relayAll t2 es1 (SetTable.grown es1.size)).1 (relayAll t2 es1 (SetTable.grown es1.size)).2.1
            pure (some true)
          else pure (some true)) R E s := by
  have h1 := store_at (es' := es1) (t' := t2) ho hd
  have b1 := Heap.SameBut.update s.heap a (Obj.putSet es1 t2)
  refine wpAny_bind (wpAny_storeSet_of ho hd ?_ (fits_of_scanBound B.few))
  split
  · have pm := relayAll_perm t2 es1 (SetTable.grown es1.size)
    have B2 := tx_perm B pm (relayAll_fits t2 es1 (SetTable.grown es1.size)) (relayAll_ris t2 es1 (SetTable.grown es1.size)) (relayAll_led t2 es1 (SetTable.grown es1.size))
    refine wpAny_bind (hg _ _ _ (wpAny_bind (wpAny_storeSet_of h1 rfl (wpAny_pure ?_) (fits_of_scanBound B2.few))))
    exact k _ (b1.trans (Heap.SameBut.update _ a _)) ⟨_, _, _, _, store_at h1 rfl, hx, rfl, B2⟩
  · exact wpAny_pure (k _ b1 ⟨_, es1, _, t2, h1, hx, rfl, B⟩)
theorem tx_add {x : Str} {u : Tok} {Q : Bool → Shared → Prop} (R : TxSet w s.heap a l) (room : l.length + 1 < scanBound) (k : ∀ h' b, Heap.SameBut a s.heap h' → TxSet w h' a (x :: l) → Q b { s with heap := h' }) : wpAny (model P w) A (setAddHashed a (.str x u) (hashStr w x)) Q E s := by
  obtain ⟨o, es, ep, t, ho, hx, hd, B⟩ := R
  have hsz := B.size
  have key : (PySem.strKind P w).is x (.str x u) = true := PySem.Froz.is_str x u
  have el : ElemsOf (PySem.strKind P w) es.toList := tx_elems B.one
  have sc : (Value.str x u).scannable = true := rfl
  unfold setAddHashed setAddHashedIn
  refine wpAny_holding (wpAny_bind (wpAny_setState_of ho hd B.fit ?_))
  dsimp only
  rw [byScan_of sc B.few el]
  simp only [↓reduceIte]
  unfold setAddByScan
  refine wpAny_bind (wpAny_bind (wpAny_rule (wpAny_bind (wpAny_setScan_of (knd := PySem.strKind P w) (k := x) key ho hd B.fit el ?_))))
  cases fi : List.findIdx? (fun e => (PySem.strKind P w).is x e.2) es.toList with
  | some j =>
    dsimp only
    obtain ⟨hj, pj, _⟩ := List.findIdx?_eq_some_iff_getElem.mp fi
    have xin : x ∈ l := (B.mem x).2 ((tx_mem (P := P) B.one x).2 ⟨es.toList[j], List.getElem_mem hj, pj⟩)
    refine wpAny_pure (wpAny_pure (k s.heap _ (Heap.SameBut.refl a s.heap) ⟨o, es, ep, t, ho, hx, hd, B.one, B.nd, fun y => ?_, B.few, B.fit, B.ris, B.led⟩))
    rw [List.mem_cons, ← B.mem y]
    exact ⟨fun z => z.elim (fun e => e ▸ xin) id, .inr⟩
  | none =>
    dsimp only
    have xno : x ∉ es.toList.map txtOf := fun z => by
      obtain ⟨e, he, q⟩ := (tx_mem (P := P) B.one x).1 z
      have c := List.findIdx?_eq_none_iff.mp fi e he
      rw [q] at c
      cases c
    have gave : ∀ (b : Bool) {s₁ : Shared} {Q' : Unit → Shared → Prop}, Q' () s₁ → wpAny (model P w) A (match b with | true => rule "set.scan.the-table-gave-way" | false => pure ()) Q' E s₁ :=
      fun b s₁ Q' q => by cases b <;> first | exact wpAny_pure q | exact wpAny_rule q
    have pm := layNew_perm t es (hashStr w x) (.str x u)
    have f1 := layNew_fits t es (hashStr w x) (.str x u)
    have r1 := layNew_ris t es (hashStr w x) (.str x u) B.ris
    have l1 := layNew_led t es (hashStr w x) (.str x u)
    show wpAny _ _ _ _ _ _
    have eh : (PySem.strKind P w).hash x = hashStr w x := rfl
    generalize layNew t es (hashStr w x) (.str x u) = Z at pm f1 r1 l1 ⊢
    obtain ⟨es1, t1, dm, gv⟩ := Z
    dsimp only at pm f1 r1 l1 ⊢
    rw [Array.toList_push] at pm
    have pc : es1.toList.Perm ((hashStr w x, Value.str x u) :: es.toList) := pm.trans (List.perm_append_singleton _ _)
    have pk : (es1.toList.map txtOf).Perm (x :: es.toList.map txtOf) := pc.map txtOf
    have sz : es1.size = es.size + 1 := by rw [← Array.length_toList, pc.length_eq, List.length_cons, Array.length_toList]
    have B1 : ∀ t' : SetTable, t'.fits es1.size = true → Ris t'.place.toList → t'.led = t.led → TxBody w (x :: l) es1 t' := fun t' q1 q2 q3 => {
      one := fun e he => by
        rcases List.mem_cons.mp (pc.mem_iff.mp he) with z | z
        · exact ⟨x, u, by rw [z], by rw [z]⟩
        · exact B.one e z
      nd := pk.nodup_iff.mpr (List.nodup_cons.mpr ⟨xno, B.nd⟩)
      mem := fun y => by rw [pk.mem_iff, List.mem_cons, List.mem_cons, B.mem y]
      few := by omega
      fit := q1
      ris := q2
      led := B.led.imp id fun z => q3.trans z }
    refine wpAny_bind (gave _ ?_)
    split
    · refine wpAny_bind ?_
      rw [hashByValue_scannable 8 sc]
      refine wpAny_pure ?_
      refine tx_store (l := x :: l) ?_ ho hx hd (B1 _ ?_ ?_ ?_) ?_
      · intro b s₁ Q' q; cases b <;> first | exact wpAny_pure q | exact wpAny_rule q
      · first | (split <;> first | exact f1 | exact SetTable.fits_plain_off f1) | exact f1
      · first | (split <;> exact r1) | exact r1
      · first | (split <;> exact l1) | exact l1
      · intro h' sb r; dsimp only; exact wpAny_pure (k h' _ sb r)
    · refine wpAny_bind (wpAny_pure ?_)
      simp only [↓reduceIte]
      refine tx_store (l := x :: l) ?_ ho hx hd (B1 _ f1 r1 l1) ?_
      · intro b s₁ Q' q; cases b <;> first | exact wpAny_pure q | exact wpAny_rule q
      · intro h' sb r; dsimp only; exact wpAny_pure (k h' _ sb r)
theorem tx_new {h : Heap} (ho : h.get? a = some { cls := .type "set", dict := none, data := .set #[] 0 (.fresh 0 0 (!w.params.followText "set-order")) }) : TxSet w h a [] :=
  ⟨_, #[], 0, _, ho, ⟨rfl, rfl, rfl⟩, rfl, ⟨fun e he => by simp at he, by simp, fun k => by simp, by decide, rfl, List.Pairwise.nil, by
    show _ ∨ (!w.params.followText "set-order") = true
    cases w.params.followText "set-order"
    · exact .inr rfl
    · exact .inl rfl⟩⟩
/-- the loop by which the set takes the items -/
theorem tx_update {I : Addr} {fp wr : List Addr} {G : Array GenState → Array GenState → Prop} {n : Nat} {Pv : Nat → Value → Prop} {St : Nat → Shared → Prop} {R : Result → Shared → Prop} (W : WalksS P w A.in1 I fp wr G n Pv St) (S : Addr) (hS : S ∉ fp)
    (xs : List Str) (hn : n = xs.length) (few : xs.length + 1 < scanBound) (item : ∀ i v, Pv i v → ∃ k t, xs[i]? = some k ∧ v = .str k t) (j : Nat) :
    ∀ (i : Nat) (s : Shared), n - i = j → i ≤ n → St i s → TxSet w s.heap S (xs.take i).reverse →
      (∀ s', Moved (S :: wr) G s s' → TxSet w s'.heap S xs.reverse → R (.ok (.ret .none)) s') → codeAny (model P w) A (.builtin "set.update.loop" ⟨[.ref S, .ref I], []⟩) R s := by
  have hw : S ∉ wr := fun h => hS (W.sub _ h)
  have sub : ∀ b ∈ wr, b ∈ S :: wr := fun b hb => .tail _ hb
  induction j with
  | zero =>
    intro i s e hi st hs hR
    obtain rfl : i = n := by omega
    refine codeAny_builtin F.entry_set_update_loop ?_
    rw [Around.under_plainId F.plain_set_update_loop _]
    refine wpAny_bind (m := pyNext (.ref I)) (W.done s _ _ st fun s' hm => ?_)
    rw [List.take_of_length_le (Nat.le_of_eq hn.symm)] at hs
    exact wpAny_pure (hR s' (hm.mono sub) (hs.at fun o e => hm.heap S o hw e))
  | succ j ih =>
    intro i s e hi st hs hR
    have lt : i < n := by omega
    refine codeAny_builtin F.entry_set_update_loop ?_
    rw [Around.under_plainId F.plain_set_update_loop _]
    refine wpAny_bind (m := pyNext (.ref I)) (W.item i s _ _ lt st fun v s' hp st' hm => ?_)
    obtain ⟨z, t, hz, rfl⟩ := item i v hp
    have hs' := hs.at (h' := s'.heap) fun o e => hm.heap S o hw e
    refine wpAny_bind (m := holding [Value.str z t] (setAdd S (.str z t))) (wpAny_holding ?_)
    unfold setAdd
    refine wpAny_holding (wpAny_bind ((PySem.strKind P w).pyHash (k := z) (PySem.Froz.is_str z t) ?_))
    have len : (xs.take i).reverse.length = i := by
      rw [List.length_reverse, List.length_take]
      omega
    refine tx_add (s := { s' with toks := s'.toks + 1 }) hs' (by rw [len]; omega) fun h' b sb hs2 => ?_
    have nx : (xs.take (i + 1)).reverse = z :: (xs.take i).reverse := by
      rw [List.take_add_one, hz, List.reverse_append] <;> rfl
    refine wpAny_pure ⟨plainId_quiet F.plain_set_update_loop _, ih (i + 1) _ (by omega) lt (W.frame _ s' _ _ st' (Nat.le_succ _) fun c hc o e => (sb.2 c fun y => hS (y ▸ hc)).trans e) (by rw [nx]; exact hs2) fun s'' hm2 hs3 => ?_⟩
    exact hR s'' (Moved.trans W.gtrans ((hm.mono sub).then_heap (Nat.le_succ _) fun c o hc e => (sb.2 c fun y => hc (y ▸ .head _)).trans e) hm2) hs3
theorem tx_item : ∀ {us : List Value} {xs : List Str}, StrsAre us xs → ∀ (i : Nat) (v : Value), us[i]? = some v → ∃ k t, xs[i]? = some k ∧ v = .str k t
  | _, _, .nil, i, v, h => by simp at h
  | _, _, .cons y t r, 0, v, h => ⟨y, t, rfl, by simpa using h.symm⟩
  | _, _, .cons y t r, i + 1, v, h => by
    obtain ⟨k, t2, e1, e2⟩ := tx_item r i v (by simpa using h)
    exact ⟨k, t2, by simpa using e1, e2⟩
set_option maxHeartbeats 6400000 in
/-- set(xs) -/
theorem tx_call {l : Addr} {items : Array Value} (xs : List Str) {Q : Value → Shared → Prop} (hh : A.handled = none) (hl : s.heap.IsList l items) (hi : StrsAre items.toList xs) (few : xs.length + 1 < scanBound)
    (k : ∀ (h' : Heap) (tk : Nat), TxSet w h' s.heap.objs.size xs.reverse → (∀ b o, s.heap.get? b = some o → h'.get? b = some o) → Q (.ref s.heap.objs.size) { s with heap := h', toks := tk }) :
    wpAny (model P w) A (call (.type "set") [.ref l]) Q E s := by
  have hz : items.size = xs.length := by rw [← Array.length_toList, StrsAre.len_eq hi]
  obtain ⟨c, tl, hmro⟩ := F.called_set.mro
  have hmade := F.called_set.made
  have hsub := F.called_set.sub
  refine wpAny_call (codeAny_of_tree ?_)
  show wpAny _ _ (callAny (.type "set") _) _ _ _
  refine wpAny_pure ⟨Code.quiet_builtin _ (by decide +kernel), codeAny_builtin F.entry_type_call ?_⟩
  rw [Around.under_plain (weight_type_call_type "set" [.ref l] []) rfl]
  have h1 := F.called_set.notType
  have h2 := F.called_set.canCreate
  have hct := F.typeCall_set_1 (.ref l)
  repeat (any_goals (first | assumption | wp_step))
  obtain ⟨H0, eH0⟩ : ∃ H0 : Heap, H0 = s.heap.push { cls := .type "set", dict := none, data := .set #[] 0 (.fresh 0 0 (!w.params.followText "set-order")) } := ⟨_, rfl⟩
  refine codeAny_mono (code_set_led1 (.ref l) (E := E) (Q₁ := fun obj s₁ => obj = .ref s.heap.objs.size ∧ s₁ = { s with heap := H0 }) ⟨rfl, by rw [eH0]⟩) fun r s₁ hr => ?_
  have g0 : H0.get? s.heap.objs.size = some { cls := .type "set", dict := none, data := .set #[] 0 (.fresh 0 0 (!w.params.followText "set-order")) } := eH0 ▸ Heap.get?_push_size _ rfl
  have z0 : H0.objs.size = s.heap.objs.size + 1 := by rw [eH0, Heap.size_push]
  have k0 : ∀ b o, s.heap.get? b = some o → H0.get? b = some o := fun b o e => eH0 ▸ Heap.get?_push_of_some _ e
  cases r with
  | error e => exact hr
  | ok fl =>
    cases fl with
    | ret obj =>
      obtain ⟨rfl, rfl⟩ := hr
      have hT : Shared.TypeIs { s with heap := H0 } (.ref s.heap.objs.size) "set" := ⟨_, g0, rfl⟩
      have hli := F.called_set.init.lookup
      have hbi := F.called_set.init.bind (.ref s.heap.objs.size)
      repeat (any_goals (first | assumption | wp_step))
      refine codeAny_mono (codeAny_call_builtin (R := wants (fun r s₂ => r = .none ∧ ∃ h' tk, s₂ = { s with heap := h', toks := tk } ∧ TxSet w h' s.heap.objs.size xs.reverse ∧ ∀ b o, s.heap.get? b = some o → h'.get? b = some o) E)
        F.called_set.init.plain F.entry_set_init (check_set_init_1 hT ?_)) fun r₂ s₂ hr₂ => ?_
      · obtain ⟨⟨ocls, odict, odata, oslots⟩, hol, hcl, nl, hdl⟩ := hl
        simp only at hcl hdl
        subst hcl hdl
        have hol' : H0.get? l = some { cls := .type "list", dict := odict, data := .seq items nl, slots := oslots } := k0 _ _ hol
        have hsls := F.sub_list_set
        have hslf := F.sub_list_frozenset
        have hne : (Value.type "list" == Value.type "dict") = false := by decide
        have hl1 : H0.IsList l items := ⟨_, hol', rfl, nl, rfl⟩
        unfold Builtin.«set.__init__» noKeywords Builtin.Frozenset.updateFrom
        generalize hPI : pyIter = PI
        wp_walk
        subst hPI
        refine wpAny_pyIter_list hl1 (wpAny_bind (wpAny_runValue ?_))
        have lt : l < s.heap.objs.size := Heap.lt_size hol
        have hne : l ≠ H0.objs.size := by rw [z0]; exact Nat.ne_of_lt (Nat.lt_succ_of_lt lt)
        have hno : s.heap.objs.size ∉ [H0.objs.size, l] := by
          simp only [List.mem_cons, List.not_mem_nil, or_false, not_or, z0]
          exact ⟨Nat.ne_of_lt (Nat.lt_succ_self _), Nat.ne_of_gt lt⟩
        refine tx_update ((Walks.list (by simp [hh]) _ l hne items).toS) s.heap.objs.size hno xs hz few (fun i v hv => ?_) (items.size - 0) 0 _ (by omega) (Nat.zero_le _) ⟨⟨_, Heap.get?_push_size _ rfl, rfl, rfl⟩, (hl1.push _)⟩ (tx_new (Heap.get?_push_of_some _ g0)) ?_
        · exact tx_item hi i v (by rw [Array.getElem?_toList]; exact hv)
        · intro s' hm hs'
          obtain ⟨h', g', d', tk', os'⟩ := s'
          have eg : g' = s.gens := hm.gens
          have ed : d' = s.drawn := hm.drawn
          have eo : os' = s.os := hm.os
          subst eg ed eo
          refine wpAny_pure (wpAny_pure (M := model P w) ⟨rfl, h', tk', rfl, hs', fun b o e => ?_⟩)
          have lb : b < s.heap.objs.size := Heap.lt_size e
          refine hm.heap b o ?_ (Heap.get?_push_of_some _ (k0 _ _ e))
          simp only [List.mem_cons, List.not_mem_nil, or_false, not_or]
          exact ⟨Nat.ne_of_lt lb, by rw [z0]; exact Nat.ne_of_lt (Nat.lt_succ_of_lt lb)⟩
      · cases r₂ with
        | error e => exact hr₂
        | ok fl₂ =>
          cases fl₂ with
          | ret r =>
            obtain ⟨rfl, h', tk, rfl, hs', hk'⟩ := hr₂
            repeat (any_goals (first | assumption | wp_step))
            exact k _ _ hs' hk'
          | _ => exact hr₂.elim
    | _ => exact hr.elim
/-- sorted(found) -/
theorem tx_sorted {Q : Value → Shared → Prop} (R : TxSet w s.heap a l) (hh : A.handled = none)
    (k : ∀ s' p (out : Array Value) (c : Nat) (ys : List Str), (∀ b o, s.heap.get? b = some o → s'.heap.get? b = some o) → s'.gens = s.gens → s'.os = s.os → s.heap.objs.size ≤ p → s'.heap.get? p = some (seqObj "list" out c) →
      StrsAre out.toList ys → ys.Nodup → (∀ x, x ∈ ys ↔ x ∈ l) → sortedS ys = true → Q (.ref p) s') : wpAny (model P w) A (call (.builtin "sorted") [.ref a]) Q E s := by
  obtain ⟨o, es, ep, t, ho, hx, hd, B⟩ := R
  refine Calls.call_function_entry kind_sorted plain_sorted entry_sorted (args_sorted1 _) ?_
  unfold Builtin.«sorted»
  refine wpAny_bind (m := checkCount "sorted" 1 1 _) (wpAny_pure ?_)
  refine wpAny_bind (collect_set (A := A.in1) hh ⟨o, ho, hx.1, hd⟩ B.fit B.few B.ris B.led fun s1 vs k1 hz g1 o1 pm => ?_)
  have vl : vs.length = es.size := by rw [pm.length_eq, List.length_map, Array.length_toList]
  have h1 : ∀ v ∈ vs, ∃ k u, v = Value.str k u := fun v hv => by
    obtain ⟨e, he, q⟩ := List.mem_map.mp (pm.mem_iff.mp hv)
    obtain ⟨k, u, h1, _⟩ := B.one e he
    exact ⟨k, u, by rw [← q]; exact h1⟩
  have hS : StrsAre vs (vs.map fun v => txtOf (0, v)) := by
    clear pm vl
    induction vs with
    | nil => exact .nil
    | cons v vs ih =>
      obtain ⟨k, u, rfl⟩ := h1 v (.head _)
      exact .cons k u (ih fun v hv => h1 v (.tail _ hv))
  have pk : (vs.map fun v => txtOf (0, v)).Perm (es.toList.map txtOf) := by
    have q := pm.map fun v => txtOf (0, v)
    rw [List.map_map] at q
    exact q
  have few : vs.length ≤ sizeLine := by
    have := B.few
    rw [vl]
    exact fits_of_scanBound this
  refine wpAny_bind (wpAny_newList ?_ few)
  have hoL : (s1.heap.push (seqObj "list" vs.toArray 0)).get? s1.heap.objs.size = some (seqObj "list" vs.toArray 0) := Heap.get?_push_size _ rfl
  refine wpAny_bind (wpAny_holding (wpAny_call_entry slot_list_sort ⟨_, hoL, rfl⟩ entry_list_sort
    (list_sort_treeKAny strKind_oneLt hoL hS.keysOf (fun v₁ v₂ rest e => keyKind_strs (by rw [← e]; exact hS)) few fun st' hp hs => ⟨_, rfl, ?_⟩) (args_list_sort _)))
  obtain ⟨ys, a1, a2, a3⟩ := sorted_out_str hS hp hs
  obtain ⟨c, hc⟩ := sortedHeap_at (vs := vs) (out := (arrOf st').map (·.2)) hoL
  have pn : ys.Perm (es.toList.map txtOf) := a2.trans pk
  refine wpAny_pure ⟨_, rfl, k _ s1.heap.objs.size _ c ys (fun b u e => ?_) g1 o1 hz hc a1 (pn.nodup_iff.mpr B.nd) (fun x => by rw [pn.mem_iff, B.mem x]) a3⟩
  have q := k1 b u e
  have hlt := Heap.lt_size q
  show (sortedHeap (s1.heap.push (seqObj "list" vs.toArray 0)) s1.heap.objs.size vs _).get? b = some u
  rw [sortedHeap_old (Nat.ne_of_lt hlt) (by rw [Heap.size_push]; exact Nat.lt_succ_of_lt hlt)]
  exact Heap.get?_push_of_some _ q
end
def TxO (w : World) (a : Addr) (l : List Str) : HO := .ext fun h => TxSet w h a l
theorem txO_new {w : World} {P : Program} {H : Hp} {h : Heap} {a : Addr} {l : List Str} (R : TxSet w h a l) : ObjOk P w H h a (TxO w a l) := by
  have ⟨o, es, ep, t, ho, r⟩ := R
  refine ⟨R, ⟨o, ho⟩, fun h1 h2 p k => ?_⟩
  have ⟨o', es', ep', t', ho', r'⟩ := (show TxSet w h1 a l from p)
  exact ⟨o', es', ep', t', k o' ho', r'⟩
section
variable {X : Cx}
/-- set(xs), xs a list of texts -/
def rSetTx (K : PySem.W.Frag) (w : World) : List V → Hp → VK → Prop := fun vs H Q => ∃ (l : Addr) (xs : List Str), vs = [V.ref l] ∧ SqL K H l (xs.map V.str) ∧ xs.length + 1 < scanBound ∧ ∀ a, H a = none → Q (.ref a) (upd H a (TxO w a xs.reverse))
theorem cr_setTx (hc : X.calm = true) : CallR X (.type "set") (rSetTx X.K X.w) := by
  intro pins s σ H vs us Q I r h
  obtain ⟨l, xs, rfl, hl, few, q⟩ := h
  rw [Vals.ref1 r]
  obtain ⟨its, rv, pl, hz⟩ := I.list hl
  have hn : H s.heap.objs.size = none := I.hok.fresh (Nat.le_refl _)
  exact tx_call (P := X.prog) (w := X.w) xs (I.ok.hd hc) pl.isList (by simpa using rv.strs) few fun h' tk R k =>
    ⟨.ref s.heap.objs.size, upd H s.heap.objs.size (TxO X.w s.heap.objs.size xs.reverse), I.laid (t' := tk) k (Nat.le_refl _) (txO_new R), rfl, q _ hn⟩
/-- sorted(found) of such a set -/
def rSortedTx (w : World) : List V → Hp → VK → Prop := fun vs H Q => ∃ (a : Addr) (l : List Str), vs = [V.ref a] ∧ H a = some (TxO w a l) ∧ l.length ≤ 4096 ∧
  ∀ (ys : List Str) (p : Addr), ys.Nodup → (∀ x, x ∈ ys ↔ x ∈ l) → sortedS ys = true → H p = none → Q (.ref p) (upd H p (.lst (ys.map V.str)))
theorem cr_sortedTx (hc : X.calm = true) : CallR X (.builtin "sorted") (rSortedTx X.w) := by
  intro pins s σ H vs us Q I r h
  obtain ⟨a, l, rfl, ha, few, q⟩ := h
  have R : TxSet X.w s.heap a l := (I.hok a _ ha).1
  rw [Vals.ref1 r]
  refine tx_sorted (P := X.prog) R (I.ok.hd hc) fun s' p out c ys k g o hp hg hi nd mem srt => ?_
  have hlen : (ys.map V.str).length ≤ sizeLine := by
    rw [List.length_map, sizeLine_eq]
    have := len_sub ys l nd fun x hx => (mem x).1 hx
    omega
  have hn : H p = none := I.hok.fresh hp
  have J : Inv X pins σ (upd H p (.lst (ys.map V.str))) { s with heap := s'.heap, gens := s'.gens, drawn := s'.drawn, toks := s'.toks } :=
    I.call (ch := []) (Un.laid k hp hn) (I.hok.laid k hp ⟨hlen, out.toList, c, vals_of_strs hi, hg⟩) (by rw [g]; exact I.bare) (fun _ z => nomatch z)
  have e : s' = { s with heap := s'.heap, gens := s'.gens, drawn := s'.drawn, toks := s'.toks } := by
    cases s'
    cases s
    cases o
    rfl
  rw [e]
  exact ⟨.ref p, _, J, rfl, q ys p nd mem srt hn⟩
end
end Z
set_option maxHeartbeats 4000000
namespace Z
open PySem PySem.Spec PyProof.Rows L2
/-- a list or a tuple that is read -/
def SqA (K : PySem.W.Frag) (H : Hp) (a : Addr) (xs : List V) : Prop := SqL K H a xs ∨ SqT K H a xs
/-- a walk of a list or a tuple -/
def iAny (K : PySem.W.Frag) (tl : TE) : TI := fun σ H R => tl σ H fun x H1 => ∃ a, x = .ref a ∧ (((∃ xs, SqL K H1 a xs) ∧ R (Itl K a) H1) ∨ ((∃ xs, SqT K H1 a xs) ∧ R (Itt K a) H1))
theorem pi_any {X : Cx} {tg l : Expr} {tl : TE} (hl : PE X l tl) : PI X tg l (iAny X.K tl) := by
  refine ⟨fun pins s σ H R I h => thn (hl.run pins s σ H _ I h) fun v s1 ⟨x, H1, I1, r1, a, e, q⟩ => ?_⟩
  subst e
  cases r1
  have new : Inv X pins σ H1 s1 → H1 s1.heap.objs.size = none := fun I => I.hok.fresh (Nat.le_refl _)
  rcases q with ⟨⟨xs, hq⟩, q⟩ | ⟨⟨xs, hq⟩, q⟩
  · obtain ⟨its, rv, p, hz⟩ := I1.list hq
    refine wpAny_pyIter_list p.isList ⟨s1.heap.objs.size, [s1.heap.objs.size], _, _, H1, rfl, I1.kept (t' := s1.toks) fun b o e => Heap.get?_push_of_some _ e, turn_list a _, ⟨_, Heap.get?_push_size _ rfl, rfl, rfl⟩, fun b hb => ?_, q⟩
    rw [List.mem_singleton.mp hb]
    exact I1.fpOk (Nat.le_refl _) (new I1)
  · obtain ⟨its, rv, p, hz⟩ := I1.tuple hq
    refine wpAny_pyIter_tuple (show s1.heap.IsTuple a its.toArray from p) ⟨s1.heap.objs.size, [s1.heap.objs.size], _, _, H1, rfl, I1.kept (t' := s1.toks) fun b o e => Heap.get?_push_of_some _ e, turn_tuple a _, ⟨_, Heap.get?_push_size _ rfl, rfl, rfl⟩, fun b hb => ?_, q⟩
    rw [List.mem_singleton.mp hb]
    exact I1.fpOk (Nat.le_refl _) (new I1)
/-- a comprehension over the signs of a text -/
theorem lc_str {x : Str} {g : TG} {tt : TT} {te : TE} {vs : List Nat} {σ : L2.St} {H1 : Hp} {D : Addr} {Qd : Hp → Prop} (Pv : Nat → Hp → Prop) (h0 : Pv 0 (upd H1 D (.lst [])))
    (hs : ∀ i c H, x.cps[i]? = some c → Pv i H → g (.str ⟨#[c]⟩) (wipe σ vs) H fun σ2 H2 => wipe σ2 vs = wipe σ vs ∧ tt σ2 H2 fun b H3 =>
      if b = true then te σ2 H3 fun y H4 => ∃ acc, H4 D = some (.lst acc) ∧ acc.length < sizeLine ∧ Pv (i + 1) (upd H4 D (.lst (acc ++ [y]))) else Pv (i + 1) H3) (hd : ∀ H, Pv x.cps.size H → Qd H) :
    ∃ W : Nat → Nat → Hp → Prop, (∃ m, W 0 m (upd H1 D (.lst []))) ∧ ∀ i m H, W i m H →
      ((Its x).stop i H ∧ Qd H) ∨ ((Its x).go i H ∧ ∃ Nx : Hp → Prop, (∀ H', Nx H' → ∃ m', m' < m ∧ W (i + 1) m' H') ∧ ∀ v H', (Its x).yld i H v H' → g v (wipe σ vs) H' fun σ2 H2 => wipe σ2 vs = wipe σ vs ∧ tt σ2 H2 fun b H3 =>
        if b = true then te σ2 H3 fun y H4 => ∃ acc, H4 D = some (.lst acc) ∧ acc.length < sizeLine ∧ Nx (upd H4 D (.lst (acc ++ [y]))) else Nx H3) := by
  refine ⟨fun i m H => m = x.cps.size - i ∧ i ≤ x.cps.size ∧ Pv i H, ⟨x.cps.size, by simp, Nat.zero_le _, h0⟩, ?_⟩
  rintro i m H ⟨rfl, hi, p⟩
  rcases Nat.lt_or_ge i x.cps.size with lt | ge
  · refine .inr ⟨lt, Pv (i + 1), fun H' p' => ⟨x.cps.size - (i + 1), by omega, rfl, lt, p'⟩, fun v H' y => ?_⟩
    obtain ⟨rfl, c, hc, rfl⟩ := y
    exact hs i c _ hc p
  · obtain rfl : i = x.cps.size := by omega
    exact .inl ⟨Nat.le_refl _, hd H p⟩
end Z
namespace Z
open PySem PySem.Spec PyProof.Rows L2
theorem pe_fldK {X : Cx} {K : PySem.W.Frag} {e : Expr} {n : Str} {te : TE} {pos : Pos} (hK : X.K = K) (he : PE X e te) (hb : attributeBase e n X.env (eval e X.env) = eval e X.env := by rfl) : PE X (.Attribute e n pos) (tFld K te n) := by
  subst hK
  exact pe_fld he hb
end Z
set_option maxHeartbeats 4000000
namespace K49
open PySem PySem.Spec PyProof.Rows L2 Z
/-- the default object of a keyword-only parameter of Statement -/
def kwAt (x : Str) (K : PySem.W.Frag) : Addr := match K.lookup (He.fAd K ("Statement", some "__init__")) with
  | some ⟨_, _, .func fd, _⟩ => (match fd.kwdefaults with
    | .ref D => (match PySem.W.nsIn K D x with
      | some (some (.ref a)) => a
      | _ => 0)
    | _ => 0)
  | _ => 0
end K49
namespace K49
open PySem PySem.Spec PyProof.Rows L2 Z
def top (i : Nat) : Stmt := PySem.Challenge.pw_loopsize_k49_rewritings_refused.main.body.getD i (.Pass ⟨0, 0, 0, 0⟩)
abbrev s_wall : Stmt := top 1
abbrev s_is_integer : Stmt := top 17
abbrev s_is_integer_from : Stmt := top 18
abbrev s_is_size : Stmt := top 19
abbrev s_is_array_name : Stmt := top 20
abbrev s_check_loop : Stmt := top 22
abbrev s_check_statement : Stmt := top 23
abbrev s_check_size : Stmt := top 24
abbrev s_statement_at : Stmt := top 25
abbrev s_is_straight : Stmt := top 29
abbrev s_straight_like : Stmt := top 30
abbrev s_place_like : Stmt := top 31
abbrev s_value_of : Stmt := top 32
abbrev s_added : Stmt := top 33
abbrev s_replaced_straight : Stmt := top 34
abbrev s_turns_from : Stmt := top 53
abbrev s_arrays_in : Stmt := top 54
abbrev s_check_many : Stmt := top 55
abbrev s_check_name : Stmt := top 56
abbrev s_check_number : Stmt := top 57
abbrev s_check_sum : Stmt := top 58
abbrev s_check_place : Stmt := top 59
abbrev s_check_range_place : Stmt := top 60
abbrev s_same_programs : Stmt := top 61
abbrev s_program_parts : Stmt := top 62
abbrev s_statements_parts : Stmt := top 63
abbrev s_condition_parts : Stmt := top 64
abbrev s_turn_of_work : Stmt := top 66
abbrev s_followed : Stmt := top 71
abbrev s_stands_for : Stmt := top 72
abbrev s_kept_loop : Stmt := top 73
abbrev s_with_entries : Stmt := top 74
abbrev s_entries_of : Stmt := top 75
abbrev s_rewritten : Stmt := top 76
abbrev s_made_statement : Stmt := top 77
abbrev s_no_rewriting : Stmt := top 78
abbrev s_check_next_loop : Stmt := top 79
abbrev s_swap_loops : Stmt := top 80
abbrev s_swap_statements : Stmt := top 81
abbrev s_turn_loop : Stmt := top 82
abbrev s_join_loops : Stmt := top 83
abbrev s_split_loop : Stmt := top 84
abbrev s_cut_loop : Stmt := top 85
abbrev s_deal_loop : Stmt := top 86
abbrev s_unroll_loop : Stmt := top 87
abbrev s_law_pen : Stmt := top 89
abbrev s_law_draw : Stmt := top 90
abbrev s_law_pick : Stmt := top 91
abbrev s_law_name : Stmt := top 92
abbrev s_law_names : Stmt := top 93
abbrev s_law_sum : Stmt := top 94
abbrev s_law_made_guard : Stmt := top 95
abbrev s_law_made_statement : Stmt := top 96
abbrev s_law_made_loop : Stmt := top 97
abbrev s_law_made : Stmt := top 98
abbrev s_law_tight_place : Stmt := top 99
abbrev s_law_tight_statement : Stmt := top 100
abbrev s_law_refused : Stmt := top 101
abbrev s_law_are_loops_right : Stmt := top 102
abbrev s_law_are_statements_right : Stmt := top 103
abbrev s_law_are_bounds_right : Stmt := top 104
abbrev s_law_are_lots_right : Stmt := top 105
abbrev s_law : Stmt := top 106
abbrev iBadName__init__ : Stmt := inClass (top 4) 0
abbrev iBadNumber__init__ : Stmt := inClass (top 5) 0
abbrev iBadSize__init__ : Stmt := inClass (top 6) 0
abbrev iBadMany__init__ : Stmt := inClass (top 7) 0
abbrev iTooMany__init__ : Stmt := inClass (top 8) 0
abbrev iNoLoop__init__ : Stmt := inClass (top 9) 0
abbrev iNoStatement__init__ : Stmt := inClass (top 10) 0
abbrev iUnlike__init__ : Stmt := inClass (top 11) 0
abbrev iStraight__init__ : Stmt := inClass (top 27) 0
abbrev iStraight__eq__ : Stmt := inClass (top 27) 2
abbrev iStraightreplaced : Stmt := inClass (top 27) 11
abbrev iPlace__init__ : Stmt := inClass (top 28) 0
abbrev iPlace__eq__ : Stmt := inClass (top 28) 2
abbrev iPlacereplaced : Stmt := inClass (top 28) 3
abbrev iAtLeast__init__ : Stmt := inClass (top 37) 0
abbrev iAtLeastreplaced : Stmt := inClass (top 37) 2
abbrev iRest__init__ : Stmt := inClass (top 38) 0
abbrev iRestreplaced : Stmt := inClass (top 38) 2
abbrev iRead__init__ : Stmt := inClass (top 49) 0
abbrev iStatement__init__ : Stmt := inClass (top 50) 0
abbrev iLoop__init__ : Stmt := inClass (top 51) 0
abbrev iProgram__init__ : Stmt := inClass (top 52) 0
abbrev iRewriting__init__ : Stmt := inClass (top 70) 0
abbrev iRewritingthen : Stmt := inClass (top 70) 1
abbrev iRewritingorigin : Stmt := inClass (top 70) 2
abbrev iRewritingplaces : Stmt := inClass (top 70) 3
def d_wall : He.DefD := ⟨("_wall", none), "_wall", "_wall", defArgs s_wall, defBody s_wall, defScope s_wall, [], []⟩
def d_is_integer : He.DefD := ⟨("is_integer", none), "is_integer", "is_integer", defArgs s_is_integer, defBody s_is_integer, defScope s_is_integer, [], []⟩
def d_is_integer_from : He.DefD := ⟨("is_integer_from", none), "is_integer_from", "is_integer_from", defArgs s_is_integer_from, defBody s_is_integer_from, defScope s_is_integer_from, [], []⟩
def d_is_size : He.DefD := ⟨("is_size", none), "is_size", "is_size", defArgs s_is_size, defBody s_is_size, defScope s_is_size, [], []⟩
def d_is_array_name : He.DefD := ⟨("is_array_name", none), "is_array_name", "is_array_name", defArgs s_is_array_name, defBody s_is_array_name, defScope s_is_array_name, [], []⟩
def d_check_loop : He.DefD := ⟨("check_loop", none), "check_loop", "check_loop", defArgs s_check_loop, defBody s_check_loop, defScope s_check_loop, [], []⟩
def d_check_statement : He.DefD := ⟨("check_statement", none), "check_statement", "check_statement", defArgs s_check_statement, defBody s_check_statement, defScope s_check_statement, [], []⟩
def d_check_size : He.DefD := ⟨("check_size", none), "check_size", "check_size", defArgs s_check_size, defBody s_check_size, defScope s_check_size, [], []⟩
def d_statement_at : He.DefD := ⟨("statement_at", none), "statement_at", "statement_at", defArgs s_statement_at, defBody s_statement_at, defScope s_statement_at, [], []⟩
def d_is_straight : He.DefD := ⟨("is_straight", none), "is_straight", "is_straight", defArgs s_is_straight, defBody s_is_straight, defScope s_is_straight, [], []⟩
def d_straight_like : He.DefD := ⟨("straight_like", none), "straight_like", "straight_like", defArgs s_straight_like, defBody s_straight_like, defScope s_straight_like, [], []⟩
def d_place_like : He.DefD := ⟨("place_like", none), "place_like", "place_like", defArgs s_place_like, defBody s_place_like, defScope s_place_like, [], []⟩
def d_value_of : He.DefD := ⟨("value_of", none), "value_of", "value_of", defArgs s_value_of, defBody s_value_of, defScope s_value_of, [], []⟩
def d_added : He.DefD := ⟨("added", none), "added", "added", defArgs s_added, defBody s_added, defScope s_added, [], []⟩
def d_replaced_straight : He.DefD := ⟨("replaced_straight", none), "replaced_straight", "replaced_straight", defArgs s_replaced_straight, defBody s_replaced_straight, defScope s_replaced_straight, [], []⟩
def d_turns_from : He.DefD := ⟨("turns_from", none), "turns_from", "turns_from", defArgs s_turns_from, defBody s_turns_from, defScope s_turns_from, [], []⟩
def d_arrays_in : He.DefD := ⟨("arrays_in", none), "arrays_in", "arrays_in", defArgs s_arrays_in, defBody s_arrays_in, defScope s_arrays_in, [], []⟩
def d_check_many : He.DefD := ⟨("check_many", none), "check_many", "check_many", defArgs s_check_many, defBody s_check_many, defScope s_check_many, [], []⟩
def d_check_name : He.DefD := ⟨("check_name", none), "check_name", "check_name", defArgs s_check_name, defBody s_check_name, defScope s_check_name, [], []⟩
def d_check_number : He.DefD := ⟨("check_number", none), "check_number", "check_number", defArgs s_check_number, defBody s_check_number, defScope s_check_number, [], []⟩
def d_check_sum : He.DefD := ⟨("check_sum", none), "check_sum", "check_sum", defArgs s_check_sum, defBody s_check_sum, defScope s_check_sum, [], []⟩
def d_check_place : He.DefD := ⟨("check_place", none), "check_place", "check_place", defArgs s_check_place, defBody s_check_place, defScope s_check_place, [], []⟩
def d_check_range_place : He.DefD := ⟨("check_range_place", none), "check_range_place", "check_range_place", defArgs s_check_range_place, defBody s_check_range_place, defScope s_check_range_place, [], []⟩
def d_same_programs : He.DefD := ⟨("same_programs", none), "same_programs", "same_programs", defArgs s_same_programs, defBody s_same_programs, defScope s_same_programs, [], []⟩
def d_program_parts : He.DefD := ⟨("program_parts", none), "program_parts", "program_parts", defArgs s_program_parts, defBody s_program_parts, defScope s_program_parts, [], []⟩
def d_statements_parts : He.DefD := ⟨("statements_parts", none), "statements_parts", "statements_parts", defArgs s_statements_parts, defBody s_statements_parts, defScope s_statements_parts, [], []⟩
def d_condition_parts : He.DefD := ⟨("condition_parts", none), "condition_parts", "condition_parts", defArgs s_condition_parts, defBody s_condition_parts, defScope s_condition_parts, [], []⟩
def d_turn_of_work : He.DefD := ⟨("turn_of_work", none), "turn_of_work", "turn_of_work", defArgs s_turn_of_work, defBody s_turn_of_work, defScope s_turn_of_work, [], []⟩
def d_followed : He.DefD := ⟨("followed", none), "followed", "followed", defArgs s_followed, defBody s_followed, defScope s_followed, [], []⟩
def d_stands_for : He.DefD := ⟨("stands_for", none), "stands_for", "stands_for", defArgs s_stands_for, defBody s_stands_for, defScope s_stands_for, [], []⟩
def d_kept_loop : He.DefD := ⟨("kept_loop", none), "kept_loop", "kept_loop", defArgs s_kept_loop, defBody s_kept_loop, defScope s_kept_loop, [], []⟩
def d_with_entries : He.DefD := ⟨("with_entries", none), "with_entries", "with_entries", defArgs s_with_entries, defBody s_with_entries, defScope s_with_entries, [], []⟩
def d_entries_of : He.DefD := ⟨("entries_of", none), "entries_of", "entries_of", defArgs s_entries_of, defBody s_entries_of, defScope s_entries_of, [], []⟩
def d_rewritten : He.DefD := ⟨("rewritten", none), "rewritten", "rewritten", defArgs s_rewritten, defBody s_rewritten, defScope s_rewritten, [], []⟩
def d_made_statement : He.DefD := ⟨("made_statement", none), "made_statement", "made_statement", defArgs s_made_statement, defBody s_made_statement, defScope s_made_statement, [], []⟩
def d_no_rewriting : He.DefD := ⟨("no_rewriting", none), "no_rewriting", "no_rewriting", defArgs s_no_rewriting, defBody s_no_rewriting, defScope s_no_rewriting, [], []⟩
def d_check_next_loop : He.DefD := ⟨("check_next_loop", none), "check_next_loop", "check_next_loop", defArgs s_check_next_loop, defBody s_check_next_loop, defScope s_check_next_loop, [], []⟩
def d_swap_loops : He.DefD := ⟨("swap_loops", none), "swap_loops", "swap_loops", defArgs s_swap_loops, defBody s_swap_loops, defScope s_swap_loops, [], []⟩
def d_swap_statements : He.DefD := ⟨("swap_statements", none), "swap_statements", "swap_statements", defArgs s_swap_statements, defBody s_swap_statements, defScope s_swap_statements, [], []⟩
def d_turn_loop : He.DefD := ⟨("turn_loop", none), "turn_loop", "turn_loop", defArgs s_turn_loop, defBody s_turn_loop, defScope s_turn_loop, [], []⟩
def d_join_loops : He.DefD := ⟨("join_loops", none), "join_loops", "join_loops", defArgs s_join_loops, defBody s_join_loops, defScope s_join_loops, [], []⟩
def d_split_loop : He.DefD := ⟨("split_loop", none), "split_loop", "split_loop", defArgs s_split_loop, defBody s_split_loop, defScope s_split_loop, [], []⟩
def d_cut_loop : He.DefD := ⟨("cut_loop", none), "cut_loop", "cut_loop", defArgs s_cut_loop, defBody s_cut_loop, defScope s_cut_loop, [], []⟩
def d_deal_loop : He.DefD := ⟨("deal_loop", none), "deal_loop", "deal_loop", defArgs s_deal_loop, defBody s_deal_loop, defScope s_deal_loop, [], []⟩
def d_unroll_loop : He.DefD := ⟨("unroll_loop", none), "unroll_loop", "unroll_loop", defArgs s_unroll_loop, defBody s_unroll_loop, defScope s_unroll_loop, [], []⟩
def d_law_pen : He.DefD := ⟨("_law_pen", none), "_law_pen", "_law_pen", defArgs s_law_pen, defBody s_law_pen, defScope s_law_pen, [], []⟩
def d_law_draw : He.DefD := ⟨("_law_draw", none), "_law_draw", "_law_draw", defArgs s_law_draw, defBody s_law_draw, defScope s_law_draw, [], []⟩
def d_law_pick : He.DefD := ⟨("_law_pick", none), "_law_pick", "_law_pick", defArgs s_law_pick, defBody s_law_pick, defScope s_law_pick, [], []⟩
def d_law_name : He.DefD := ⟨("_law_name", none), "_law_name", "_law_name", defArgs s_law_name, defBody s_law_name, defScope s_law_name, [], []⟩
def d_law_names : He.DefD := ⟨("_law_names", none), "_law_names", "_law_names", defArgs s_law_names, defBody s_law_names, defScope s_law_names, [], []⟩
def d_law_sum : He.DefD := ⟨("_law_sum", none), "_law_sum", "_law_sum", defArgs s_law_sum, defBody s_law_sum, defScope s_law_sum, [], []⟩
def d_law_made_guard : He.DefD := ⟨("_law_made_guard", none), "_law_made_guard", "_law_made_guard", defArgs s_law_made_guard, defBody s_law_made_guard, defScope s_law_made_guard, [], []⟩
def d_law_made_statement : He.DefD := ⟨("_law_made_statement", none), "_law_made_statement", "_law_made_statement", defArgs s_law_made_statement, defBody s_law_made_statement, defScope s_law_made_statement, [], []⟩
def d_law_made_loop : He.DefD := ⟨("_law_made_loop", none), "_law_made_loop", "_law_made_loop", defArgs s_law_made_loop, defBody s_law_made_loop, defScope s_law_made_loop, [], []⟩
def d_law_made : He.DefD := ⟨("_law_made", none), "_law_made", "_law_made", defArgs s_law_made, defBody s_law_made, defScope s_law_made, [], []⟩
def d_law_tight_place : He.DefD := ⟨("_law_tight_place", none), "_law_tight_place", "_law_tight_place", defArgs s_law_tight_place, defBody s_law_tight_place, defScope s_law_tight_place, [], []⟩
def d_law_tight_statement : He.DefD := ⟨("_law_tight_statement", none), "_law_tight_statement", "_law_tight_statement", defArgs s_law_tight_statement, defBody s_law_tight_statement, defScope s_law_tight_statement, [], []⟩
def d_law_refused : He.DefD := ⟨("_law_refused", none), "_law_refused", "_law_refused", defArgs s_law_refused, defBody s_law_refused, defScope s_law_refused, [], []⟩
def d_law_are_loops_right : He.DefD := ⟨("_law_are_loops_right", none), "_law_are_loops_right", "_law_are_loops_right", defArgs s_law_are_loops_right, defBody s_law_are_loops_right, defScope s_law_are_loops_right, [], []⟩
def d_law_are_statements_right : He.DefD := ⟨("_law_are_statements_right", none), "_law_are_statements_right", "_law_are_statements_right", defArgs s_law_are_statements_right, defBody s_law_are_statements_right, defScope s_law_are_statements_right, [], []⟩
def d_law_are_bounds_right : He.DefD := ⟨("_law_are_bounds_right", none), "_law_are_bounds_right", "_law_are_bounds_right", defArgs s_law_are_bounds_right, defBody s_law_are_bounds_right, defScope s_law_are_bounds_right, [], []⟩
def d_law_are_lots_right : He.DefD := ⟨("_law_are_lots_right", none), "_law_are_lots_right", "_law_are_lots_right", defArgs s_law_are_lots_right, defBody s_law_are_lots_right, defScope s_law_are_lots_right, [], []⟩
def d_law : He.DefD := ⟨("law", none), "law", "law", defArgs s_law, defBody s_law, defScope s_law, [], []⟩
def dBadName__init__ : He.DefD := ⟨("BadName", some "__init__"), "__init__", "BadName.__init__", defArgs iBadName__init__, defBody iBadName__init__, defScope iBadName__init__, [], []⟩
def dBadNumber__init__ : He.DefD := ⟨("BadNumber", some "__init__"), "__init__", "BadNumber.__init__", defArgs iBadNumber__init__, defBody iBadNumber__init__, defScope iBadNumber__init__, [], []⟩
def dBadSize__init__ : He.DefD := ⟨("BadSize", some "__init__"), "__init__", "BadSize.__init__", defArgs iBadSize__init__, defBody iBadSize__init__, defScope iBadSize__init__, [], []⟩
def dBadMany__init__ : He.DefD := ⟨("BadMany", some "__init__"), "__init__", "BadMany.__init__", defArgs iBadMany__init__, defBody iBadMany__init__, defScope iBadMany__init__, [], []⟩
def dTooMany__init__ : He.DefD := ⟨("TooMany", some "__init__"), "__init__", "TooMany.__init__", defArgs iTooMany__init__, defBody iTooMany__init__, defScope iTooMany__init__, [], []⟩
def dNoLoop__init__ : He.DefD := ⟨("NoLoop", some "__init__"), "__init__", "NoLoop.__init__", defArgs iNoLoop__init__, defBody iNoLoop__init__, defScope iNoLoop__init__, [], []⟩
def dNoStatement__init__ : He.DefD := ⟨("NoStatement", some "__init__"), "__init__", "NoStatement.__init__", defArgs iNoStatement__init__, defBody iNoStatement__init__, defScope iNoStatement__init__, [], []⟩
def dUnlike__init__ : He.DefD := ⟨("Unlike", some "__init__"), "__init__", "Unlike.__init__", defArgs iUnlike__init__, defBody iUnlike__init__, defScope iUnlike__init__, [], []⟩
def dStraight__init__ : He.DefD := ⟨("Straight", some "__init__"), "__init__", "Straight.__init__", defArgs iStraight__init__, defBody iStraight__init__, defScope iStraight__init__, [], []⟩
def dStraight__eq__ : He.DefD := ⟨("Straight", some "__eq__"), "__eq__", "Straight.__eq__", defArgs iStraight__eq__, defBody iStraight__eq__, defScope iStraight__eq__, [], []⟩
def dStraightreplaced : He.DefD := ⟨("Straight", some "replaced"), "replaced", "Straight.replaced", defArgs iStraightreplaced, defBody iStraightreplaced, defScope iStraightreplaced, [], []⟩
def dPlace__init__ : He.DefD := ⟨("Place", some "__init__"), "__init__", "Place.__init__", defArgs iPlace__init__, defBody iPlace__init__, defScope iPlace__init__, [], []⟩
def dPlace__eq__ : He.DefD := ⟨("Place", some "__eq__"), "__eq__", "Place.__eq__", defArgs iPlace__eq__, defBody iPlace__eq__, defScope iPlace__eq__, [], []⟩
def dPlacereplaced : He.DefD := ⟨("Place", some "replaced"), "replaced", "Place.replaced", defArgs iPlacereplaced, defBody iPlacereplaced, defScope iPlacereplaced, [], []⟩
def dAtLeast__init__ : He.DefD := ⟨("AtLeast", some "__init__"), "__init__", "AtLeast.__init__", defArgs iAtLeast__init__, defBody iAtLeast__init__, defScope iAtLeast__init__, [], []⟩
def dAtLeastreplaced : He.DefD := ⟨("AtLeast", some "replaced"), "replaced", "AtLeast.replaced", defArgs iAtLeastreplaced, defBody iAtLeastreplaced, defScope iAtLeastreplaced, [], []⟩
def dRest__init__ : He.DefD := ⟨("Rest", some "__init__"), "__init__", "Rest.__init__", defArgs iRest__init__, defBody iRest__init__, defScope iRest__init__, [], []⟩
def dRestreplaced : He.DefD := ⟨("Rest", some "replaced"), "replaced", "Rest.replaced", defArgs iRestreplaced, defBody iRestreplaced, defScope iRestreplaced, [], []⟩
def dRead__init__ : He.DefD := ⟨("Read", some "__init__"), "__init__", "Read.__init__", defArgs iRead__init__, defBody iRead__init__, defScope iRead__init__, [], [("factor", .int 1)]⟩
def dStatement__init__ : He.DefD := ⟨("Statement", some "__init__"), "__init__", "Statement.__init__", defArgs iStatement__init__, defBody iStatement__init__, defScope iStatement__init__, [], [("reads", .adr (kwAt "reads")), ("conditions", .adr (kwAt "conditions"))]⟩
def dLoop__init__ : He.DefD := ⟨("Loop", some "__init__"), "__init__", "Loop.__init__", defArgs iLoop__init__, defBody iLoop__init__, defScope iLoop__init__, [], [("step", .int 1), ("down", .bl false)]⟩
def dProgram__init__ : He.DefD := ⟨("Program", some "__init__"), "__init__", "Program.__init__", defArgs iProgram__init__, defBody iProgram__init__, defScope iProgram__init__, [], []⟩
def dRewriting__init__ : He.DefD := ⟨("Rewriting", some "__init__"), "__init__", "Rewriting.__init__", defArgs iRewriting__init__, defBody iRewriting__init__, defScope iRewriting__init__, [], []⟩
def dRewritingthen : He.DefD := ⟨("Rewriting", some "then"), "then", "Rewriting.then", defArgs iRewritingthen, defBody iRewritingthen, defScope iRewritingthen, [], []⟩
def dRewritingorigin : He.DefD := ⟨("Rewriting", some "origin"), "origin", "Rewriting.origin", defArgs iRewritingorigin, defBody iRewritingorigin, defScope iRewritingorigin, [], []⟩
def dRewritingplaces : He.DefD := ⟨("Rewriting", some "places"), "places", "Rewriting.places", defArgs iRewritingplaces, defBody iRewritingplaces, defScope iRewritingplaces, [], []⟩
def fn0 : List He.DefD := [d_wall, d_is_integer, d_is_integer_from, d_is_size, d_is_array_name, d_check_loop, d_check_statement, d_check_size]
def fn1 : List He.DefD := [d_statement_at, d_is_straight, d_straight_like, d_place_like, d_value_of, d_added, d_replaced_straight, d_turns_from]
def fn2 : List He.DefD := [d_arrays_in, d_check_many, d_check_name, d_check_number, d_check_sum, d_check_place, d_check_range_place, d_same_programs]
def fn3 : List He.DefD := [d_program_parts, d_statements_parts, d_condition_parts, d_turn_of_work, d_followed, d_stands_for, d_kept_loop, d_with_entries]
def fn4 : List He.DefD := [d_entries_of, d_rewritten, d_made_statement, d_no_rewriting, d_check_next_loop, d_swap_loops, d_swap_statements, d_turn_loop]
def fn5 : List He.DefD := [d_join_loops, d_split_loop, d_cut_loop, d_deal_loop, d_unroll_loop, d_law_pen, d_law_draw, d_law_pick]
def fn6 : List He.DefD := [d_law_name, d_law_names, d_law_sum, d_law_made_guard, d_law_made_statement, d_law_made_loop, d_law_made, d_law_tight_place]
def fn7 : List He.DefD := [d_law_tight_statement, d_law_refused, d_law_are_loops_right, d_law_are_statements_right, d_law_are_bounds_right, d_law_are_lots_right, d_law, dBadName__init__]
def fn8 : List He.DefD := [dBadNumber__init__, dBadSize__init__, dBadMany__init__, dTooMany__init__, dNoLoop__init__, dNoStatement__init__, dUnlike__init__, dStraight__init__]
def fn9 : List He.DefD := [dStraight__eq__, dStraightreplaced, dPlace__init__, dPlace__eq__, dPlacereplaced, dAtLeast__init__, dAtLeastreplaced, dRest__init__]
def fn10 : List He.DefD := [dRestreplaced, dRead__init__, dStatement__init__, dLoop__init__, dProgram__init__, dRewriting__init__, dRewritingthen, dRewritingorigin]
def fn11 : List He.DefD := [dRewritingplaces]
def fnP0 : List He.DefD := fn0 ++ fn1
def fnP1 : List He.DefD := fn2 ++ fn3
def fnP2 : List He.DefD := fn4 ++ fn5
def fnP3 : List He.DefD := fn6 ++ fn7
def fnP4 : List He.DefD := fn8 ++ fn9
def fnP5 : List He.DefD := fn10 ++ fn11
def fn : List He.DefD := fnP0 ++ fnP1 ++ fnP2 ++ fnP3 ++ fnP4 ++ fnP5
def glos0 : List Str := ["LoopError", "BadName", "BadNumber", "BadSize", "BadMany", "TooMany", "NoLoop", "NoStatement"]
def glos1 : List Str := ["Unlike", "OtherProgram", "Straight", "Place", "AtLeast", "Rest", "Read", "Statement"]
def glos2 : List Str := ["Loop", "Program", "Rewriting", "_wall", "is_integer", "is_integer_from", "is_size", "is_array_name"]
def glos3 : List Str := ["check_loop", "check_statement", "check_size", "statement_at", "is_straight", "straight_like", "place_like", "value_of"]
def glos4 : List Str := ["added", "replaced_straight", "turns_from", "arrays_in", "check_many", "check_name", "check_number", "check_sum"]
def glos5 : List Str := ["check_place", "check_range_place", "same_programs", "program_parts", "statements_parts", "condition_parts", "turn_of_work", "followed"]
def glos6 : List Str := ["stands_for", "kept_loop", "with_entries", "entries_of", "rewritten", "made_statement", "no_rewriting", "check_next_loop"]
def glos7 : List Str := ["swap_loops", "swap_statements", "turn_loop", "join_loops", "split_loop", "cut_loop", "deal_loop", "unroll_loop"]
def glos8 : List Str := ["_law_pen", "_law_draw", "_law_pick", "_law_name", "_law_names", "_law_sum", "_law_made_guard", "_law_made_statement"]
def glos9 : List Str := ["_law_made_loop", "_law_made", "_law_tight_place", "_law_tight_statement", "_law_refused", "_law_are_loops_right", "_law_are_statements_right", "_law_are_bounds_right"]
def glos10 : List Str := ["_law_are_lots_right", "law"]
def glos : List Str := glos0 ++ glos1 ++ glos2 ++ glos3 ++ glos4 ++ glos5 ++ glos6 ++ glos7 ++ glos8 ++ glos9 ++ glos10
def frees0 : List Str := ["int", "len", "list", "isinstance", "range", "str", "bool", "max"]
def frees1 : List Str := ["min", "tuple", "all", "set", "sorted", "enumerate", "sum", "abs"]
def frees2 : List Str := ["divmod"]
def frees : List Str := frees0 ++ frees1 ++ frees2
def owns0 : List Str := ["Straight", "Place", "AtLeast", "Rest", "Read", "Statement", "Loop", "Program"]
def owns1 : List Str := ["Rewriting"]
def owns : List Str := owns0 ++ owns1
def atts0 : List (Str × Str) := [("Straight", "i"), ("Straight", "n"), ("Straight", "one"), ("Place", "straight"), ("Place", "divisor"), ("AtLeast", "straight"), ("Rest", "straight"), ("Rest", "modulus")]
def atts1 : List (Str × Str) := [("Rest", "rest"), ("Read", "array"), ("Read", "place"), ("Read", "factor"), ("Statement", "array"), ("Statement", "cell"), ("Statement", "constant"), ("Statement", "reads")]
def atts2 : List (Str × Str) := [("Statement", "conditions"), ("Loop", "low"), ("Loop", "high"), ("Loop", "statements"), ("Loop", "step"), ("Loop", "down"), ("Program", "loops"), ("Program", "arrays")]
def atts3 : List (Str × Str) := [("Program", "known"), ("Rewriting", "before"), ("Rewriting", "after"), ("Rewriting", "origins"), ("Rewriting", "known")]
def atts : List (Str × Str) := atts0 ++ atts1 ++ atts2 ++ atts3
def mets0 : List (Str × Str) := [("Straight", "__init__"), ("Straight", "__eq__"), ("Straight", "replaced"), ("Place", "__init__"), ("Place", "__eq__"), ("Place", "replaced"), ("AtLeast", "__init__"), ("AtLeast", "replaced")]
def mets1 : List (Str × Str) := [("Rest", "__init__"), ("Rest", "replaced"), ("Read", "__init__"), ("Statement", "__init__"), ("Loop", "__init__"), ("Program", "__init__"), ("Rewriting", "__init__"), ("Rewriting", "then")]
def mets2 : List (Str × Str) := [("Rewriting", "origin"), ("Rewriting", "places")]
def mets : List (Str × Str) := mets0 ++ mets1 ++ mets2
def oprs0 : List (Str × String) := []
def oprs : List (Str × String) := oprs0
def excs0 : List (Str × List Str) := [("BadName", ["name"]), ("BadNumber", ["what", "number"]), ("BadSize", ["n"]), ("BadMany", ["many"]), ("TooMany", ["what", "many", "limit"]), ("NoLoop", ["loop"]), ("NoStatement", ["loop", "statement"]), ("Unlike", ["loop"])]
def excs : List (Str × List Str) := excs0
def kits (K : PySem.W.Frag) : Bool := true && decide (PySem.W.kitOne K (.ref (He.ga K "Straight")) (.type "int") = some false) && decide (PySem.W.kitOne K (.ref (He.ga K "Straight")) (.ref (He.ga K "Straight")) = some true) && decide (PySem.W.kitOne K (.ref (He.ga K "Straight")) (.ref (He.ga K "Place")) = some false) && decide (PySem.W.kitOne K (.ref (He.ga K "Place")) (.ref (He.ga K "Place")) = some true) && decide (PySem.W.kitOne K (.ref (He.ga K "Place")) (.ref (He.ga K "Straight")) = some false) && decide (PySem.W.kitOne K (.type "int") (.ref (He.ga K "Place")) = some false) && decide (PySem.W.kitOne K (.type "int") (.ref (He.ga K "Straight")) = some false) && decide (PySem.W.kitOne K (.type "int") (.type "int") = some true) && decide (PySem.W.kitOne K (.type "int") (.type "bool") = some false) && decide (PySem.W.kitOne K (.ref (He.ga K "AtLeast")) (.ref (He.ga K "Rest")) = some false) && decide (PySem.W.kitOne K (.ref (He.ga K "Rest")) (.ref (He.ga K "Rest")) = some true)
def insB (K : PySem.W.Frag) (C : Addr) : Bool := He.eqO (PySem.W.findIn K (.ref C) "__class__") (some (some (.builtin "object.__class__"))) && (He.eqO (PySem.W.specialIn K (.builtin "object.__class__") "__get__") (some (some (.builtin "getset_descriptor.__get__"))) && (decide (PySem.W.takesIn K (.builtin "object.__class__") = some true) && decide (PySem.W.mroIn K C (.type "object") = some true)))
def faP0 : List FaK := [
  fun K => glos.all fun x => (He.Fa.glo x).ok K]
def faP1 : List FaK := [
  fun K => frees.all fun x => (He.Fa.free x).ok K,
  fun K => owns.all fun x => (He.Fa.cls x).ok K && ((He.Fa.mkr x).ok K && insB K (He.ga K x))]
def faP2 : List FaK := [
  fun K => atts.all fun q => (He.Fa.noat q.1 q.2).ok K]
def faP3 : List FaK := [
  fun K => mets.all fun q => (He.Fa.meth q.1 q.2).ok K]
def faP4 : List FaK := [
  fun K => oprs.all fun q => opiB K (He.ga K q.1) q.2,
  fun K => excs.all fun q => exkB K (He.ga K q.1) && (oexB K (He.ga K q.1) && (He.eqO (PySem.W.findIn K (.ref (He.ga K q.1)) "__init__") (some (some (.ref (He.ma K (He.ga K q.1) "__init__")))) && (decide (PySem.W.typeIn K (.ref (He.ma K (He.ga K q.1) "__init__")) = some (.type "function")) &&
    q.2.all fun f => He.eqO (PySem.W.findIn K (.ref (He.ga K q.1)) f) (some none)))),
  kits,
  fun K => He.eqO (PySem.W.nsIn K mainGlobals "gcd") (some (some (.builtin "math.gcd")))]
def faP5 : List FaK := [
  fun K => ([("TOP_PART", 12), ("TOP_ONE", 999), ("TOP_RANGE_PART", 3), ("TOP_DIVISOR", 3), ("TOP_STEP", 16), ("MOST_LOOPS", 6), ("MOST_STATEMENTS", 16), ("MOST_READS", 3), ("MOST_CONDITIONS", 3), ("TOP_MODULUS", 4), ("MOST_DEALT", 4), ("MOST_UNROLLED", 16), ("TOP_SIZE", 1000000000000000000000000000000)] : List (Str × Int)).all fun q => (match PySem.W.nsIn K mainGlobals q.1 with | some (some (.int i _)) => decide (i = q.2) | _ => false),
  fun K => (He.Fa.glo "KEPT_WORDS").ok K && He.tupB K "KEPT_WORDS" (kept.map He.Dv.str),
  fun K => (match PySem.W.nsIn K mainGlobals "LETTERS" with | some (some (.str x _)) => decide (x = lets) | _ => false),
  fun K => (["reads", "conditions"] : List Str).all fun x => (match K.lookup (kwAt x K) with | some ⟨.type c, _, .seq its _, _⟩ => decide (c = "tuple") && decide (its.size = 0) | _ => false),
  fun K => (([("NoLoop", "NoLoop", true), ("Unlike", "NoLoop", false), ("Unlike", "Unlike", true), ("NoStatement", "NoLoop", false), ("NoStatement", "Unlike", false), ("NoStatement", "NoStatement", true)] : List (Str × Str × Bool)) ++ (([("BadSize", "NoLoop", false), ("BadSize", "Unlike", false), ("BadSize", "NoStatement", false), ("BadSize", "BadSize", true), ("BadMany", "NoLoop", false), ("BadMany", "Unlike", false)] : List (Str × Str × Bool)) ++ (([("BadMany", "NoStatement", false), ("BadMany", "BadSize", false), ("BadMany", "BadMany", true), ("TooMany", "NoLoop", false), ("TooMany", "Unlike", false), ("TooMany", "NoStatement", false)] : List (Str × Str × Bool)) ++ (([("TooMany", "BadSize", false), ("TooMany", "BadMany", false), ("TooMany", "TooMany", true), ("BadNumber", "NoLoop", false), ("BadNumber", "Unlike", false), ("BadNumber", "NoStatement", false)] : List (Str × Str × Bool)) ++ (([("BadNumber", "BadSize", false), ("BadNumber", "BadMany", false), ("BadNumber", "TooMany", false), ("BadNumber", "BadNumber", true), ("OtherProgram", "NoLoop", false), ("OtherProgram", "Unlike", false)] : List (Str × Str × Bool)) ++ (([("OtherProgram", "NoStatement", false), ("OtherProgram", "BadSize", false), ("OtherProgram", "BadMany", false), ("OtherProgram", "TooMany", false), ("OtherProgram", "BadNumber", false), ("OtherProgram", "OtherProgram", true)] : List (Str × Str × Bool)))))))).all fun q => decide (PySem.W.exmOne K (.ref (He.ga K q.1)) (.ref (He.ga K q.2.1)) = some q.2.2),
  fun K => (["OtherProgram"] : List Str).all fun x => exkB K (He.ga K x) && PySem.W.excIn K (He.ga K x) He.veBase "ValueError.__new__",
  fun K => (["law", "_law_are_loops_right", "_law_are_statements_right", "_law_are_bounds_right", "_law_are_lots_right"] : List Str).all fun x => (match PySem.W.tabIn K x with | some (_, a) => (K.lookup a).isNone | _ => false),
  fun K => (([("law", "_law_are_loops_right"), ("law", "_law_are_statements_right"), ("law", "_law_are_bounds_right"), ("law", "_law_are_lots_right"), ("_law_are_loops_right", "_law_are_statements_right")] : List (Str × Str)) ++ ([("_law_are_loops_right", "_law_are_bounds_right"), ("_law_are_loops_right", "_law_are_lots_right"), ("_law_are_statements_right", "_law_are_bounds_right"), ("_law_are_statements_right", "_law_are_lots_right"), ("_law_are_bounds_right", "_law_are_lots_right")] : List (Str × Str))).all fun q => (match PySem.W.tabIn K q.1, PySem.W.tabIn K q.2 with | some (_, a), some (_, b) => decide (a ≠ b) | _, _ => false)]
def fa : List FaK := faP0 ++ faP1 ++ faP2 ++ faP3 ++ faP4 ++ faP5
abbrev R : PySem.W.OpenRow := PySem.W.OpenLaw.row PySem.Challenge.rw_loopsize_k49_rewritings_refused
abbrev hk : PySem.W.Hook := hookRT 1200 fa fn
def ob (s : PySem.W.SharedT) : He.AlD := obsRT 1200 fa fn (HandSHeadRun.getT s)
theorem ob_eq (s : PySem.W.SharedT) : ob s = hk.obs s.abs := obsRT_eq (HandSHeadRun.getT_eq s)
def names0 : List Str := ["_wall", "LoopError", "BadName", "BadNumber", "BadSize", "BadMany", "TooMany", "NoLoop"]
def names1 : List Str := ["NoStatement", "Unlike", "OtherProgram", "is_integer", "is_integer_from", "is_size", "is_array_name", "check_loop"]
def names2 : List Str := ["check_statement", "check_size", "statement_at", "Straight", "Place", "is_straight", "straight_like", "place_like"]
def names3 : List Str := ["value_of", "added", "replaced_straight", "AtLeast", "Rest", "Read", "Statement", "Loop"]
def names4 : List Str := ["Program", "turns_from", "arrays_in", "check_many", "check_name", "check_number", "check_sum", "check_place"]
def names5 : List Str := ["check_range_place", "same_programs", "program_parts", "statements_parts", "condition_parts", "turn_of_work", "Rewriting", "followed"]
def names6 : List Str := ["stands_for", "kept_loop", "with_entries", "entries_of", "rewritten", "made_statement", "no_rewriting", "check_next_loop"]
def names7 : List Str := ["swap_loops", "swap_statements", "turn_loop", "join_loops", "split_loop", "cut_loop", "deal_loop", "unroll_loop"]
def names8 : List Str := ["_law_pen", "_law_draw", "_law_pick", "_law_name", "_law_names", "_law_sum", "_law_made_guard", "_law_made_statement"]
def names9 : List Str := ["_law_made_loop", "_law_made", "_law_tight_place", "_law_tight_statement", "_law_refused", "TOP_SIZE", "LETTERS", "KEPT_WORDS"]
def names10 : List Str := ["TOP_MODULUS", "TOP_PART", "TOP_ONE", "TOP_DIVISOR", "TOP_RANGE_PART", "TOP_STEP", "MOST_LOOPS", "MOST_STATEMENTS"]
def names11 : List Str := ["MOST_READS", "MOST_CONDITIONS", "MOST_DEALT", "MOST_UNROLLED"]
def names : List Str := names0 ++ names1 ++ names2 ++ names3 ++ names4 ++ names5 ++ names6 ++ names7 ++ names8 ++ names9 ++ names10 ++ names11
end K49
set_option maxHeartbeats 0
namespace K49
open PySem PySem.Spec PyProof.Rows L2 Z
theorem run1 (w : World) : (HandSHeadRun.wholeF (fun p => HandSHeadRun.stepQ (HandSHeadRun.denQ HandSHeadRun.tabQ) p w) HandSHeadRun.fenceQ 60000 R.prog).map (fun x => HandSHeadRun.looksF R.prog x.1.heap x.2.abs) = some true := by
  kernel_rfl
theorem run2 (w : World) : (HandSHeadRun.wholeF (fun p => HandSHeadRun.stepQ (HandSHeadRun.denQ HandSHeadRun.tabQ) p w) HandSHeadRun.fenceQ 60000 R.prog).map (fun x => HandSHeadRun.seenQ (PySem.W.view R.prog [0, 102, 103, 104, 105, 106]) names (importedModules R.prog.main.body) (fun s => PySem.W.xlAt (PySem.W.view R.prog [0, 102, 103, 104, 105, 106]) [] s && PySem.W.recOk R.toRowW.records s) x.2.abs) = some (PySem.W.openGood (PySem.W.view R.prog [0, 102, 103, 104, 105, 106]) names) := by
  kernel_rfl
theorem run3_0 (w : World) : (HandSHeadRun.wholeF (fun p => HandSHeadRun.stepQ (HandSHeadRun.denQ HandSHeadRun.tabQ) p w) HandSHeadRun.fenceQ 60000 R.prog).map (fun x => obsRT 1200 faP0 fnP0 (HandSHeadRun.getT x.2)) = some (He.valD fnP0) := by
  kernel_rfl
theorem run3_1 (w : World) : (HandSHeadRun.wholeF (fun p => HandSHeadRun.stepQ (HandSHeadRun.denQ HandSHeadRun.tabQ) p w) HandSHeadRun.fenceQ 60000 R.prog).map (fun x => obsRT 1200 faP1 fnP1 (HandSHeadRun.getT x.2)) = some (He.valD fnP1) := by
  kernel_rfl
theorem run3_2 (w : World) : (HandSHeadRun.wholeF (fun p => HandSHeadRun.stepQ (HandSHeadRun.denQ HandSHeadRun.tabQ) p w) HandSHeadRun.fenceQ 60000 R.prog).map (fun x => obsRT 1200 faP2 fnP2 (HandSHeadRun.getT x.2)) = some (He.valD fnP2) := by
  kernel_rfl
theorem run3_3 (w : World) : (HandSHeadRun.wholeF (fun p => HandSHeadRun.stepQ (HandSHeadRun.denQ HandSHeadRun.tabQ) p w) HandSHeadRun.fenceQ 60000 R.prog).map (fun x => obsRT 1200 faP3 fnP3 (HandSHeadRun.getT x.2)) = some (He.valD fnP3) := by
  kernel_rfl
theorem run3_4 (w : World) : (HandSHeadRun.wholeF (fun p => HandSHeadRun.stepQ (HandSHeadRun.denQ HandSHeadRun.tabQ) p w) HandSHeadRun.fenceQ 60000 R.prog).map (fun x => obsRT 1200 faP4 fnP4 (HandSHeadRun.getT x.2)) = some (He.valD fnP4) := by
  kernel_rfl
theorem run3_5 (w : World) : (HandSHeadRun.wholeF (fun p => HandSHeadRun.stepQ (HandSHeadRun.denQ HandSHeadRun.tabQ) p w) HandSHeadRun.fenceQ 60000 R.prog).map (fun x => obsRT 1200 faP5 fnP5 (HandSHeadRun.getT x.2)) = some (He.valD fnP5) := by
  kernel_rfl
theorem run3 (w : World) : (HandSHeadRun.wholeF (fun p => HandSHeadRun.stepQ (HandSHeadRun.denQ HandSHeadRun.tabQ) p w) HandSHeadRun.fenceQ 60000 R.prog).map (fun x => ob x.2) = some (hk.val w) := obs_catT (obs_catT (obs_catT (obs_catT (obs_catT (run3_0 w) (run3_1 w)) (run3_2 w)) (run3_3 w)) (run3_4 w)) (run3_5 w)
theorem run (w : World) : HandSHeadRun.RunEqI R (PySem.W.view R.prog [0, 102, 103, 104, 105, 106]) hk ob 60000 names w := map3 (run1 w) (run2 w) (run3 w)
end K49
set_option maxHeartbeats 4000000
namespace K49
open PySem PySem.Spec PyProof.Rows L2 Z
abbrev FnP (K : PySem.W.Frag) (x : Str) (st : Stmt) (f : Addr) (fd : FuncData) : Prop := FunD K x x (defArgs st) (defBody st) (defScope st) [] [] f fd
/-- the built-in names that are still their own -/
structure Bt (mg : Str → Option Value) : Prop where
  int : mg "int" = none
  len : mg "len" = none
  list : mg "list" = none
/-- the pen, its cells at c -/
def PenC (H : Hp) (p c : Addr) (t : Nat) : Prop := ∃ (ns : List Int) (a l : Int), H p = some (.dK (penK c a l)) ∧ H c = some (.lst (ns.map V.int)) ∧ ns.length ≤ 63 ∧ 0 ≤ a ∧ a ≤ (t : Int) ∧ 0 ≤ l
def spDrawC : Sp := fun vs H Q _ => ∃ (p : Addr) (m : Int) (t : Nat) (c : Addr), vs = [.ref p, .int m] ∧ 0 < m ∧ m < 1073741824 ∧ t < 1000000000 ∧ PenC H p c t ∧ ∀ H' (d : Int), 0 ≤ d → d < m → PenC H' p c (t + 1) → Keep p H H' → Q (.int d) H'
theorem PenC.pen {H : Hp} {p c : Addr} {t : Nat} (h : PenC H p c t) : Pen H p t := by
  obtain ⟨ns, a, l, h⟩ := h
  exact ⟨c, ns, a, l, h⟩
theorem Pen.penC {H : Hp} {p : Addr} {t : Nat} (h : Pen H p t) : ∃ c, PenC H p c t := by
  obtain ⟨c, ns, a, l, h⟩ := h
  exact ⟨c, ns, a, l, h⟩
theorem PenC.has {H : Hp} {p c : Addr} {t : Nat} (h : PenC H p c t) : ∃ o, H c = some o := by
  obtain ⟨ns, a, l, _, h, _⟩ := h
  exact ⟨_, h⟩
theorem Dn.imp {P : Program} {w : World} {K : PySem.W.Frag} {mg : Str → Option Value} {base : Heap} {j : Nat} {x : Str} {ps : List Str} {sp sp' : Sp} (D : Dn P w K mg base j x ps sp) (i : ∀ vs H Q E, sp' vs H Q E → sp vs H Q E) : Dn P w K mg base j x ps sp' := by
  obtain ⟨f, fd, F, r⟩ := D
  exact ⟨f, fd, F.imp i, r⟩
section
variable {P : Program} {w : World} {K : PySem.W.Frag} {mg : Str → Option Value} {base : Heap}
theorem sc_law_pen : FnScope ["_law_script"] ["_law_script"] (defScope s_law_pen) := ⟨rfl, rfl, rfl, by decide +kernel, rfl, by decide +kernel, by decide +kernel⟩
theorem ok_pen {f : Addr} {fd : FuncData} (F : FnP K "_law_pen" s_law_pen f fd) (T : Bt mg) : FnOk P w K mg base CX0 1 f fd ["_law_script"] (spPen K) := by
  refine F.ok sc_law_pen (fun vs H Q E h => ?_) (fun cdv A outer s H vs Q E hr h => ?_)
  · obtain ⟨a, ns, rfl, _⟩ := h
    rfl
  · obtain ⟨a, ns, rfl, hS, hl, k⟩ := h
    have hu := hu_of hr
    refine ⟨_, PSs.nox (pss_one (ps_ret (pe_disp (pps_cons pe_str (pe_callTy call_list_of (by rfl) T.list (by decide +kernel) (pa_cons (pe_slice sl_list (pv 0) po_none (po_some pe_int)) pa_nil)) (pps_cons pe_str pe_int (pps_cons pe_str pe_int pps_nil))) (by rfl) (by rfl) (fun z => by cases z) (by decide)))), ?_⟩
    intro p hp
    refine ⟨_, rfl, _, rfl, a, ns.map V.int, rfl, ?_, fun q hq => ⟨q, _, rfl, .inl (SqL.of upd_same), fun l hl2 => ?_⟩⟩
    · exact Same.seq (Same.new _ (Same.refl H) hp) hS
    have npq : p ≠ q := fun z => by
      rw [← z, upd_same] at hq
      cases hq
    have npl : p ≠ l := fun z => by
      rw [← z, upd_ne npq, upd_same] at hl2
      cases hl2
    refine ⟨(by rw [upd_ne npl, upd_ne npq, upd_same]), penK l 0 0, rfl, (by show 3 ≤ 15; decide), ?_⟩
    have em : mergeK [] (penK l 0 0) = penK l 0 0 := by
      show putK (putK (putK [] (Sum.inr "cells" : Key) (.ref l)) (Sum.inr "at" : Key) (.int 0)) (Sum.inr "left" : Key) (.int 0) = penK l 0 0
      have e1 : putK ([] : List (Key × V)) (Sum.inr "cells" : Key) (.ref l) = [((Sum.inr "cells" : Key), V.ref l)] := putK_new (kvs := []) _ rfl
      have e2 : putK [((Sum.inr "cells" : Key), V.ref l)] (Sum.inr "at" : Key) (.int 0) = [((Sum.inr "cells" : Key), V.ref l), (Sum.inr "at", V.int 0)] := putK_new _ (by
        rw [valV_neg (key_ne ca_)]
        rfl)
      have e3 : putK [((Sum.inr "cells" : Key), V.ref l), (Sum.inr "at", V.int 0)] (Sum.inr "left" : Key) (.int 0) = penK l 0 0 := putK_new _ (by
        rw [valV_neg (key_ne cl_), valV_neg (key_ne al_)]
        rfl)
      rw [e1, e2, e3]
    rw [em]
    have hc : (cutV (ns.map V.int) none (some 63)) = (ns.map V.int) := by
      unfold cutV
      have e1 : HT.sIx (ns.map V.int).length 0 none = 0 := HT.sIx_none _ _
      have e2 : HT.sIx (ns.map V.int).length (ns.map V.int).length (some 63) = min 63 (ns.map V.int).length := HT.sIx_nat _ _ 63
      rw [e1, e2, List.drop_zero, List.length_map, Nat.sub_zero, Nat.min_eq_right hl, ← List.length_map (f := V.int), List.take_length]
    rw [hc]
    refine k _ p (fun b o e => ?_) hp ⟨l, ns, 0, 0, upd_same, by rw [upd_ne npl.symm, upd_same], hl, Int.le_refl 0, Int.le_refl 0, Int.le_refl 0⟩
    have nbp : b ≠ p := ne_of_none e hp
    have nbq : b ≠ q := fun z => by
      rw [← z, upd_ne nbp] at hq
      rw [hq] at e
      cases e
    have nbl : b ≠ l := fun z => by
      rw [← z, upd_ne nbq, upd_ne nbp] at hl2
      rw [hl2] at e
      cases e
    rw [upd_ne nbp, upd_ne nbl, upd_ne nbq, upd_ne nbp]
    exact e
theorem sc_law_draw : FnScope ["_law_pen_here", "_law_many", "_law_digit", "_law_spot", "_law_cell", "_law_mixed"] ["_law_pen_here", "_law_many"] (defScope s_law_draw) := ⟨rfl, rfl, rfl, by decide +kernel, rfl, by decide +kernel, by decide +kernel⟩
theorem ok_drawC {f : Addr} {fd : FuncData} (F : FnP K "_law_draw" s_law_draw f fd) (T : Bt mg) : FnOk P w K mg base CX0 1 f fd ["_law_pen_here", "_law_many"] spDrawC := by
  refine F.ok sc_law_draw (fun vs H Q E h => ?_) (fun cdv A outer s H vs Q E hr h => ?_)
  · obtain ⟨p, m, t, c, rfl, _⟩ := h
    rfl
  · obtain ⟨p, m, t, c, rfl, hm, hm2, ht, hP, k⟩ := h
    obtain ⟨ns, a, l, h1, h2, h3, h4, h5, h6⟩ := id hP
    have hu := hu_of hr
    have m0 : m ≠ 0 := by omega
    have mb : m.natAbs < 1073741824 := by omega
    have ncp : c ≠ p := ne_of h2 h1 lst_ne_dK
    have z1 : (2147483629 : Int) ≠ 0 := by decide
    have z2 : (2147483647 : Int) ≠ 0 := by decide
    have z3 : (2147483587 : Int) ≠ 0 := by decide
    have z4 : (2147483563 : Int) ≠ 0 := by decide
    refine ⟨_, PSs.nox (pss_cons (ps_if (pt_cmpR op_ge (pe_dget hu (pv 0) pe_str (fun _ _ => rfl)) (pv 1) (nomark _)) (pss_cons (ps_set (i := 2) sc_law_draw.nd rfl (Or.inl rfl) (pe_op op_modN (pe_callTy call_int1 (by rfl) T.int (by decide +kernel) (pa_cons (pe_dget hu (pv 0) pe_str (fun _ _ => rfl)) pa_nil)) (pv 1)))
      (pss_cons (ps_dput hu (pv 0) pe_str (pe_op op_fdivN (pe_dget hu (pv 0) pe_str (fun _ _ => rfl)) (pv 1)) rfl)
      (pss_one (ps_ret (pv 2))))) pss_nil)
      (pss_cons (ps_set (i := 3) sc_law_draw.nd rfl (Or.inl rfl) (pe_dget hu (pv 0) pe_str (fun _ _ => rfl)))
      (pss_cons (ps_dput hu (pv 0) pe_str (pe_op op_add (pv 3) pe_int) rfl)
      (pss_cons (ps_if (pt_cmpR (op_eqD hr.units) (pe_dget hu (pv 0) pe_str (fun _ _ => rfl)) (pe_lst pa_nil) (nomark _)) (pss_one (ps_ret (pe_op op_modN (pe_callTy call_int1 (by rfl) T.int (by decide +kernel) (pa_cons (pe_op op_add (pe_op op_mul pe_int (pv 3)) pe_int) pa_nil)) (pv 1)))) pss_nil)
      (pss_cons (ps_set (i := 4) sc_law_draw.nd rfl (Or.inl rfl) (pe_ix ix_list (pe_dget hu (pv 0) pe_str (fun _ _ => rfl)) (pe_op op_modN (pe_callTy call_int1 (by rfl) T.int (by decide +kernel) (pa_cons (pv 3) pa_nil)) (pe_callB call_len_seq (by rfl) T.len PySem.boot_len (pa_cons (pe_dget hu (pv 0) pe_str (fun _ _ => rfl)) pa_nil))) (fun _ _ => rfl)))
      (pss_cons (ps_if (PW.pt (pw_and (pt_cmpR op_lt (pv 3) (pe_callB call_len_seq (by rfl) T.len PySem.boot_len (pa_cons (pe_dget hu (pv 0) pe_str (fun _ _ => rfl)) pa_nil)) (nomark _)) (pw_and1 (pt_cmpR op_ge (pv 4) (pe_op op_pow pe_int pe_int) (nomark _))))) (pss_cons (ps_dput hu (pv 0) pe_str (pe_op op_fdivN (pe_op op_sub (pv 4) (pe_op op_pow pe_int pe_int)) (pv 1)) rfl)
      (pss_one (ps_ret (pe_op op_modN (pe_callTy call_int1 (by rfl) T.int (by decide +kernel) (pa_cons (pe_op op_sub (pv 4) (pe_op op_pow pe_int pe_int)) pa_nil)) (pv 1))))) pss_nil)
      (pss_cons (ps_set (i := 5) sc_law_draw.nd rfl (Or.inl rfl) (pe_op op_add (pe_op op_add (pe_op op_mul (pe_op op_add (pe_op op_modN (pe_callTy call_int1 (by rfl) T.int (by decide +kernel) (pa_cons (pv 4) pa_nil)) pe_int) pe_int) (pe_op op_add (pe_op op_mul pe_int (pv 3)) pe_int)) (pe_op op_mul (pe_op op_mul pe_int (pv 3)) (pv 3))) pe_int))
      (pss_cons (ps_set (i := 5) sc_law_draw.nd rfl (Or.inl rfl) (pe_op op_modN (pe_callTy call_int1 (by rfl) T.int (by decide +kernel) (pa_cons (pv 5) pa_nil)) pe_int))
      (pss_cons (ps_set (i := 5) sc_law_draw.nd rfl (Or.inl rfl) (pe_op op_modN (pe_callTy call_int1 (by rfl) T.int (by decide +kernel) (pa_cons (pe_op op_mul (pv 5) (pe_op op_add (pv 5) pe_int)) pa_nil)) pe_int))
      (pss_cons (ps_set (i := 5) sc_law_draw.nd rfl (Or.inl rfl) (pe_op op_modN (pe_callTy call_int1 (by rfl) T.int (by decide +kernel) (pa_cons (pe_op op_mul (pv 5) (pv 5)) pa_nil)) pe_int))
      (pss_one (ps_ret (pe_op op_modN (pe_callTy call_int1 (by rfl) T.int (by decide +kernel) (pa_cons (pe_op op_fdivN (pv 5) pe_int) pa_nil)) (pv 1)))))))))))))), ?_⟩
    refine ⟨_, rfl, p, _, rfl, pen_left h1, _, rfl, _, _, rfl, rfl, _, rfl, ?_⟩
    refine ite2 (fun _ => ?_) (fun _ => ?_)
    · refine ⟨_, rfl, p, _, rfl, pen_left h1, .inl ⟨_, rfl, _, rfl, _, _, rfl, rfl, m0, ?_⟩⟩
      refine ⟨_, rfl, p, _, rfl, pen_left h1, _, rfl, _, _, rfl, rfl, ⟨m0, mb⟩, _, rfl, p, _, rfl, pen_put_left _ h1, ?_⟩
      refine ⟨_, rfl, ?_⟩
      exact k _ _ (fmod_range hm).1 (fmod_range hm).2 ⟨ns, a, _, upd_same, by rw [upd_ne ncp]; exact h2, h3, h4, by omega, fdiv_nn h6 hm⟩ (Keep.upd _ (Keep.refl p H))
    · -- spot, at + 1
      refine ⟨_, rfl, p, _, rfl, pen_at h1, ?_⟩
      refine ⟨_, rfl, _, _, rfl, rfl, _, rfl, p, _, rfl, pen_put_at _ h1, ?_⟩
      have g1 : ∀ b, (upd H p (.dK (penK c (a + 1) b))) p = some (.dK (penK c (a + 1) b)) := fun b => upd_same
      have g2 : ∀ o, (upd H p o) c = some (.lst (ns.map V.int)) := fun o => by rw [upd_ne ncp]; exact h2
      have kE : ∀ o, Keep p H (upd H p o) := fun o => Keep.upd _ (Keep.refl p H)
      -- cells == []
      refine ⟨_, rfl, p, _, rfl, pen_cells (g1 _), Nat.zero_le _, fun e he => ?_⟩
      have nep : e ≠ p := fun z => by
        rw [z, upd_same] at he
        cases he
      have nec : e ≠ c := fun z => by
        rw [z, g2] at he
        cases he
      have g1' : ∀ o, (upd (upd H p (.dK (penK c (a + 1) l))) e o) p = some (.dK (penK c (a + 1) l)) := fun o => by rw [upd_ne nep.symm, upd_same]
      have g2' : ∀ o, (upd (upd H p (.dK (penK c (a + 1) l))) e o) c = some (.lst (ns.map V.int)) := fun o => by rw [upd_ne nec.symm]; exact g2 _
      have kE' : ∀ o, Keep p H (upd (upd H p (.dK (penK c (a + 1) l))) e o) := fun o => Keep.new _ (kE _) he
      have pen' : ∀ o, PenC (upd (upd H p (.dK (penK c (a + 1) l))) e o) p c (t + 1) := fun o => ⟨ns, a + 1, l, g1' _, g2' _, h3, by omega, by omega, h6⟩
      refine ⟨.list (ns.map PyData.int), .list [], .lst (SqL.of (g2' _)) (dpAll_ints ns), .lst (SqL.of upd_same) .nil, shaped_ints ns, shaped_nil, _, rfl, ?_⟩
      rw [eqv_ints_nil]
      refine ite2 (fun hc => ?_) (fun hc => ?_)
      · refine ⟨_, rfl, _, _, rfl, rfl, .inl ⟨by decide, by decide⟩, _, _, rfl, rfl, .inl ⟨_, rfl, _, rfl, _, _, rfl, rfl, m0, ?_⟩⟩
        exact k _ _ (fmod_range hm).1 (fmod_range hm).2 (pen' _) (kE' _)
      · have hpos : 0 < ns.length := by
          cases ns with
          | nil => exact absurd rfl hc
          | cons n ns => exact Nat.succ_pos _
        have hposI : (0 : Int) < ((ns.map V.int).length : Int) := by
          rw [List.length_map]
          omega
        have fr := fmod_range (x := a) hposI
        obtain ⟨j, hj⟩ : ∃ j : Nat, a.fmod ((ns.map V.int).length : Int) = (j : Int) := ⟨(a.fmod ((ns.map V.int).length : Int)).toNat, by omega⟩
        have hjl : j < ns.length := by
          have z := fr.2
          rw [hj, List.length_map] at z
          omega
        refine ⟨_, rfl, p, _, rfl, pen_cells (g1' _), _, rfl, .inl ⟨_, rfl, _, rfl, p, _, rfl, pen_cells (g1' _), c, _, rfl, .inl (SqL.of (g2' _)), _, _, rfl, rfl, by omega, ?_⟩⟩
        refine ⟨c, _, (j : Int), _, rfl, congrArg V.int hj, SqL.of (g2' _), atI_nat (get_ints hjl), ?_⟩
        generalize hz : ns[j]'hjl = z
        -- spot < len(cells) and cell >= 10 ** 18
        refine ⟨_, rfl, _, rfl, p, _, rfl, pen_cells (g1' _), c, _, rfl, .inl (SqL.of (g2' _)), _, _, rfl, rfl, _, rfl, ?_⟩
        refine ite2 (fun _ => ?_) (fun _ => iteF ?_)
        · refine ⟨_, rfl, _, _, rfl, rfl, ⟨by decide, by decide, by decide⟩, _, _, rfl, rfl, _, rfl, ?_⟩
          refine ite2 (fun hz18 => ?_) (fun _ => ?_)
          · refine ⟨_, rfl, _, _, rfl, rfl, ⟨by decide, by decide, by decide⟩, _, _, rfl, rfl, _, rfl, _, _, rfl, rfl, ⟨m0, mb⟩, _, rfl, p, _, rfl, pen_put_left _ (g1' _), ?_⟩
            refine ⟨_, rfl, _, _, rfl, rfl, ⟨by decide, by decide, by decide⟩, _, _, rfl, rfl, .inl ⟨_, rfl, _, rfl, _, _, rfl, rfl, m0, ?_⟩⟩
            have hz0 : (0 : Int) ≤ z - 10 ^ (18 : Int).toNat := Int.sub_nonneg_of_le (of_decide_eq_true hz18)
            exact k _ _ (fmod_range hm).1 (fmod_range hm).2 ⟨ns, a + 1, _, upd_same, by rw [upd_ne ncp]; exact g2' _, h3, by omega, by omega, fdiv_nn hz0 hm⟩ (Keep.upd _ (kE' _))
          · refine ⟨_, rfl, .inl ⟨_, rfl, _, _, rfl, rfl, z1, _, _, rfl, rfl, _, rfl, _, _, rfl, rfl, .inl ⟨by decide, by decide⟩, _, _, rfl, rfl, _, _, rfl, rfl, .inl (mul_okf1 (by decide) (by decide)), ?_⟩⟩
            refine ⟨_, rfl, _, _, rfl, rfl, .inl ⟨by decide, by decide⟩, _, rfl, _, _, rfl, rfl, .inr ⟨by omega, by omega⟩, _, _, rfl, rfl, _, _, rfl, rfl, ?_⟩
            refine ⟨_, rfl, .inl ⟨_, rfl, _, _, rfl, rfl, z2, ?_⟩⟩
            refine ⟨_, rfl, _, rfl, _, _, rfl, rfl, _, _, rfl, rfl, .inl (mul_okf (by decide) (by decide)), .inl ⟨_, rfl, _, _, rfl, rfl, z3, ?_⟩⟩
            refine ⟨_, rfl, _, rfl, _, _, rfl, rfl, .inl (mul_okf (by decide) (by decide)), .inl ⟨_, rfl, _, _, rfl, rfl, z4, ?_⟩⟩
            refine ⟨_, rfl, _, _, rfl, rfl, ⟨by decide, by decide⟩, .inl ⟨_, rfl, _, rfl, _, _, rfl, rfl, m0, ?_⟩⟩
            exact k _ _ (fmod_range hm).1 (fmod_range hm).2 (pen' _) (kE' _)
        · refine ⟨_, rfl, .inl ⟨_, rfl, _, _, rfl, rfl, z1, _, _, rfl, rfl, _, rfl, _, _, rfl, rfl, .inl ⟨by decide, by decide⟩, _, _, rfl, rfl, _, _, rfl, rfl, .inl (mul_okf1 (by decide) (by decide)), ?_⟩⟩
          refine ⟨_, rfl, _, _, rfl, rfl, .inl ⟨by decide, by decide⟩, _, rfl, _, _, rfl, rfl, .inr ⟨by omega, by omega⟩, _, _, rfl, rfl, _, _, rfl, rfl, ?_⟩
          refine ⟨_, rfl, .inl ⟨_, rfl, _, _, rfl, rfl, z2, ?_⟩⟩
          refine ⟨_, rfl, _, rfl, _, _, rfl, rfl, _, _, rfl, rfl, .inl (mul_okf (by decide) (by decide)), .inl ⟨_, rfl, _, _, rfl, rfl, z3, ?_⟩⟩
          refine ⟨_, rfl, _, rfl, _, _, rfl, rfl, .inl (mul_okf (by decide) (by decide)), .inl ⟨_, rfl, _, _, rfl, rfl, z4, ?_⟩⟩
          refine ⟨_, rfl, _, _, rfl, rfl, ⟨by decide, by decide⟩, .inl ⟨_, rfl, _, rfl, _, _, rfl, rfl, m0, ?_⟩⟩
          exact k _ _ (fmod_range hm).1 (fmod_range hm).2 (pen' _) (kE' _)
end
end K49
set_option maxHeartbeats 4000000
namespace K49
open PySem PySem.Spec PyProof.Rows L2 Z
abbrev FnM (K : PySem.W.Frag) (C m q : Str) (st : Stmt) (fd : FuncData) : Prop := FunD K m q (defArgs st) (defBody st) (defScope st) [] [] (He.ma K (He.ga K C) m) fd
section
variable {P : Program} {w : World} {K : PySem.W.Frag} {mg : Str → Option Value} {base : Heap}
/-- what may be called as Straight(a, b, c) -/
def MkS (P : Program) (w : World) (K : PySem.W.Frag) (mg : Str → Option Value) (base : Heap) : Prop := ∃ fd, FnOk P w K mg base CX0 1 (He.ma K (CS K) "__init__") fd ["self", "i", "n", "one"] (spSI K) ∧ Binds K fd ["self", "i", "n", "one"] []
theorem scStraight__init__ : FnScope ["self", "i", "n", "one"] ["self", "i", "n", "one"] (defScope iStraight__init__) := ⟨rfl, rfl, rfl, by decide +kernel, rfl, by decide +kernel, by decide +kernel⟩
theorem mk_S {fd : FuncData} (T : StTx K mg) (F : FnM K "Straight" "__init__" "Straight.__init__" iStraight__init__ fd) : MkS P w K mg base := by
  refine ⟨fd, ?_, F.bindsN fun _ _ _ _ _ _ us hl => match us, hl with | [_, _, _, _], _ => rfl⟩
  refine F.ok scStraight__init__ (fun vs H Q E h => ?_) (fun cdv A outer s H vs Q E hr h => ?_)
  · obtain ⟨p, dx, a, b, c, rfl, _⟩ := h
    rfl
  · obtain ⟨p, dx, a, b, c, rfl, hp, k⟩ := h
    refine ⟨_, PSs.nox (pss_cons (ps_fld (pv 0) (pv 1) rfl)
      (pss_cons (ps_fld (pv 0) (pv 2) rfl)
      (pss_one (ps_fld (pv 0) (pv 3) rfl)))), ?_⟩
    refine ⟨_, rfl, _, rfl, p, _, dx, [], rfl, hp, T.clS, T.nI, (by show 0 < 1000; decide), ?_⟩
    refine ⟨_, rfl, _, rfl, p, _, dx, _, rfl, upd_same, T.clS, T.nN, (by show 1 < 1000; decide), ?_⟩
    refine ⟨_, rfl, _, rfl, p, _, dx, _, rfl, upd_same, T.clS, T.nO, len2 _ _ _ _, ?_⟩
    exact k _ upd_same (fun b o nb e => by rw [upd_ne nb, upd_ne nb, upd_ne nb]; exact e)
theorem pe_S {X : Cx} {e : Expr} {es : List Expr} {t : TA} {p pos : Pos} {k : Nat} (T : StTx X.K X.mg) (M : MkS X.prog X.w X.K X.mg X.base) (hr : Room k X.A) (ha : PA X (e :: es) t) (hk : 2 ≤ k := by decide) (hg : Gl X "Straight" := by rfl)
    (he : starEach (e :: es) X.env = (false, eval e X.env) :: starEach es X.env := by rfl) (hpl : (backTo pos (starEach es X.env)).any (·.1) = false := by rfl) :
    PE X (.Call (.Name "Straight" p) (e :: es) [] pos) (fun σ H Q => t σ H fun vs H1 => ∃ a b c, vs = [.int a, .int b, .int c] ∧ NewS X.K H1 a b c Q) := by
  obtain ⟨fd, F, hb⟩ := M
  refine ⟨fun pins s σ H Q I h => ?_⟩
  refine wpAny_Call_Name_kw (ld_glob I hg T.gS ?_ (by decide))
  refine PySem.W.callWith_K (h₀ := X.base) I.ok.mod.kin T.mkS.kp (thn (ha.run pos pins s σ H _ I h) fun us s1 ⟨vs, H1, I1, r, a, b, c, ev, q⟩ => ⟨I1.kIn, ?_⟩) he hpl
  subst ev
  exact run_make T.mkS F (hr.mono hk) hb .nil pass0 I1 r fun x dx nx nd ne => ⟨x, dx, a, b, c, rfl, upd_same, fun H' hx kp => ⟨rfl, q x H' (Same.made (Same.refl H1) nx nd kp) nx ⟨dx, hx⟩⟩⟩
theorem sc_is_integer : FnScope ["value"] ["value"] (defScope s_is_integer) := ⟨rfl, rfl, rfl, by decide +kernel, rfl, by decide +kernel, by decide +kernel⟩
theorem ok_isInt {f : Addr} {fd : FuncData} (F : FnP K "is_integer" s_is_integer f fd) (T : StTx K mg) : FnOk P w K mg base CX0 1 f fd ["value"] (spIsInt K) := by
  refine F.ok sc_is_integer (fun vs H Q E h => ?_) (fun cdv A outer s H vs Q E hr h => ?_)
  · obtain ⟨v, rfl, _⟩ := h
    rfl
  · obtain ⟨v, rfl, h⟩ := h
    refine ⟨_, PSs.nox (pss_one (ps_ret (pe_and (pe_callB call_isi (by rfl) T.isi (by decide +kernel) (pa_cons (pv 0) (pa_cons (pe_bltn (v := .ty "int") (by rfl) T.int (by decide +kernel) rfl) pa_nil))) (pe_one (pe_not (pe_callB call_isi (by rfl) T.isi (by decide +kernel) (pa_cons (pv 0) (pa_cons (pe_bltn (v := .ty "bool") (by rfl) T.bool (by decide +kernel) rfl) pa_nil)))))))), ?_⟩
    rcases h with ⟨i, rfl, q⟩ | ⟨p, a, b, c, rfl, hp, q⟩
    · refine ⟨_, rfl, _, _, _, _, _, rfl, .ty _, .base (.int i), kii, _, rfl, iteT ?_⟩
      exact ⟨_, rfl, _, _, _, _, _, rfl, .ty _, .base (.int i), kib, _, rfl, q⟩
    · exact ⟨_, rfl, _, _, _, _, _, rfl, .ty _, .base (T.ty hp), T.kSi, _, rfl, iteF q⟩
theorem sc_straight_like : FnScope ["value"] ["value"] (defScope s_straight_like) := ⟨rfl, rfl, rfl, by decide +kernel, rfl, by decide +kernel, by decide +kernel⟩
theorem ok_like {f : Addr} {fd : FuncData} (F : FnP K "straight_like" s_straight_like f fd) (T : StTx K mg) (M : MkS P w K mg base) : FnOk P w K mg base CX0 3 f fd ["value"] (spLike K) := by
  refine F.ok sc_straight_like (fun vs H Q E h => ?_) (fun cdv A outer s H vs Q E hr h => ?_)
  · obtain ⟨v, _, _, _, rfl, _⟩ := h
    rfl
  · obtain ⟨v, a, b, c, rfl, h, q⟩ := h
    refine ⟨_, PSs.nox (pss_one (ps_ret (pe_ifExp (pt_val (pe_callB call_isi (by rfl) T.isi (by decide +kernel) (pa_cons (pv 0) (pa_cons (pe_glob (v := .ref (CS K)) rfl T.gS rfl) pa_nil)))) (pv 0) (pe_S T M hr (pa_cons pe_int (pa_cons pe_int (pa_cons (pv 0) pa_nil))))))), ?_⟩
    rcases h with ⟨p, rfl, hp⟩ | ⟨rfl, rfl, rfl⟩
    · refine ⟨_, rfl, _, _, _, _, _, rfl, .own _, .base (T.ty hp), T.kSS, _, rfl, iteT ?_⟩
      exact ⟨_, rfl, q p H (Same.refl H) hp⟩
    · refine ⟨_, rfl, _, _, _, _, _, rfl, .own _, .base (.int c), T.kiS, _, rfl, iteF ?_⟩
      exact ⟨_, rfl, 0, 0, c, rfl, fun p H' s _ hp => q p H' s hp⟩
end
end K49
set_option maxHeartbeats 4000000
namespace K49
open PySem PySem.Spec PyProof.Rows L2 Z
section
variable {P : Program} {w : World} {K : PySem.W.Frag} {mg : Str → Option Value} {base : Heap}
theorem sc_is_integer_from : FnScope ["value", "low", "high"] ["value", "low", "high"] (defScope s_is_integer_from) := ⟨rfl, rfl, rfl, by decide +kernel, rfl, by decide +kernel, by decide +kernel⟩
theorem ok_intFrom {f : Addr} {fd : FuncData} (F : FnP K "is_integer_from" s_is_integer_from f fd) (dIsInt : Dn P w K mg base 1 "is_integer" ["value"] (spIsInt K)) : FnOk P w K mg base CX0 2 f fd ["value", "low", "high"] spIntFrom := by
  refine F.ok sc_is_integer_from (fun vs H Q E h => ?_) (fun cdv A outer s H vs Q E hr h => ?_)
  · obtain ⟨v, lo, hi, rfl, _⟩ := h
    rfl
  · obtain ⟨v, lo, hi, rfl, k⟩ := h
    refine ⟨_, PSs.nox (pss_one (ps_ret (pe_and (pe_dn dIsInt hr (pa_cons (pv 0) pa_nil)) (pe_one (pe_chain op_le op_le (pv 1) (pv 0) (pv 2)))))), ?_⟩
    refine ⟨_, rfl, _, rfl, .inl ⟨v, rfl, _, rfl, iteT ?_⟩⟩
    refine ⟨_, rfl, _, rfl, _, _, rfl, rfl, _, rfl, ite2 (fun h => ?_) (fun h => ?_)⟩
    · have h1 : lo ≤ v := of_decide_eq_true h
      refine ⟨_, rfl, _, _, rfl, rfl, ?_⟩
      rw [show decide (lo ≤ v ∧ v ≤ hi) = decide (v ≤ hi) from decide_eq_decide.mpr ⟨fun z => z.2, fun z => ⟨h1, z⟩⟩] at k
      exact k
    · have h1 : ¬ lo ≤ v := fun z => h (decide_eq_true z)
      rw [decide_eq_false (fun z => h1 z.1)] at k
      exact k
theorem scBadNumber__init__ : FnScope ["self", "what", "number"] ["self", "what", "number"] (defScope iBadNumber__init__) := ⟨rfl, rfl, rfl, by decide +kernel, rfl, by decide +kernel, by decide +kernel⟩
theorem mxBadNumber {fd : FuncData} (T : EC K mg "BadNumber" ["what", "number"]) (F : FnM K "BadNumber" "__init__" "BadNumber.__init__" iBadNumber__init__ fd) : Mx P w K mg base "BadNumber" ["self", "what", "number"] ["what", "number"] := by
  refine ⟨T, fd, ?_, F.bindsN fun _ _ _ _ _ _ us hl => match us, hl with | [_, _, _], _ => rfl⟩
  refine F.ok scBadNumber__init__ (fun vs H Q E h => ?_) (fun cdv A outer s H vs Q E hr h => ⟨_, PSs.nox (pss_cons (ps_ost (pv 0) (pv 1)) (pss_one (ps_ost (pv 0) (pv 2)))), rd_err2 T h⟩)
  obtain ⟨a, ws, rfl, e, _⟩ := h
  rw [List.length_cons, e]
  rfl
/-- what may be called as Place(v, d) -/
def MkP (P : Program) (w : World) (K : PySem.W.Frag) (mg : Str → Option Value) (base : Heap) : Prop := ∃ fd, FnOk P w K mg base (L2.CX P w) 4 (He.ma K (CP K) "__init__") fd ["self", "straight", "divisor"] (spPG K) ∧ Binds K fd ["self", "straight", "divisor"] []
theorem scPlace__init__ : FnScope ["self", "straight", "divisor", "told", "common"] ["self", "straight", "divisor"] (defScope iPlace__init__) := ⟨rfl, rfl, rfl, by decide +kernel, rfl, by decide +kernel, by decide +kernel⟩
theorem mk_P {fd : FuncData} (T : PlTx K mg) (M : MkS P w K mg base) (MB : Mx P w K mg base "BadNumber" ["self", "what", "number"] ["what", "number"]) (dLike : Dn P w K mg base 3 "straight_like" ["value"] (spLike K))
    (F : FnM K "Place" "__init__" "Place.__init__" iPlace__init__ fd) : MkP P w K mg base := by
  refine ⟨fd, ?_, F.bindsN fun _ _ _ _ _ _ us hl => match us, hl with | [_, _, _], _ => rfl⟩
  refine F.ok scPlace__init__ (fun vs H Q E h => ?_) (fun cdv A outer s H vs Q E hr h => ?_)
  · obtain ⟨p, dx, v, a, b, c, d, rfl, _⟩ := h
    rfl
  · obtain ⟨p, dx, v, a, b, c, d, rfl, hp, hv, hbad, hok⟩ := h
    refine ⟨_, (pss_cons (ps_if (pt_cmpR op_lt (pv 2) pe_int (nomark _)) (pss_one (ps_raise rfl (takes_of rfl rfl rfl rfl) (pmk_err MB hr (pa_cons pe_str (pa_cons (pv 2) pa_nil))))) pss_nil)
      (pss_cons (ps_set (i := 3) scPlace__init__.nd rfl (Or.inl rfl) (pe_dn dLike hr (pa_cons (pv 1) pa_nil)))
      (pss_cons (ps_set (i := 4) scPlace__init__.nd rfl (Or.inl rfl) (pe_callBfun cr_gcd (by rfl) T.gcd (pa_cons (pe_callBfun cr_gcd (by rfl) T.gcd (pa_cons (pe_fld (pv 3) rfl) (pa_cons (pe_fld (pv 3) rfl) pa_nil))) (pa_cons (pv 2) pa_nil))))
      (pss_cons (ps_fld (pv 0) (pe_S T.toStTx M hr (pa_cons (pe_op op_fdivN (pe_fld (pv 3) rfl) (pv 4)) (pa_cons (pe_op op_fdivN (pe_fld (pv 3) rfl) (pv 4)) (pa_cons (pe_op op_fdivN (pe_fld (pv 3) rfl) (pv 4)) pa_nil)))) rfl)
      (pss_one (ps_fld (pv 0) (pe_op op_fdivN (pv 2) (pv 4)) rfl)))))), ?_⟩
    refine ⟨_, rfl, _, _, rfl, rfl, _, rfl, ite2 (fun hd => ?_) (fun hd => ?_)⟩
    · exact ⟨_, rfl, err_go (K := K) (x := "BadNumber") (fs := ["what", "number"]) (by show 2 ≤ 1000; decide) rfl fun e H' s he => hbad (of_decide_eq_true hd) e H' s he⟩
    · have d1 : 1 ≤ d := by
        have z : ¬ d < 1 := fun z => hd (decide_eq_true z)
        omega
      obtain ⟨d2, k⟩ := hok d1
      have hg0 : 0 < gg a b d := Nat.gcd_pos_of_pos_right _ (by omega)
      have hgd : gg a b d ≤ d.natAbs := Nat.le_of_dvd (by omega) (Nat.gcd_dvd_right _ _)
      have hgc : CDivN a (gg a b d : Int) ∧ CDivN b (gg a b d : Int) ∧ CDivN c (gg a b d : Int) ∧ CDivN d (gg a b d : Int) := by
        unfold CDivN
        have e : ((gg a b d : Nat) : Int) ≠ 0 ∧ ((gg a b d : Nat) : Int).natAbs < 1073741824 := ⟨by omega, by omega⟩
        exact ⟨e, e, e, e⟩
      obtain ⟨ga_, gb_, gc_, gd_⟩ := hgc
      refine ⟨_, rfl, v, a, b, c, rfl, hv, fun q H1 s1 hq => ?_⟩
      obtain ⟨dq, hq⟩ := hq
      refine ⟨_, rfl, q, _, dq, _, _, rfl, hq, T.clS, T.nI, sf_i _ _ _, _, rfl, q, _, dq, _, _, rfl, hq, T.clS, T.nN, sf_n _ _ _, _, _, rfl, _, rfl, _, _, rfl, ?_⟩
      refine ⟨_, rfl, q, _, dq, _, _, rfl, hq, T.clS, T.nI, sf_i _ _ _, _, rfl, _, _, rfl, rfl, ga_, ?_⟩
      refine ⟨_, rfl, q, _, dq, _, _, rfl, hq, T.clS, T.nN, sf_n _ _ _, _, rfl, _, _, rfl, rfl, gb_, ?_⟩
      refine ⟨_, rfl, q, _, dq, _, _, rfl, hq, T.clS, T.nO, sf_one _ _ _, _, rfl, _, _, rfl, rfl, gc_, ?_⟩
      refine ⟨_, _, _, rfl, fun r H2 s2 hr1 hr2 => ?_⟩
      have hp2 : H2 p = some (.ins (CP K) dx []) := s2 _ _ (s1 _ _ hp)
      have npr : r ≠ p := fun z => by
        rw [z, s1 _ _ hp] at hr1
        cases hr1
      refine ⟨_, rfl, p, _, dx, _, rfl, hp2, T.clP, T.nS, (by show 0 < 1000; decide), ?_⟩
      refine ⟨_, rfl, _, rfl, _, _, rfl, rfl, gd_, _, rfl, p, _, dx, _, rfl, upd_same, T.clP, T.nD, len1 _ _, ?_⟩
      obtain ⟨dr, hr3⟩ := hr2
      refine k r _ upd_same ⟨dr, by rw [upd_ne npr, upd_ne npr]; exact hr3⟩ (fun b o nb e => ?_)
      rw [upd_ne nb, upd_ne nb]
      exact s2 _ _ (s1 _ _ e)
theorem pe_P {X : Cx} {e : Expr} {es : List Expr} {t : TA} {p pos : Pos} {k : Nat} {E : L2.St → XK} (T : PlTx X.K X.mg) (M : MkP X.prog X.w X.K X.mg X.base) (hr : Room k X.A) (hx : ∀ σ, PassesAt (L2.CX X.prog X.w) X σ (E σ)) (ha : PA X (e :: es) t) (hk : 5 ≤ k := by decide) (hg : Gl X "Place" := by rfl)
    (he : starEach (e :: es) X.env = (false, eval e X.env) :: starEach es X.env := by rfl) (hpl : (backTo pos (starEach es X.env)).any (·.1) = false := by rfl) :
    PE X (.Call (.Name "Place" p) (e :: es) [] pos) (fun σ H Q => t σ H fun vs H1 => ∃ v d, vs = [v, .int d] ∧ rPlG X.K v d H1 Q (E σ)) := by
  obtain ⟨fd, F, hb⟩ := M
  refine ⟨fun pins s σ H Q I h => ?_⟩
  refine wpAny_Call_Name_kw (ld_glob I hg T.gP ?_ (by decide))
  refine PySem.W.callWith_K (h₀ := X.base) I.ok.mod.kin T.mkP.kp (thn (ha.run pos pins s σ H _ I h) fun us s1 ⟨vs, H1, I1, r, v, d, ev, a, b, c, hv, hbad, hok⟩ => ⟨I1.kIn, ?_⟩) he hpl
  subst ev
  refine make_at T.mkP F (hr.mono hk) hb (hx σ) I1 r fun x dx nx nd ne => ?_
  have s0 : Same H1 (upd (upd H1 dx (.own x)) x (.ins (CP X.K) dx [])) := Same.new _ (Same.new _ (Same.refl H1) nd) (by rw [upd_ne (Ne.symm ne)]; exact nx)
  refine ⟨x, dx, v, a, b, c, d, rfl, upd_same, hv.same s0, fun hd e H' s he => hbad hd e H' (s0.trans s) he, fun h1 => ⟨(hok h1).1, fun q H' hp hq kp => ⟨rfl, (hok h1).2 x H' (Same.made (Same.refl H1) nx nd kp) ⟨dx, q, hp, hq⟩⟩⟩⟩
theorem pe_SK {X : Cx} {K : PySem.W.Frag} {e : Expr} {es : List Expr} {t : TA} {p pos : Pos} {k : Nat} (hK : X.K = K) (T : StTx K X.mg) (M : MkS X.prog X.w K X.mg X.base) (hr : Room k X.A) (ha : PA X (e :: es) t) (hk : 2 ≤ k := by decide) (hg : Gl X "Straight" := by rfl)
    (he : starEach (e :: es) X.env = (false, eval e X.env) :: starEach es X.env := by rfl) (hpl : (backTo pos (starEach es X.env)).any (·.1) = false := by rfl) :
    PE X (.Call (.Name "Straight" p) (e :: es) [] pos) (fun σ H Q => t σ H fun vs H1 => ∃ a b c, vs = [.int a, .int b, .int c] ∧ NewS K H1 a b c Q) := by
  subst hK
  exact pe_S T M hr ha hk hg he hpl
end
end K49
set_option maxHeartbeats 4000000
namespace K49
open PySem PySem.Spec PyProof.Rows L2 Z
structure AtTx (K : PySem.W.Frag) (mg : Str → Option Value) : Prop extends StTx K mg where
  gA : mg "AtLeast" = some (.ref (CA K))
  clA : Cls K (CA K)
  mkA : Mk K (CA K) (He.ma K (CA K) "__init__")
  nAS : NoAttr K (CA K) "straight"
  gcd : mg "gcd" = some (.builtin "math.gcd")
  gR : mg "Rest" = some (.ref (CR K))
  clQ : Cls K (CR K)
  mkR : Mk K (CR K) (He.ma K (CR K) "__init__")
  nRS : NoAttr K (CR K) "straight"
  nRM : NoAttr K (CR K) "modulus"
  nRR : NoAttr K (CR K) "rest"
  topM : ∃ t, mg "TOP_MODULUS" = some (.int 4 t)
section
variable {P : Program} {w : World} {K : PySem.W.Frag} {mg : Str → Option Value} {base : Heap}
/-- what may be called as AtLeast(v) -/
def MkA (P : Program) (w : World) (K : PySem.W.Frag) (mg : Str → Option Value) (base : Heap) : Prop := ∃ fd, FnOk P w K mg base CX0 4 (He.ma K (CA K) "__init__") fd ["self", "straight"] (spAI K) ∧ Binds K fd ["self", "straight"] []
theorem scAtLeast__init__ : FnScope ["self", "straight", "told", "common"] ["self", "straight"] (defScope iAtLeast__init__) := ⟨rfl, rfl, rfl, by decide +kernel, rfl, by decide +kernel, by decide +kernel⟩
theorem mk_A {fd : FuncData} (T : AtTx K mg) (M : MkS P w K mg base) (dLike : Dn P w K mg base 3 "straight_like" ["value"] (spLike K)) (F : FnM K "AtLeast" "__init__" "AtLeast.__init__" iAtLeast__init__ fd) : MkA P w K mg base := by
  refine ⟨fd, ?_, F.bindsN fun _ _ _ _ _ _ us hl => match us, hl with | [_, _], _ => rfl⟩
  refine F.ok scAtLeast__init__ (fun vs H Q E h => ?_) (fun cdv A outer s H vs Q E hr h => ?_)
  · obtain ⟨p, dx, v, a, b, c, rfl, _⟩ := h
    rfl
  · obtain ⟨p, dx, v, a, b, c, rfl, hp, hv, hg, k⟩ := h
    refine ⟨_, PSs.nox (pss_cons (ps_set (i := 2) scAtLeast__init__.nd rfl (Or.inl rfl) (pe_dn dLike hr (pa_cons (pv 1) pa_nil)))
      (pss_cons (ps_set (i := 3) scAtLeast__init__.nd rfl (Or.inl rfl) (pe_callBfun cr_gcd (by rfl) T.gcd (pa_cons (pe_fld (pv 2) rfl) (pa_cons (pe_fld (pv 2) rfl) pa_nil))))
      (pss_one (ps_if (pt_cmpR op_eq (pv 3) pe_int (nomark _)) (pss_one (ps_fld (pv 0) (pe_S T.toStTx M hr (pa_cons pe_int (pa_cons pe_int (pa_cons (pe_ifExp (pt_cmpR op_ge (pe_fld (pv 2) rfl) pe_int (nomark _)) pe_int (pe_un un_neg pe_int)) pa_nil)))) rfl)) (pss_one (ps_fld (pv 0) (pe_S T.toStTx M hr (pa_cons (pe_op op_fdivN (pe_fld (pv 2) rfl) (pv 3)) (pa_cons (pe_op op_fdivN (pe_fld (pv 2) rfl) (pv 3)) (pa_cons (pe_op op_fdivN (pe_fld (pv 2) rfl) (pv 3)) pa_nil)))) rfl)))))), ?_⟩
    refine ⟨_, rfl, v, a, b, c, rfl, hv, fun q H1 s1 hq => ?_⟩
    obtain ⟨dq, hq⟩ := hq
    refine ⟨_, rfl, q, _, dq, _, _, rfl, hq, T.clS, T.nI, sf_i _ _ _, _, rfl, q, _, dq, _, _, rfl, hq, T.clS, T.nN, sf_n _ _ _, _, _, rfl, ?_⟩
    have go : ∀ (x y z : Int), x = a.fdiv (g2 a b) → y = b.fdiv (g2 a b) → z = lf3 a b c → ∀ (r : Addr) (H2 : Hp), Same H1 H2 → H1 r = none → StrAt K H2 r x y z → Q .non (upd H2 p (.ins (CA K) dx (af r))) := by
      intro x y z ex ey ez r H2 s2 hr1 hr2
      subst ex ey ez
      have hp2 : H2 p = some (.ins (CA K) dx []) := s2 _ _ (s1 _ _ hp)
      have npr : r ≠ p := fun z => by
        rw [z, s1 _ _ hp] at hr1
        cases hr1
      obtain ⟨dr, hr3⟩ := hr2
      refine k r _ upd_same ⟨dr, by rw [upd_ne npr]; exact hr3⟩ (fun b o nb e => ?_)
      rw [upd_ne nb]
      exact s2 _ _ (s1 _ _ e)
    refine ⟨_, rfl, rfl, _, rfl, ite2 (fun h0 => ?_) (fun h0 => ?_)⟩
    · have z0 : g2 a b = 0 := by
        have z : ((g2 a b : Nat) : Int) = 0 := V.int.inj (of_decide_eq_true h0)
        omega
      obtain ⟨rfl, rfl⟩ := g2_zero z0
      refine ⟨_, rfl, q, _, dq, _, _, rfl, hq, T.clS, T.nO, sf_one _ _ _, _, _, rfl, rfl, ?_⟩
      refine ⟨_, rfl, ite2 (fun hc => ?_) (fun hc => ?_)⟩
      · have hc1 : 0 ≤ c := of_decide_eq_true hc
        refine ⟨0, 0, 0, rfl, fun r H2 s2 hr1 hr2 => ?_⟩
        refine ⟨_, rfl, p, _, dx, _, rfl, s2 _ _ (s1 _ _ hp), T.clA, T.nAS, (by show 0 < 1000; decide), ?_⟩
        exact go 0 0 0 (by rw [Int.zero_fdiv]) (by rw [Int.zero_fdiv]) (by unfold lf3; rw [if_pos z0, if_pos hc1]) r H2 s2 hr1 hr2
      · have hc1 : ¬ 0 ≤ c := fun z => hc (decide_eq_true z)
        refine ⟨_, rfl, 0, 0, -1, rfl, fun r H2 s2 hr1 hr2 => ?_⟩
        refine ⟨_, rfl, p, _, dx, _, rfl, s2 _ _ (s1 _ _ hp), T.clA, T.nAS, (by show 0 < 1000; decide), ?_⟩
        exact go 0 0 (-1) (by rw [Int.zero_fdiv]) (by rw [Int.zero_fdiv]) (by unfold lf3; rw [if_pos z0, if_neg hc1]) r H2 s2 hr1 hr2
    · have z0 : ¬ g2 a b = 0 := fun z => h0 (decide_eq_true (by
        show V.int ((g2 a b : Nat) : Int) = V.int 0
        rw [z]
        rfl))
      have hgc : ((g2 a b : Nat) : Int) ≠ 0 ∧ ((g2 a b : Nat) : Int).natAbs < 1073741824 := ⟨by omega, by omega⟩
      refine ⟨_, rfl, q, _, dq, _, _, rfl, hq, T.clS, T.nI, sf_i _ _ _, _, rfl, _, _, rfl, rfl, hgc, ?_⟩
      refine ⟨_, rfl, q, _, dq, _, _, rfl, hq, T.clS, T.nN, sf_n _ _ _, _, rfl, _, _, rfl, rfl, hgc, ?_⟩
      refine ⟨_, rfl, q, _, dq, _, _, rfl, hq, T.clS, T.nO, sf_one _ _ _, _, rfl, _, _, rfl, rfl, hgc, ?_⟩
      refine ⟨_, _, _, rfl, fun r H2 s2 hr1 hr2 => ?_⟩
      refine ⟨_, rfl, p, _, dx, _, rfl, s2 _ _ (s1 _ _ hp), T.clA, T.nAS, (by show 0 < 1000; decide), ?_⟩
      exact go _ _ _ rfl rfl (by unfold lf3; rw [if_neg z0]; rfl) r H2 s2 hr1 hr2
theorem pe_A {X : Cx} {e : Expr} {es : List Expr} {t : TA} {p pos : Pos} {k : Nat} (T : AtTx X.K X.mg) (M : MkA X.prog X.w X.K X.mg X.base) (hr : Room k X.A) (ha : PA X (e :: es) t) (hk : 5 ≤ k := by decide) (hg : Gl X "AtLeast" := by rfl)
    (he : starEach (e :: es) X.env = (false, eval e X.env) :: starEach es X.env := by rfl) (hpl : (backTo pos (starEach es X.env)).any (·.1) = false := by rfl) :
    PE X (.Call (.Name "AtLeast" p) (e :: es) [] pos) (fun σ H Q => t σ H fun vs H1 => ∃ v a b c, vs = [v] ∧ SumV X.K H1 v a b c ∧ g2 a b < 1073741824 ∧ NewA X.K H1 (a.fdiv (g2 a b)) (b.fdiv (g2 a b)) (lf3 a b c) Q) := by
  obtain ⟨fd, F, hb⟩ := M
  refine ⟨fun pins s σ H Q I h => ?_⟩
  refine wpAny_Call_Name_kw (ld_glob I hg T.gA ?_ (by decide))
  refine PySem.W.callWith_K (h₀ := X.base) I.ok.mod.kin T.mkA.kp (thn (ha.run pos pins s σ H _ I h) fun us s1 ⟨vs, H1, I1, r, v, a, b, c, ev, hv, hg2, q⟩ => ⟨I1.kIn, ?_⟩) he hpl
  subst ev
  refine run_make T.mkA F (hr.mono hk) hb .nil pass0 I1 r fun x dx nx nd ne => ?_
  have s0 : Same H1 (upd (upd H1 dx (.own x)) x (.ins (CA X.K) dx [])) := Same.new _ (Same.new _ (Same.refl H1) nd) (by rw [upd_ne (Ne.symm ne)]; exact nx)
  exact ⟨x, dx, v, a, b, c, rfl, upd_same, hv.same s0, hg2, fun q' H' hp hq kp => ⟨rfl, q x H' (Same.made (Same.refl H1) nx nd kp) ⟨dx, q', hp, hq⟩⟩⟩
theorem pe_AK {X : Cx} {K : PySem.W.Frag} {e : Expr} {es : List Expr} {t : TA} {p pos : Pos} {k : Nat} (hK : X.K = K) (T : AtTx K X.mg) (M : MkA X.prog X.w K X.mg X.base) (hr : Room k X.A) (ha : PA X (e :: es) t) (hk : 5 ≤ k := by decide) (hg : Gl X "AtLeast" := by rfl)
    (he : starEach (e :: es) X.env = (false, eval e X.env) :: starEach es X.env := by rfl) (hpl : (backTo pos (starEach es X.env)).any (·.1) = false := by rfl) :
    PE X (.Call (.Name "AtLeast" p) (e :: es) [] pos) (fun σ H Q => t σ H fun vs H1 => ∃ v a b c, vs = [v] ∧ SumV K H1 v a b c ∧ g2 a b < 1073741824 ∧ NewA K H1 (a.fdiv (g2 a b)) (b.fdiv (g2 a b)) (lf3 a b c) Q) := by
  subst hK
  exact pe_A T M hr ha hk hg he hpl
end
section
variable {P : Program} {w : World} {K : PySem.W.Frag} {mg : Str → Option Value} {base : Heap}
/-- what may be called as Rest(v, m, r) -/
def MkR (P : Program) (w : World) (K : PySem.W.Frag) (mg : Str → Option Value) (base : Heap) : Prop := ∃ fd, FnOk P w K mg base (L2.CX P w) 4 (He.ma K (CR K) "__init__") fd ["self", "straight", "modulus", "rest"] (spRI K) ∧ Binds K fd ["self", "straight", "modulus", "rest"] []
theorem scRest__init__ : FnScope ["self", "straight", "modulus", "rest", "told"] ["self", "straight", "modulus", "rest"] (defScope iRest__init__) := ⟨rfl, rfl, rfl, by decide +kernel, rfl, by decide +kernel, by decide +kernel⟩
theorem mk_R {fd : FuncData} (T : AtTx K mg) (M : MkS P w K mg base) (MB : Mx P w K mg base "BadNumber" ["self", "what", "number"] ["what", "number"]) (dLike : Dn P w K mg base 3 "straight_like" ["value"] (spLike K)) (dIsIntFrom : Dn P w K mg base 2 "is_integer_from" ["value", "low", "high"] spIntFrom)
    (F : FnM K "Rest" "__init__" "Rest.__init__" iRest__init__ fd) : MkR P w K mg base := by
  refine ⟨fd, ?_, F.bindsN fun _ _ _ _ _ _ us hl => match us, hl with | [_, _, _, _], _ => rfl⟩
  refine F.ok scRest__init__ (fun vs H Q E h => ?_) (fun cdv A outer s H vs Q E hr h => ?_)
  · obtain ⟨p, dx, v, m, r, rfl, _⟩ := h
    rfl
  · obtain ⟨p, dx, v, m, r, rfl, hp, a, b, c, hv, b1, b2, k⟩ := h
    obtain ⟨tTOP_MODULUS, hTOP_MODULUS⟩ := T.topM
    refine ⟨_, (pss_cons (ps_if (pt_not (pt_val (pe_dn dIsIntFrom hr (pa_cons (pv 2) (pa_cons pe_int (pa_cons (pe_glob (v := .int 4) rfl hTOP_MODULUS ⟨tTOP_MODULUS, rfl⟩) pa_nil)))))) (pss_one (ps_raise rfl (takes_of rfl rfl rfl rfl) (pmk_err MB hr (pa_cons pe_str (pa_cons (pv 2) pa_nil))))) pss_nil)
      (pss_cons (ps_if (pt_not (pt_val (pe_dn dIsIntFrom hr (pa_cons (pv 3) (pa_cons pe_int (pa_cons (pe_op op_sub (pv 2) pe_int) pa_nil)))))) (pss_one (ps_raise rfl (takes_of rfl rfl rfl rfl) (pmk_err MB hr (pa_cons pe_str (pa_cons (pv 3) pa_nil))))) pss_nil)
      (pss_cons (ps_set (i := 4) scRest__init__.nd rfl (Or.inl rfl) (pe_dn dLike hr (pa_cons (pv 1) pa_nil)))
      (pss_cons (ps_fld (pv 0) (pe_S T.toStTx M hr (pa_cons (pe_op op_modN (pe_fld (pv 4) rfl) (pv 2)) (pa_cons (pe_op op_modN (pe_fld (pv 4) rfl) (pv 2)) (pa_cons pe_int pa_nil)))) rfl)
      (pss_cons (ps_fld (pv 0) (pv 2) rfl)
      (pss_one (ps_fld (pv 0) (pe_op op_modN (pe_op op_sub (pv 3) (pe_fld (pv 4) rfl)) (pv 2)) rfl))))))), ?_⟩
    refine ⟨_, rfl, m, 2, 4, rfl, ?_⟩
    by_cases hm : 2 ≤ m ∧ m ≤ 4
    · rw [decide_eq_true hm]
      refine ⟨_, rfl, iteF ?_⟩
      refine ⟨_, rfl, _, rfl, _, _, rfl, rfl, r, 0, m - 1, rfl, ?_⟩
      by_cases hq : 0 ≤ r ∧ r ≤ m - 1
      · rw [decide_eq_true hq]
        refine ⟨_, rfl, iteF ?_⟩
        have k := k hm.1 hm.2 hq.1 hq.2
        have m0 : m ≠ 0 := by omega
        refine ⟨_, rfl, v, a, b, c, rfl, hv, fun q H1 s1 hq => ?_⟩
        obtain ⟨dq, hq⟩ := hq
        refine ⟨_, rfl, q, _, dq, _, _, rfl, hq, T.clS, T.nI, sf_i _ _ _, _, rfl, _, _, rfl, rfl, m0, ?_⟩
        refine ⟨_, rfl, q, _, dq, _, _, rfl, hq, T.clS, T.nN, sf_n _ _ _, _, rfl, _, _, rfl, rfl, m0, ?_⟩
        refine ⟨_, _, _, rfl, fun u H2 s2 hu1 hu2 => ?_⟩
        have hp2 : H2 p = some (.ins (CR K) dx []) := s2 _ _ (s1 _ _ hp)
        have nqp : q ≠ p := fun z => by
          rw [z, s1 _ _ hp] at hq
          have e : ([] : List (Str × V)) = sf a b c := congrArg (fun o : Option HO => match o with | some (.ins _ _ fs) => fs | _ => []) hq
          have l := sf_i a b c
          rw [← e] at l
          cases l
        have nup : u ≠ p := fun z => by
          rw [z, s1 _ _ hp] at hu1
          cases hu1
        refine ⟨_, rfl, p, _, dx, _, rfl, hp2, T.clQ, T.nRS, (by show 0 < 1000; decide), ?_⟩
        refine ⟨_, rfl, _, rfl, p, _, dx, _, rfl, upd_same, T.clQ, T.nRM, len1 _ _, ?_⟩
        refine ⟨_, rfl, _, rfl, q, _, dq, _, _, rfl, by rw [upd_ne nqp, upd_ne nqp]; exact s2 _ _ hq, T.clS, T.nO, sf_one _ _ _, _, _, rfl, rfl, _, rfl, _, _, rfl, rfl, m0, ?_⟩
        refine ⟨_, rfl, p, _, dx, _, rfl, upd_same, T.clQ, T.nRR, len2 _ _ _ _, ?_⟩
        obtain ⟨du, hu3⟩ := hu2
        refine k u _ upd_same ⟨du, by rw [upd_ne nup, upd_ne nup, upd_ne nup]; exact hu3⟩ (fun b o nb e => ?_)
        rw [upd_ne nb, upd_ne nb, upd_ne nb]
        exact s2 _ _ (s1 _ _ e)
      · rw [decide_eq_false hq]
        refine ⟨_, rfl, iteT ?_⟩
        exact ⟨_, rfl, err_go (K := K) (x := "BadNumber") (fs := ["what", "number"]) (by show 2 ≤ 1000; decide) rfl fun e H' s he => b2 hm.1 hm.2 hq e H' s he⟩
    · rw [decide_eq_false hm]
      refine ⟨_, rfl, iteT ?_⟩
      exact ⟨_, rfl, err_go (K := K) (x := "BadNumber") (fs := ["what", "number"]) (by show 2 ≤ 1000; decide) rfl fun e H' s he => b1 hm e H' s he⟩
theorem pe_R {X : Cx} {e : Expr} {es : List Expr} {t : TA} {p pos : Pos} {k : Nat} {E : L2.St → XK} (T : AtTx X.K X.mg) (M : MkR X.prog X.w X.K X.mg X.base) (hr : Room k X.A) (hx : ∀ σ, PassesAt (L2.CX X.prog X.w) X σ (E σ)) (ha : PA X (e :: es) t) (hk : 5 ≤ k := by decide) (hg : Gl X "Rest" := by rfl)
    (he : starEach (e :: es) X.env = (false, eval e X.env) :: starEach es X.env := by rfl) (hpl : (backTo pos (starEach es X.env)).any (·.1) = false := by rfl) :
    PE X (.Call (.Name "Rest" p) (e :: es) [] pos) (fun σ H Q => t σ H fun vs H1 => ∃ v m r, vs = [v, .int m, .int r] ∧ rRst X.K v m r H1 (fun a b c => NewR X.K H1 (a.fmod m) (b.fmod m) m ((r - c).fmod m) Q) (E σ)) := by
  obtain ⟨fd, F, hb⟩ := M
  refine ⟨fun pins s σ H Q I h => ?_⟩
  refine wpAny_Call_Name_kw (ld_glob I hg T.gR ?_ (by decide))
  refine PySem.W.callWith_K (h₀ := X.base) I.ok.mod.kin T.mkR.kp (thn (ha.run pos pins s σ H _ I h) fun us s1 ⟨vs, H1, I1, rr, v, m, r, ev, a, b, c, hv, b1, b2, q⟩ => ⟨I1.kIn, ?_⟩) he hpl
  subst ev
  refine make_at T.mkR F (hr.mono hk) hb (hx σ) I1 rr fun x dx nx nd ne => ?_
  have s0 : Same H1 (upd (upd H1 dx (.own x)) x (.ins (CR X.K) dx [])) := Same.new _ (Same.new _ (Same.refl H1) nd) (by rw [upd_ne (Ne.symm ne)]; exact nx)
  exact ⟨x, dx, v, m, r, rfl, upd_same, a, b, c, hv.same s0, fun z e H' s he => b1 z e H' (s0.trans s) he, fun z1 z2 z e H' s he => b2 z1 z2 z e H' (s0.trans s) he, fun z1 z2 z3 z4 q' H' hp hq kp => ⟨rfl, q z1 z2 z3 z4 x H' (Same.made (Same.refl H1) nx nd kp) ⟨dx, q', hp, hq⟩⟩⟩
end
end K49
set_option maxHeartbeats 4000000
namespace K49
open PySem PySem.Spec PyProof.Rows L2 Z
abbrev CRd (K : PySem.W.Frag) : Addr := He.ga K "Read"
abbrev CSt (K : PySem.W.Frag) : Addr := He.ga K "Statement"
abbrev CL (K : PySem.W.Frag) : Addr := He.ga K "Loop"
abbrev CPr (K : PySem.W.Frag) : Addr := He.ga K "Program"
structure PrTx (K : PySem.W.Frag) (mg : Str → Option Value) : Prop extends AtTx K mg where
  plc : PlTx K mg
  clR : Cls K (CRd K)
  nRA : NoAttr K (CRd K) "array"
  nRP : NoAttr K (CRd K) "place"
  nRF : NoAttr K (CRd K) "factor"
  clM : Cls K (CSt K)
  nMA : NoAttr K (CSt K) "array"
  nMC : NoAttr K (CSt K) "cell"
  nMK : NoAttr K (CSt K) "constant"
  nMR : NoAttr K (CSt K) "reads"
  nMG : NoAttr K (CSt K) "conditions"
  clL : Cls K (CL K)
  nLo : NoAttr K (CL K) "low"
  nHi : NoAttr K (CL K) "high"
  nSt : NoAttr K (CL K) "statements"
  nSp : NoAttr K (CL K) "step"
  nDn : NoAttr K (CL K) "down"
  clP : Cls K (CPr K)
  nPL : NoAttr K (CPr K) "loops"
  nPA : NoAttr K (CPr K) "arrays"
  nPK : NoAttr K (CPr K) "known"
  con : ∀ q ∈ ([("TOP_PART", 12), ("TOP_ONE", 999), ("TOP_RANGE_PART", 3), ("TOP_DIVISOR", 3), ("TOP_STEP", 16), ("MOST_LOOPS", 6), ("MOST_STATEMENTS", 16), ("MOST_READS", 3), ("MOST_CONDITIONS", 3)] : List (Str × Int)), ∃ t, mg q.1 = some (.int q.2 t)
  gKW : mg "KEPT_WORDS" = some (.ref (He.ga K "KEPT_WORDS"))
  tKW : ∀ H : Hp, SqT K H (He.ga K "KEPT_WORDS") (kept.map V.str)
  gLe : ∃ t, mg "LETTERS" = some (.str lets t)
  len : mg "len" = none
  tuple : mg "tuple" = none
  all : mg "all" = none
  str : mg "str" = none
  set : mg "set" = none
  sorted : mg "sorted" = none
def spCkN (K : PySem.W.Frag) : Sp := fun vs H Q E => ∃ (w : Str) (v lo hi : Int), vs = [.str w, .int v, .int lo, .int hi] ∧ Out (ckN w v lo hi) (Rz K H E) (Q .non H)
def spCkM (K : PySem.W.Frag) : Sp := fun vs H Q E => ∃ (w : Str) (l : Addr) (m : Int) (xs : List V), vs = [.str w, .ref l, .int m] ∧ SqA K H l xs ∧ Out (ckM w xs.length m) (Rz K H E) (Q .non H)
def spIsName : Sp := fun vs H Q _ => ∃ x : Str, vs = [.str x] ∧ x.length ≤ 1000 ∧ ∀ H', Same H H' → Q (.bl (isName x)) H'
def spCkA (K : PySem.W.Frag) : Sp := fun vs H Q E => ∃ x : Str, vs = [.str x] ∧ x.length ≤ 1000 ∧ Out (ckA x) (Rz K H E) (∀ H', Same H H' → Q .non H')
def spCkS (K : PySem.W.Frag) : Sp := fun vs H Q E => ∃ (q : Addr) (a b c : Int), vs = [.ref q] ∧ StrAt K H q a b c ∧ Out (ckS a b c) (Rz K H E) (Q .non H)
def spCkP (K : PySem.W.Frag) : Sp := fun vs H Q E => ∃ (q : Addr) (a b c d : Int), vs = [.ref q] ∧ PlcAt K H q a b c d ∧ Out (ckP a b c d) (Rz K H E) (Q .non H)
def spCkR (K : PySem.W.Frag) : Sp := fun vs H Q E => ∃ (q : Addr) (a b c d : Int), vs = [.ref q] ∧ PlcAt K H q a b c d ∧ Out (ckR a b c d) (Rz K H E) (Q .non H)
/-- a place, or a sum or an int in its place -/
def PlV (K : PySem.W.Frag) (H : Hp) (v : V) (a b c d : Int) : Prop := (∃ q, v = .ref q ∧ PlcAt K H q a b c d) ∨ (SumV K H v a b c ∧ d = 1)
theorem PlV.same {K : PySem.W.Frag} {H H' : Hp} {v : V} {a b c d : Int} (h : PlV K H v a b c d) (s : Same H H') : PlV K H' v a b c d := by
  rcases h with ⟨q, e, h⟩ | ⟨h, e⟩
  · exact .inl ⟨q, e, h.same s⟩
  · exact .inr ⟨h.same s, e⟩
def spPLike (K : PySem.W.Frag) : Sp := fun vs H Q _ => ∃ (v : V) (a b c d : Int), vs = [v] ∧ PlV K H v a b c d ∧ ∀ q H', Same H H' → PlcAt K H' q a b c d → Q (.ref q) H'
section
variable {P : Program} {w : World} {K : PySem.W.Frag} {mg : Str → Option Value} {base : Heap}
theorem sc_check_number : FnScope ["what", "number", "low", "high"] ["what", "number", "low", "high"] (defScope s_check_number) := ⟨rfl, rfl, rfl, by decide +kernel, rfl, by decide +kernel, by decide +kernel⟩
theorem ok_ckN {f : Addr} {fd : FuncData} (F : FnP K "check_number" s_check_number f fd) (MB : Mx P w K mg base "BadNumber" ["self", "what", "number"] ["what", "number"]) : FnOk P w K mg base (L2.CX P w) 3 f fd ["what", "number", "low", "high"] (spCkN K) := by
  refine F.ok sc_check_number (fun vs H Q E h => ?_) (fun cdv A outer s H vs Q E hr h => ?_)
  · obtain ⟨w, v, lo, hi, rfl, _⟩ := h
    rfl
  · obtain ⟨w, v, lo, hi, rfl, k⟩ := h
    refine ⟨_, (pss_one (ps_if (pt_not (pt_chain op_le op_le (pv 2) (pv 1) (pv 3))) (pss_one (ps_raise rfl (takes_of rfl rfl rfl rfl) (pmk_err MB hr (pa_cons (pv 0) (pa_cons (pv 1) pa_nil))))) pss_nil)), ?_⟩
    have bad : ¬ (lo ≤ v ∧ v ≤ hi) → Rz K H E (.num w v) := fun z => k.1 _ (if_neg z)
    have rs : ∀ z : ¬ (lo ≤ v ∧ v ≤ hi), _ := fun z => err_go (K := K) (x := "BadNumber") (fs := ["what", "number"]) (vs := [.str w, .int v]) (H1 := H) (Q := E) (by show 2 ≤ 1000; decide) rfl fun d H' s hd => bad z d H' s hd
    refine ⟨_, rfl, _, rfl, _, _, rfl, rfl, _, rfl, ?_⟩
    by_cases h1 : lo ≤ v
    · rw [decide_eq_true h1]
      refine iteT ⟨_, rfl, _, _, rfl, rfl, _, rfl, ?_⟩
      by_cases h2 : v ≤ hi
      · rw [decide_eq_true h2]
        exact iteF (k.2 (if_pos ⟨h1, h2⟩))
      · rw [decide_eq_false h2]
        exact iteT ⟨_, rfl, _, rfl, rs fun z => h2 z.2⟩
    · rw [decide_eq_false h1]
      exact iteF ⟨_, rfl, iteT ⟨_, rfl, _, rfl, rs fun z => h1 z.1⟩⟩
end
end K49
set_option maxHeartbeats 4000000
namespace K49
open PySem PySem.Spec PyProof.Rows L2 Z
theorem if_no {b : Bool} {A B : Prop} (h : b = false) (k : B) : if b = true then A else B := by
  rw [h]
  exact k
theorem if_yes {b : Bool} {A B : Prop} (h : b = true) (k : A) : if b = true then A else B := by
  rw [h]
  exact k
theorem inv_strs (x : Str) (ys : List Str) : inV (.str x) (ys.map V.str) = decide (x ∈ ys) := by
  unfold inV
  induction ys with
  | nil => simp
  | cons y ys ih =>
    rw [List.map_cons, List.any_cons, ih]
    by_cases h : y = x
    · subst h
      simp [eqV]
    · have h2 : ¬ x = y := fun z => h z.symm
      simp [eqV, h, h2]
theorem flat_strs (ys : List Str) : (ys.map V.str).all flatV = true := by
  induction ys with
  | nil => rfl
  | cons y ys ih => simp [flatV] at ih ⊢
theorem kss {K : PySem.W.Frag} : PySem.W.kitOne K (.type "str") (.type "str") = some true := kit_ty (by decide +kernel)
theorem sz1000 : 1000 ≤ sizeLine := by show 1000 ≤ sizeLine; decide
theorem yes_of {σ : L2.St} {H : Hp} {A B : Hp → Prop} (h : A H) : tYes σ H (fun b H3 => if b = true then A H3 else B H3) := by
  show if true = true then A H else B H
  rw [if_pos rfl]
  exact h
theorem all_take (p : Nat → Bool) (l : List Nat) : (l.map p).all id = l.all p := by
  induction l with
  | nil => rfl
  | cons x l ih => simp [ih]
theorem RzK.of {K : PySem.W.Frag} {H H1 : Hp} {E : XK} {e : Er} {p : Addr} (h : RzK K p H E e) (k : Keep p H H1) : Rz K H1 E e := h.rz k
section
variable {P : Program} {w : World} {K : PySem.W.Frag} {mg : Str → Option Value} {base : Heap}
theorem sc_check_many : FnScope ["what", "things", "most"] ["what", "things", "most"] (defScope s_check_many) := ⟨rfl, rfl, rfl, by decide +kernel, rfl, by decide +kernel, by decide +kernel⟩
theorem ok_ckM {f : Addr} {fd : FuncData} (F : FnP K "check_many" s_check_many f fd) (T : PrTx K mg) (MT : Mx P w K mg base "TooMany" ["self", "what", "many", "limit"] ["what", "many", "limit"]) : FnOk P w K mg base (L2.CX P w) 3 f fd ["what", "things", "most"] (spCkM K) := by
  refine F.ok sc_check_many (fun vs H Q E h => ?_) (fun cdv A outer s H vs Q E hr h => ?_)
  · obtain ⟨w, l, m, xs, rfl, _⟩ := h
    rfl
  · obtain ⟨w, l, m, xs, rfl, hs, k⟩ := h
    refine ⟨_, (pss_one (ps_if (pt_cmpR op_gt (pe_callB call_len_seq (by rfl) T.len PySem.boot_len (pa_cons (pv 1) pa_nil)) (pv 2) (nomark _)) (pss_one (ps_raise rfl (takes_of rfl rfl rfl rfl) (pmk_err MT hr (pa_cons (pv 0) (pa_cons (pe_callB call_len_seq (by rfl) T.len PySem.boot_len (pa_cons (pv 1) pa_nil)) (pa_cons (pv 2) pa_nil)))))) pss_nil)), ?_⟩
    refine ⟨_, rfl, l, xs, rfl, hs, _, rfl, _, _, rfl, rfl, _, rfl, ?_⟩
    by_cases h1 : (xs.length : Int) ≤ m
    · rw [decide_eq_false (by omega)]
      exact iteF (k.2 (if_pos h1))
    · rw [decide_eq_true (by omega)]
      have bad := k.1 _ (if_neg h1)
      exact iteT ⟨_, rfl, _, rfl, l, xs, rfl, hs, _, rfl, err_go (K := K) (x := "TooMany") (fs := ["what", "many", "limit"]) (by show 3 ≤ 1000; decide) rfl fun d H' s hd => bad d H' s hd⟩
theorem sc_is_array_name : FnScope ["value", "letter"] ["value"] (defScope s_is_array_name) := ⟨rfl, rfl, rfl, by decide +kernel, rfl, by decide +kernel, by decide +kernel⟩
theorem ok_isName {f : Addr} {fd : FuncData} (F : FnP K "is_array_name" s_is_array_name f fd) (T : PrTx K mg) : FnOk P w K mg base CX0 1 f fd ["value"] spIsName := by
  refine F.ok sc_is_array_name (fun vs H Q E h => ?_) (fun cdv A outer s H vs Q E hr h => ?_)
  · obtain ⟨x, rfl, _⟩ := h
    rfl
  · obtain ⟨x, rfl, hx, k⟩ := h
    obtain ⟨tLe, hLe⟩ := T.gLe
    refine ⟨_, PSs.nox (pss_cons (ps_if (PW.pt (pw_or (pt_not (pt_val (pe_callB call_isi (by rfl) T.isi (by decide +kernel) (pa_cons (pv 0) (pa_cons (pe_bltn (v := .ty "str") (by rfl) T.str (by decide +kernel) rfl) pa_nil))))) (pw_or1 (pt_not (pt_chain op_le op_le pe_int (pe_callB call_len_str (by rfl) T.len PySem.boot_len (pa_cons (pv 0) pa_nil)) pe_int))))) (pss_one (ps_ret pe_bl)) pss_nil)
      (pss_one (ps_ret (pe_and (pe_callB (cr_all rfl) (by rfl) T.all (by decide +kernel) (pa_cons (pe_lc (own := [("letter", 1)]) (g := gName 1) (tt := tYes) rfl sc_is_array_name.nd (pi_str (pv 0)) (blkOk_by (N := ["value", "letter"]) (sc := defScope s_is_array_name) (by decide +kernel)) (fun _ _ _ _ _ => (pg_name (i := 1) sc_is_array_name.nd rfl (.inl rfl))) (fun _ _ _ _ _ => pts_nil) (fun _ _ _ _ _ => (pe_cmpR op_in_sign (pv 1) (pe_glob (v := .str lets) rfl hLe ⟨tLe, rfl⟩) rfl))) pa_nil)) (pe_one (pe_cmpR op_notIn_seq (pv 0) (pe_glob (v := .ref (He.ga K "KEPT_WORDS")) rfl T.gKW rfl) (by with_unfolding_all rfl))))))), ?_⟩
    have hz : x.length ≤ sizeLine := Nat.le_trans hx sz1000
    refine ⟨_, rfl, _, _, _, _, _, rfl, .ty _, .base (.str x), kss, _, rfl, ?_⟩
    refine if_no rfl ?_
    refine ⟨_, rfl, _, rfl, hz, _, _, rfl, rfl, _, rfl, ?_⟩
    have no : ¬ (1 ≤ x.length ∧ x.length ≤ 8) → Q (.bl false) H := fun z => by
      have q := k H (Same.refl H)
      unfold isName at q
      rw [decide_eq_false z] at q
      exact q
    by_cases h1 : (1 : Int) ≤ (x.length : Int)
    · rw [decide_eq_true h1]
      refine iteT ⟨_, _, rfl, rfl, _, rfl, ?_⟩
      by_cases h2 : (x.length : Int) ≤ 8
      · rw [decide_eq_true h2]
        refine if_no rfl ?_
        refine ⟨_, rfl, x, rfl, fun D hD => ?_⟩
        refine lc_str (fun i Hc => Hc D = some (.lst ((((x.cps.toList.take i).map fun c => decide (c ∈ lets.cps.toList))).map V.bl)) ∧ ∀ b o, H b = some o → Hc b = some o) ⟨upd_same, Same.new _ (Same.refl H) hD⟩ ?_ ?_
        · rintro i c Hc hc ⟨hc1, hc2⟩
          refine ⟨rfl, yes_of ?_⟩
          refine ⟨_, rfl, c, lets, rfl, rfl, ?_⟩
          have hi : i < x.cps.toList.length := by
            rw [Array.length_toList]
            exact (Array.getElem?_eq_some_iff.mp hc).1
          have ci : x.cps.toList[i]? = some c := by
            rw [Array.getElem?_toList]
            exact hc
          refine ⟨_, hc1, ?_, ?_, fun b o e => ?_⟩
          · rw [List.length_map, List.length_map, List.length_take]
            have : x.cps.toList.length = x.length := Array.length_toList
            have := sz1000
            omega
          · rw [upd_same, List.take_add_one, ci]
            simp
          · rw [upd_ne (ne_of_none e hD)]
            exact hc2 b o e
        · rintro Hc ⟨hc1, hc2⟩
          rw [show x.cps.size = x.cps.toList.length from Array.length_toList.symm, List.take_length] at hc1
          refine ⟨D, _, rfl, SqL.of hc1, ?_⟩
          have e1 : (x.cps.toList.map fun c => decide (c ∈ lets.cps.toList)).all id = x.cps.toList.all fun c => decide (c ∈ lets.cps.toList) := all_take _ _
          rw [e1]
          have q := k Hc hc2
          unfold isName at q
          rw [decide_eq_true (show 1 ≤ x.length ∧ x.length ≤ 8 by omega), Bool.true_and] at q
          cases ha : x.cps.toList.all fun c => decide (c ∈ lets.cps.toList) with
          | false =>
            rw [ha] at q
            exact ⟨_, rfl, if_no rfl q⟩
          | true =>
            rw [ha, Bool.true_and] at q
            refine ⟨_, rfl, if_yes rfl ?_⟩
            refine ⟨_, rfl, _, _, rfl, .inr (T.tKW Hc), rfl, flat_strs kept, ?_⟩
            rw [inv_strs]
            show Q (.bl (!decide (x ∈ kept))) Hc
            rw [← decide_not]
            exact q
      · rw [decide_eq_false h2]
        exact if_yes rfl (no (by omega))
    · rw [decide_eq_false h1]
      exact iteF ⟨_, rfl, if_yes rfl (no (by omega))⟩
theorem sc_check_name : FnScope ["array"] ["array"] (defScope s_check_name) := ⟨rfl, rfl, rfl, by decide +kernel, rfl, by decide +kernel, by decide +kernel⟩
theorem ok_ckA {f : Addr} {fd : FuncData} (F : FnP K "check_name" s_check_name f fd) (MN : Mx P w K mg base "BadName" ["self", "name"] ["name"]) (dIsName : Dn P w K mg base 1 "is_array_name" ["value"] spIsName) : FnOk P w K mg base (L2.CX P w) 3 f fd ["array"] (spCkA K) := by
  refine F.ok sc_check_name (fun vs H Q E h => ?_) (fun cdv A outer s H vs Q E hr h => ?_)
  · obtain ⟨x, rfl, _⟩ := h
    rfl
  · obtain ⟨x, rfl, hx, k⟩ := h
    refine ⟨_, (pss_one (ps_if (pt_not (pt_val (pe_dn dIsName hr (pa_cons (pv 0) pa_nil)))) (pss_one (ps_raise rfl (takes_of rfl rfl rfl rfl) (pmk_err MN hr (pa_cons (pv 0) pa_nil)))) pss_nil)), ?_⟩
    refine ⟨_, rfl, x, rfl, hx, fun H1 s1 => ⟨_, rfl, ?_⟩⟩
    cases e : isName x with
    | true => exact if_no rfl (k.2 (if_pos e) H1 s1)
    | false =>
      have bad := (k.1 (.name x) (if_neg (by rw [e]; simp))).same s1
      exact if_yes rfl ⟨_, rfl, err_go (K := K) (x := "BadName") (fs := ["name"]) (by show 1 ≤ 1000; decide) rfl fun d H' s hd => bad d H' s hd⟩
theorem sc_check_sum : FnScope ["straight"] ["straight"] (defScope s_check_sum) := ⟨rfl, rfl, rfl, by decide +kernel, rfl, by decide +kernel, by decide +kernel⟩
theorem ok_ckS {f : Addr} {fd : FuncData} (F : FnP K "check_sum" s_check_sum f fd) (T : PrTx K mg) (dCkN : Dx P w K mg base 3 "check_number" ["what", "number", "low", "high"] (spCkN K)) : FnOk P w K mg base (L2.CX P w) 4 f fd ["straight"] (spCkS K) := by
  refine F.ok sc_check_sum (fun vs H Q E h => ?_) (fun cdv A outer s H vs Q E hr h => ?_)
  · obtain ⟨q, a, b, c, rfl, _⟩ := h
    rfl
  · obtain ⟨q, a, b, c, rfl, ⟨dx, hq⟩, k⟩ := h
    obtain ⟨tTOP_PART, hTOP_PART⟩ := T.con ("TOP_PART", 12) (by simp)
    obtain ⟨tTOP_ONE, hTOP_ONE⟩ := T.con ("TOP_ONE", 999) (by simp)
    refine ⟨_, (pss_cons (ps_expr (pe_dx (K := K) dCkN rfl hr (fun σ => passAt (takes_of rfl rfl rfl rfl) σ) (pa_cons pe_str (pa_cons (pe_fld (pv 0) rfl) (pa_cons (pe_un un_neg (pe_glob (v := .int 12) rfl hTOP_PART ⟨tTOP_PART, rfl⟩)) (pa_cons (pe_glob (v := .int 12) rfl hTOP_PART ⟨tTOP_PART, rfl⟩) pa_nil))))))
      (pss_cons (ps_expr (pe_dx (K := K) dCkN rfl hr (fun σ => passAt (takes_of rfl rfl rfl rfl) σ) (pa_cons pe_str (pa_cons (pe_fld (pv 0) rfl) (pa_cons (pe_un un_neg (pe_glob (v := .int 12) rfl hTOP_PART ⟨tTOP_PART, rfl⟩)) (pa_cons (pe_glob (v := .int 12) rfl hTOP_PART ⟨tTOP_PART, rfl⟩) pa_nil))))))
      (pss_one (ps_expr (pe_dx (K := K) dCkN rfl hr (fun σ => passAt (takes_of rfl rfl rfl rfl) σ) (pa_cons pe_str (pa_cons (pe_fld (pv 0) rfl) (pa_cons (pe_un un_neg (pe_glob (v := .int 999) rfl hTOP_ONE ⟨tTOP_ONE, rfl⟩)) (pa_cons (pe_glob (v := .int 999) rfl hTOP_ONE ⟨tTOP_ONE, rfl⟩) pa_nil))))))))), ?_⟩
    refine ⟨_, rfl, q, _, dx, _, _, rfl, hq, T.clS, T.nI, sf_i _ _ _, _, rfl, _, _, _, _, rfl, k.or (fun _ z => z) fun k => ?_⟩
    refine ⟨_, rfl, q, _, dx, _, _, rfl, hq, T.clS, T.nN, sf_n _ _ _, _, rfl, _, _, _, _, rfl, k.or (fun _ z => z) fun k => ?_⟩
    exact ⟨_, rfl, q, _, dx, _, _, rfl, hq, T.clS, T.nO, sf_one _ _ _, _, rfl, _, _, _, _, rfl, k⟩
theorem sc_check_place : FnScope ["place"] ["place"] (defScope s_check_place) := ⟨rfl, rfl, rfl, by decide +kernel, rfl, by decide +kernel, by decide +kernel⟩
theorem ok_ckP {f : Addr} {fd : FuncData} (F : FnP K "check_place" s_check_place f fd) (T : PrTx K mg) (dCkN : Dx P w K mg base 3 "check_number" ["what", "number", "low", "high"] (spCkN K)) (dCkS : Dx P w K mg base 4 "check_sum" ["straight"] (spCkS K)) : FnOk P w K mg base (L2.CX P w) 5 f fd ["place"] (spCkP K) := by
  refine F.ok sc_check_place (fun vs H Q E h => ?_) (fun cdv A outer s H vs Q E hr h => ?_)
  · obtain ⟨q, a, b, c, d, rfl, _⟩ := h
    rfl
  · obtain ⟨q, a, b, c, d, rfl, ⟨dx, r, hq, hr1⟩, k⟩ := h
    obtain ⟨tTOP_DIVISOR, hTOP_DIVISOR⟩ := T.con ("TOP_DIVISOR", 3) (by simp)
    refine ⟨_, (pss_cons (ps_expr (pe_dx (K := K) dCkS rfl hr (fun σ => passAt (takes_of rfl rfl rfl rfl) σ) (pa_cons (pe_fld (pv 0) rfl) pa_nil)))
      (pss_one (ps_expr (pe_dx (K := K) dCkN rfl hr (fun σ => passAt (takes_of rfl rfl rfl rfl) σ) (pa_cons pe_str (pa_cons (pe_fld (pv 0) rfl) (pa_cons pe_int (pa_cons (pe_glob (v := .int 3) rfl hTOP_DIVISOR ⟨tTOP_DIVISOR, rfl⟩) pa_nil)))))))), ?_⟩
    refine ⟨_, rfl, q, _, dx, _, _, rfl, hq, T.plc.clP, T.plc.nS, pf_s _ _, r, a, b, c, rfl, hr1, k.or (fun _ z => z) fun k => ?_⟩
    exact ⟨_, rfl, q, _, dx, _, _, rfl, hq, T.plc.clP, T.plc.nD, pf_d _ _, _, _, _, _, rfl, k⟩
theorem sc_check_range_place : FnScope ["place"] ["place"] (defScope s_check_range_place) := ⟨rfl, rfl, rfl, by decide +kernel, rfl, by decide +kernel, by decide +kernel⟩
theorem ok_ckR {f : Addr} {fd : FuncData} (F : FnP K "check_range_place" s_check_range_place f fd) (T : PrTx K mg) (dCkN : Dx P w K mg base 3 "check_number" ["what", "number", "low", "high"] (spCkN K)) : FnOk P w K mg base (L2.CX P w) 4 f fd ["place"] (spCkR K) := by
  refine F.ok sc_check_range_place (fun vs H Q E h => ?_) (fun cdv A outer s H vs Q E hr h => ?_)
  · obtain ⟨q, a, b, c, d, rfl, _⟩ := h
    rfl
  · obtain ⟨q, a, b, c, d, rfl, ⟨dx, r, hp, dq, hq⟩, k⟩ := h
    obtain ⟨tTOP_ONE, hTOP_ONE⟩ := T.con ("TOP_ONE", 999) (by simp)
    obtain ⟨tTOP_RANGE_PART, hTOP_RANGE_PART⟩ := T.con ("TOP_RANGE_PART", 3) (by simp)
    obtain ⟨tTOP_DIVISOR, hTOP_DIVISOR⟩ := T.con ("TOP_DIVISOR", 3) (by simp)
    refine ⟨_, (pss_cons (ps_expr (pe_dx (K := K) dCkN rfl hr (fun σ => passAt (takes_of rfl rfl rfl rfl) σ) (pa_cons pe_str (pa_cons (pe_fld (pe_fld (pv 0) rfl) rfl) (pa_cons pe_int (pa_cons pe_int pa_nil))))))
      (pss_cons (ps_expr (pe_dx (K := K) dCkN rfl hr (fun σ => passAt (takes_of rfl rfl rfl rfl) σ) (pa_cons pe_str (pa_cons (pe_fld (pe_fld (pv 0) rfl) rfl) (pa_cons pe_int (pa_cons (pe_glob (v := .int 3) rfl hTOP_RANGE_PART ⟨tTOP_RANGE_PART, rfl⟩) pa_nil))))))
      (pss_cons (ps_expr (pe_dx (K := K) dCkN rfl hr (fun σ => passAt (takes_of rfl rfl rfl rfl) σ) (pa_cons pe_str (pa_cons (pe_fld (pe_fld (pv 0) rfl) rfl) (pa_cons (pe_un un_neg (pe_glob (v := .int 999) rfl hTOP_ONE ⟨tTOP_ONE, rfl⟩)) (pa_cons (pe_glob (v := .int 999) rfl hTOP_ONE ⟨tTOP_ONE, rfl⟩) pa_nil))))))
      (pss_one (ps_expr (pe_dx (K := K) dCkN rfl hr (fun σ => passAt (takes_of rfl rfl rfl rfl) σ) (pa_cons pe_str (pa_cons (pe_fld (pv 0) rfl) (pa_cons pe_int (pa_cons (pe_glob (v := .int 3) rfl hTOP_DIVISOR ⟨tTOP_DIVISOR, rfl⟩) pa_nil)))))))))), ?_⟩
    refine ⟨_, rfl, q, _, dx, _, _, rfl, hp, T.plc.clP, T.plc.nS, pf_s _ _, r, _, dq, _, _, rfl, hq, T.clS, T.nI, sf_i _ _ _, _, _, _, _, rfl, k.or (fun _ z => z) fun k => ?_⟩
    refine ⟨_, rfl, q, _, dx, _, _, rfl, hp, T.plc.clP, T.plc.nS, pf_s _ _, r, _, dq, _, _, rfl, hq, T.clS, T.nN, sf_n _ _ _, _, _, _, _, rfl, k.or (fun _ z => z) fun k => ?_⟩
    refine ⟨_, rfl, q, _, dx, _, _, rfl, hp, T.plc.clP, T.plc.nS, pf_s _ _, r, _, dq, _, _, rfl, hq, T.clS, T.nO, sf_one _ _ _, _, rfl, _, _, _, _, rfl, k.or (fun _ z => z) fun k => ?_⟩
    exact ⟨_, rfl, q, _, dx, _, _, rfl, hp, T.plc.clP, T.plc.nD, pf_d _ _, _, _, _, _, rfl, k⟩
theorem sc_place_like : FnScope ["value"] ["value"] (defScope s_place_like) := ⟨rfl, rfl, rfl, by decide +kernel, rfl, by decide +kernel, by decide +kernel⟩
theorem ok_pLike {f : Addr} {fd : FuncData} (F : FnP K "place_like" s_place_like f fd) (T : PrTx K mg) (MP : MkP P w K mg base) : FnOk P w K mg base CX0 6 f fd ["value"] (spPLike K) := by
  refine F.ok sc_place_like (fun vs H Q E h => ?_) (fun cdv A outer s H vs Q E hr h => ?_)
  · obtain ⟨v, a, b, c, d, rfl, _⟩ := h
    rfl
  · obtain ⟨v, a, b, c, d, rfl, h, k⟩ := h
    refine ⟨_, PSs.nox (pss_one (ps_ret (pe_ifExp (pt_val (pe_callB call_isi (by rfl) T.isi (by decide +kernel) (pa_cons (pv 0) (pa_cons (pe_glob (v := .ref (CP K)) rfl T.plc.gP rfl) pa_nil)))) (pv 0) (pe_P T.plc MP hr at_E0 (pa_cons (pv 0) (pa_cons pe_int pa_nil)))))), ?_⟩
    have g1 : gg a b 1 = 1 := Nat.gcd_one_right _
    have go : ∀ q H', Same H H' → PlcAt K H' q (a.fdiv (gg a b 1)) (b.fdiv (gg a b 1)) (c.fdiv (gg a b 1)) ((1 : Int).fdiv (gg a b 1)) → d = 1 → Q (.ref q) H' := fun q H' s hq e => by
      rw [g1] at hq
      subst e
      have e1 : ((1 : Nat) : Int) = 1 := rfl
      rw [e1, Int.fdiv_one, Int.fdiv_one, Int.fdiv_one, Int.fdiv_one] at hq
      exact k q H' s hq
    rcases h with ⟨q, rfl, hq⟩ | ⟨hv, hd⟩
    · refine ⟨_, rfl, _, _, _, _, _, rfl, .own _, .base (T.plc.pty hq), T.plc.kPP, _, rfl, iteT ?_⟩
      exact ⟨_, rfl, k q H (Same.refl H) hq⟩
    · have fin : rPlG K v 1 H (fun y H' => Q y H') E0 := ⟨a, b, c, hv, fun z => absurd z (by decide), fun _ => ⟨by rw [g1]; decide, fun q H' s hq => go q H' s hq hd⟩⟩
      rcases id hv with ⟨q, rfl, hq⟩ | ⟨rfl, _, _⟩
      · refine ⟨_, rfl, _, _, _, _, _, rfl, .own _, .base (T.ty hq), T.plc.kSP, _, rfl, iteF ?_⟩
        exact ⟨_, rfl, _, 1, rfl, fin⟩
      · refine ⟨_, rfl, _, _, _, _, _, rfl, .own _, .base (.int c), T.plc.kiP, _, rfl, iteF ?_⟩
        exact ⟨_, rfl, _, 1, rfl, fin⟩
end
end K49
set_option maxHeartbeats 4000000
namespace K49
open PySem PySem.Spec PyProof.Rows L2 Z
theorem pl {f : Str} {v : V} {fs : List (Str × V)} {n : Nat} (h : fs.length < n) : (putF f v fs).length < n + 1 := Nat.lt_of_le_of_lt (length_putF f v fs) (Nat.succ_lt_succ h)
theorem pl0 {n : Nat} : ([] : List (Str × V)).length < n + 1 := Nat.succ_pos _
theorem ins_inj {H : Hp} {p C D dx dy : Addr} {fs gs : List (Str × V)} (h1 : H p = some (.ins C dx fs)) (h2 : H p = some (.ins D dy gs)) : fs = gs := by
  rw [h1] at h2
  exact congrArg (fun o : Option HO => match o with | some (.ins _ _ fs) => fs | _ => []) h2
section
variable {K : PySem.W.Frag} {H H' : Hp} {p C dx : Addr} {fs : List (Str × V)}
theorem _root_.Z.StrAt.up {q : Addr} {a b c : Int} (h : StrAt K H q a b c) (hp : H p = some (.ins C dx fs)) (k : Keep p H H') (ni : fs.lookup ("i" : Str) = none) : StrAt K H' q a b c := by
  obtain ⟨dq, hq⟩ := h
  refine ⟨dq, k _ _ (fun z => ?_) hq⟩
  subst z
  have e := ins_inj hp hq
  rw [e, sf_i] at ni
  cases ni
theorem _root_.Z.PlcAt.up {q : Addr} {a b c d : Int} (h : PlcAt K H q a b c d) (hp : H p = some (.ins C dx fs)) (k : Keep p H H') (nl : fs.lookup ("straight" : Str) = none) (ni : fs.lookup ("i" : Str) = none) : PlcAt K H' q a b c d := by
  obtain ⟨dq, r, hq, hr⟩ := h
  refine ⟨dq, r, k _ _ (fun z => ?_) hq, hr.up hp k ni⟩
  subst z
  have e := ins_inj hp hq
  rw [e, pf_s] at nl
  cases nl
theorem _root_.Z.SumV.up {v : V} {a b c : Int} (h : SumV K H v a b c) (hp : H p = some (.ins C dx fs)) (k : Keep p H H') (ni : fs.lookup ("i" : Str) = none) : SumV K H' v a b c := by
  rcases h with ⟨q, e, hq⟩ | h
  · exact .inl ⟨q, e, hq.up hp k ni⟩
  · exact .inr h
theorem PlV.up {v : V} {a b c d : Int} (h : PlV K H v a b c d) (hp : H p = some (.ins C dx fs)) (k : Keep p H H') (nl : fs.lookup ("straight" : Str) = none) (ni : fs.lookup ("i" : Str) = none) : PlV K H' v a b c d := by
  rcases h with ⟨q, e, hq⟩ | ⟨h, e⟩
  · exact .inl ⟨q, e, hq.up hp k nl ni⟩
  · exact .inr ⟨h.up hp k ni, e⟩
theorem rd_up {l : Addr} {u : HO} (h : Rd H l u) (hp : H p = some (.ins C dx fs)) (k : Keep p H H') (nu : ∀ C d fs, u ≠ .ins C d fs) : Rd H' l u := by
  rcases h with h | ⟨o, h⟩
  · refine .inl (k _ _ (fun z => ?_) h)
    subst z
    rw [hp] at h
    exact nu _ _ _ (Option.some.inj h).symm
  · refine .inr ⟨o, k _ _ (fun z => ?_) h⟩
    subst z
    rw [hp] at h
    cases h
theorem SqT.up {l : Addr} {xs : List V} (h : SqT K H l xs) (hp : H p = some (.ins C dx fs)) (k : Keep p H H') : SqT K H' l xs := h.imp (fun r => rd_up r hp k fun _ _ _ z => by cases z) id
theorem SqL.up {l : Addr} {xs : List V} (h : SqL K H l xs) (hp : H p = some (.ins C dx fs)) (k : Keep p H H') : SqL K H' l xs := h.imp (fun r => rd_up r hp k fun _ _ _ z => by cases z) id
theorem SqA.up {l : Addr} {xs : List V} (h : SqA K H l xs) (hp : H p = some (.ins C dx fs)) (k : Keep p H H') : SqA K H' l xs := h.imp (fun r => SqL.up r hp k) fun r => SqT.up r hp k
theorem rd_same {l : Addr} {u : HO} (h : Rd H l u) (s : Same H H') : Rd H' l u := h.imp (fun h => s _ _ h) fun ⟨o, h⟩ => ⟨o, s _ _ h⟩
theorem SqT.same {l : Addr} {xs : List V} (h : SqT K H l xs) (s : Same H H') : SqT K H' l xs := h.imp (fun r => rd_same r s) id
theorem SqL.same {l : Addr} {xs : List V} (h : SqL K H l xs) (s : Same H H') : SqL K H' l xs := h.imp (fun r => rd_same r s) id
theorem SqA.same {l : Addr} {xs : List V} (h : SqA K H l xs) (s : Same H H') : SqA K H' l xs := h.imp (fun r => SqL.same r s) fun r => SqT.same r s
theorem Keep.ofSame (s : Same H H') : Keep p H H' := fun b o _ e => s b o e
theorem keep_upd {o : HO} (k : Keep p H H') : Keep p H (upd H' p o) := fun b u nb e => by
  rw [upd_ne nb]
  exact k b u nb e
theorem keep_upd1 {o : HO} : Keep p H (upd H p o) := keep_upd fun _ _ _ e => e
theorem keep_trans {H'' : Hp} (k : Keep p H H') (s : Same H' H'') : Keep p H H'' := fun b u nb e => s _ _ (k b u nb e)
theorem keep_trans2 {H'' : Hp} (k : Keep p H H') (s : Keep p H' H'') : Keep p H H'' := fun b u nb e => s _ _ nb (k b u nb e)
theorem for_any {a : Addr} {xs : List V} {g : TG} {tb : TS} {D : Ends} {σ : L2.St} (hq : SqA K H a xs) (Pv : Nat → L2.St → Hp → Prop) (h0 : Pv 0 σ H) (hl : ∀ i σ' H', Pv i σ' H' → Same H H')
    (hs : ∀ i x σ H, xs[i]? = some x → Pv i σ H → g x σ H fun σ2 H2 => tb { D with nx := Pv (i + 1), ct := Pv (i + 1), bk := D.nx } σ2 H2) (hd : ∀ σ H, Pv xs.length σ H → D.nx σ H) :
    ((∃ xs, SqL K H a xs) ∧ ∃ W : Nat → Nat → L2.St → Hp → Prop, (∃ m, W 0 m σ H) ∧ ∀ i m σ H, W i m σ H →
      ((Itl K a).stop i H ∧ D.nx σ H) ∨ ((Itl K a).go i H ∧ ∃ N : L2.St → Hp → Prop, (∀ σ' H', N σ' H' → ∃ m', m' < m ∧ W (i + 1) m' σ' H') ∧ ∀ x H', (Itl K a).yld i H x H' → g x σ H' fun σ2 H2 => tb { D with nx := N, ct := N, bk := D.nx } σ2 H2)) ∨
    ((∃ xs, SqT K H a xs) ∧ ∃ W : Nat → Nat → L2.St → Hp → Prop, (∃ m, W 0 m σ H) ∧ ∀ i m σ H, W i m σ H →
      ((Itt K a).stop i H ∧ D.nx σ H) ∨ ((Itt K a).go i H ∧ ∃ N : L2.St → Hp → Prop, (∀ σ' H', N σ' H' → ∃ m', m' < m ∧ W (i + 1) m' σ' H') ∧ ∀ x H', (Itt K a).yld i H x H' → g x σ H' fun σ2 H2 => tb { D with nx := N, ct := N, bk := D.nx } σ2 H2)) := by
  rcases hq with h | h
  · exact .inl ⟨⟨xs, h⟩, for_list Pv h0 (fun i σ' H' _ q => SqL.same h (hl i σ' H' q)) hs hd⟩
  · exact .inr ⟨⟨xs, h⟩, for_tup Pv h0 (fun i σ' H' _ q => SqT.same h (hl i σ' H' q)) hs hd⟩
end
def rdf (x : Str) (q : Addr) (f : Int) : List (Str × V) := putF "factor" (.int f) (putF "place" (.ref q) (putF "array" (.str x) []))
def stf (x : Str) (q : Addr) (k : Int) (r g : Addr) : List (Str × V) := putF "conditions" (.ref g) (putF "reads" (.ref r) (putF "constant" (.int k) (putF "cell" (.ref q) (putF "array" (.str x) []))))
theorem ne1 : ¬ (("array" : Str) = "place") := by decide +kernel
theorem ne2 : ¬ (("array" : Str) = "factor") := by decide +kernel
theorem ne3 : ¬ (("place" : Str) = "factor") := by decide +kernel
theorem ne4 : ¬ (("array" : Str) = "cell") := by decide +kernel
theorem ne5 : ¬ (("array" : Str) = "constant") := by decide +kernel
theorem ne6 : ¬ (("array" : Str) = "reads") := by decide +kernel
theorem ne7 : ¬ (("array" : Str) = "conditions") := by decide +kernel
theorem ne8 : ¬ (("cell" : Str) = "constant") := by decide +kernel
theorem ne9 : ¬ (("cell" : Str) = "reads") := by decide +kernel
theorem ne10 : ¬ (("cell" : Str) = "conditions") := by decide +kernel
theorem ne11 : ¬ (("constant" : Str) = "reads") := by decide +kernel
theorem ne12 : ¬ (("constant" : Str) = "conditions") := by decide +kernel
theorem ne13 : ¬ (("reads" : Str) = "conditions") := by decide +kernel
theorem rdf_a (x : Str) (q : Addr) (f : Int) : (rdf x q f).lookup ("array" : Str) = some (.str x) := by
  unfold rdf
  rw [lookup_putF, if_neg ne2, lookup_putF, if_neg ne1, lookup_putF, if_pos rfl]
theorem rdf_p (x : Str) (q : Addr) (f : Int) : (rdf x q f).lookup ("place" : Str) = some (.ref q) := by
  unfold rdf
  rw [lookup_putF, if_neg ne3, lookup_putF, if_pos rfl]
theorem rdf_f (x : Str) (q : Addr) (f : Int) : (rdf x q f).lookup ("factor" : Str) = some (.int f) := by
  unfold rdf
  rw [lookup_putF, if_pos rfl]
theorem stf_a (x : Str) (q : Addr) (k : Int) (r g : Addr) : (stf x q k r g).lookup ("array" : Str) = some (.str x) := by
  unfold stf
  rw [lookup_putF, if_neg ne7, lookup_putF, if_neg ne6, lookup_putF, if_neg ne5, lookup_putF, if_neg ne4, lookup_putF, if_pos rfl]
theorem stf_c (x : Str) (q : Addr) (k : Int) (r g : Addr) : (stf x q k r g).lookup ("cell" : Str) = some (.ref q) := by
  unfold stf
  rw [lookup_putF, if_neg ne10, lookup_putF, if_neg ne9, lookup_putF, if_neg ne8, lookup_putF, if_pos rfl]
theorem stf_k (x : Str) (q : Addr) (k : Int) (r g : Addr) : (stf x q k r g).lookup ("constant" : Str) = some (.int k) := by
  unfold stf
  rw [lookup_putF, if_neg ne12, lookup_putF, if_neg ne11, lookup_putF, if_pos rfl]
theorem stf_r (x : Str) (q : Addr) (k : Int) (r g : Addr) : (stf x q k r g).lookup ("reads" : Str) = some (.ref r) := by
  unfold stf
  rw [lookup_putF, if_neg ne13, lookup_putF, if_pos rfl]
theorem stf_g (x : Str) (q : Addr) (k : Int) (r g : Addr) : (stf x q k r g).lookup ("conditions" : Str) = some (.ref g) := by
  unfold stf
  rw [lookup_putF, if_pos rfl]
section
variable (K : PySem.W.Frag)
def RdAt (H : Hp) (p : Addr) (x : Str) (a b c d f : Int) : Prop := ∃ dx q, H p = some (.ins (CRd K) dx (rdf x q f)) ∧ PlcAt K H q a b c d
/-- a condition: its sum -/
def CndAt (H : Hp) (v : V) (t : Int × Int × Int) : Prop := ∃ r C dx fs q, v = .ref r ∧ H r = some (.ins C dx fs) ∧ Cls K C ∧ NoAttr K C "straight" ∧ fs.lookup ("straight" : Str) = some (.ref q) ∧ StrAt K H q t.1 t.2.1 t.2.2
def Cnds (H : Hp) (cs : List V) (cc : List (Int × Int × Int)) : Prop := cs.length = cc.length ∧ ∀ (i : Nat) (v : V) (t : Int × Int × Int), cs[i]? = some v → cc[i]? = some t → CndAt K H v t
def StmAt (H : Hp) (p : Addr) (x : Str) (a b c k : Int) (rs cs : List V) : Prop := ∃ dx q r g, H p = some (.ins (CSt K) dx (stf x q k r g)) ∧ StrAt K H q a b c ∧ SqT K H r rs ∧ SqT K H g cs
def spRdI : Sp := fun vs H Q E => ∃ (p dx : Addr) (x : Str) (v : V) (f a b c d : Int), vs = [.ref p, .str x, v, .int f] ∧ H p = some (.ins (CRd K) dx []) ∧ x.length ≤ 1000 ∧ PlV K H v a b c d ∧
  Out (ckRead x f a b c d) (RzK K p H E) (∀ q H', H' p = some (.ins (CRd K) dx (rdf x q f)) → PlcAt K H' q a b c d → Keep p H H' → Q .non H')
def spStI : Sp := fun vs H Q E => ∃ (p dx : Addr) (x : Str) (v : V) (k : Int) (lr lc : Addr) (rs cs : List V) (cc : List (Int × Int × Int)) (a b c : Int), vs = [.ref p, .str x, v, .int k, .ref lr, .ref lc] ∧ H p = some (.ins (CSt K) dx []) ∧ x.length ≤ 1000 ∧ SumV K H v a b c ∧
  SqA K H lr rs ∧ SqA K H lc cs ∧ Cnds K H cs cc ∧ Out (ckStm rs.length cs.length x cc a b c k) (RzK K p H E) (∀ q r g H', H' p = some (.ins (CSt K) dx (stf x q k r g)) → StrAt K H' q a b c → SqT K H' r rs → SqT K H' g cs → Keep p H H' → Q .non H')
end
theorem CndAt.same {K : PySem.W.Frag} {H H' : Hp} {v : V} {t : Int × Int × Int} (h : CndAt K H v t) (s : Same H H') : CndAt K H' v t := by
  obtain ⟨r, C, dx, fs, q, e, h1, h2, h3, h4, h5⟩ := h
  exact ⟨r, C, dx, fs, q, e, s _ _ h1, h2, h3, h4, h5.same s⟩
theorem Cnds.same {K : PySem.W.Frag} {H H' : Hp} {cs : List V} {cc : List (Int × Int × Int)} (h : Cnds K H cs cc) (s : Same H H') : Cnds K H' cs cc := ⟨h.1, fun i v t h1 h2 => (h.2 i v t h1 h2).same s⟩
theorem RdAt.same {K : PySem.W.Frag} {H H' : Hp} {p : Addr} {x : Str} {a b c d f : Int} (h : RdAt K H p x a b c d f) (s : Same H H') : RdAt K H' p x a b c d f := by
  obtain ⟨dx, q, h, h2⟩ := h
  exact ⟨dx, q, s _ _ h, h2.same s⟩
theorem StmAt.same {K : PySem.W.Frag} {H H' : Hp} {p : Addr} {x : Str} {a b c k : Int} {rs cs : List V} (h : StmAt K H p x a b c k rs cs) (s : Same H H') : StmAt K H' p x a b c k rs cs := by
  obtain ⟨dx, q, r, g, h, h2, h3, h4⟩ := h
  exact ⟨dx, q, r, g, s _ _ h, h2.same s, SqT.same h3 s, SqT.same h4 s⟩
theorem norm {N : L2.St → Hp → Prop} {σ σ' : L2.St} {H : Hp} (e : σ = σ') (h : N σ' H) : N σ H := e ▸ h
theorem normG {i : Nat} {v : V} {σ σ' : L2.St} {H : Hp} {N : L2.St → Hp → Prop} (e : σ.set i (some v) = σ') (h : N σ' H) : gName i v σ H N := by
  subst e
  exact h
section
variable {P : Program} {w : World} {K : PySem.W.Frag} {mg : Str → Option Value} {base : Heap}
theorem scRead__init__ : FnScope ["self", "array", "place", "factor"] ["self", "array", "place", "factor"] (defScope iRead__init__) := ⟨rfl, rfl, rfl, by decide +kernel, rfl, by decide +kernel, by decide +kernel⟩
theorem ok_RdI {fd : FuncData} {kws : List (Str × V)} (F : FunD K "__init__" "Read.__init__" (defArgs iRead__init__) (defBody iRead__init__) (defScope iRead__init__) [] kws (He.ma K (CRd K) "__init__") fd) (T : PrTx K mg) (MB : Mx P w K mg base "BadNumber" ["self", "what", "number"] ["what", "number"])
    (dCkA : Dx P w K mg base 3 "check_name" ["array"] (spCkA K)) (dCkN : Dx P w K mg base 3 "check_number" ["what", "number", "low", "high"] (spCkN K)) (dPLike : Dn P w K mg base 6 "place_like" ["value"] (spPLike K)) (dCkP : Dx P w K mg base 5 "check_place" ["place"] (spCkP K)) :
    FnOk P w K mg base (L2.CX P w) 7 (He.ma K (CRd K) "__init__") fd ["self", "array", "place", "factor"] (spRdI K) := by
  refine F.ok scRead__init__ (fun vs H Q E h => ?_) (fun cdv A outer s H vs Q E hr h => ?_)
  · obtain ⟨p, dx, x, v, f, a, b, c, d, rfl, _⟩ := h
    rfl
  · obtain ⟨p, dx, x, v, f, a, b, c, d, rfl, hp, hx, hv, k⟩ := h
    obtain ⟨tTOP_ONE, hTOP_ONE⟩ := T.con ("TOP_ONE", 999) (by simp)
    refine ⟨_, (pss_cons (ps_expr (pe_dx (K := K) dCkA rfl hr (fun σ => passAt (takes_of rfl rfl rfl rfl) σ) (pa_cons (pv 1) pa_nil)))
      (pss_cons (ps_if (pt_cmpR op_eq (pv 3) pe_int (nomark _)) (pss_one (ps_raise rfl (takes_of rfl rfl rfl rfl) (pmk_err MB hr (pa_cons pe_str (pa_cons (pv 3) pa_nil))))) pss_nil)
      (pss_cons (ps_expr (pe_dx (K := K) dCkN rfl hr (fun σ => passAt (takes_of rfl rfl rfl rfl) σ) (pa_cons pe_str (pa_cons (pv 3) (pa_cons (pe_un un_neg (pe_glob (v := .int 999) rfl hTOP_ONE ⟨tTOP_ONE, rfl⟩)) (pa_cons (pe_glob (v := .int 999) rfl hTOP_ONE ⟨tTOP_ONE, rfl⟩) pa_nil))))))
      (pss_cons (ps_fld (pv 0) (pv 1) rfl)
      (pss_cons (ps_fld (pv 0) (pe_dn dPLike hr (pa_cons (pv 2) pa_nil)) rfl)
      (pss_cons (ps_fld (pv 0) (pv 3) rfl)
      (pss_one (ps_expr (pe_dx (K := K) dCkP rfl hr (fun σ => passAt (takes_of rfl rfl rfl rfl) σ) (pa_cons (pe_fld (pv 0) rfl) pa_nil)))))))))), ?_⟩
    refine ⟨_, rfl, x, rfl, hx, k.or (fun e z => z.rz (Keep.ofSame (Same.refl H))) fun k H1 s1 => ?_⟩
    have k1 : ∀ e, RzK K p H E e → Rz K H1 E e := fun e z => z.rz (Keep.ofSame s1)
    refine ⟨_, rfl, rfl, _, rfl, ?_⟩
    by_cases hf : f = 0
    · subst hf
      have bad := k1 _ (k.1 (.num "factor" 0) rfl)
      exact if_yes (decide_eq_true rfl) ⟨_, rfl, err_go (K := K) (x := "BadNumber") (fs := ["what", "number"]) (by show 2 ≤ 1000; decide) rfl fun d H' s hd => bad d H' s hd⟩
    rw [if_neg hf] at k
    refine if_no (decide_eq_false fun z => hf (V.int.inj z)) ?_
    refine ⟨_, rfl, _, rfl, _, _, _, _, rfl, Out.or (o1 := ckN "factor" f (-999) 999) k k1 fun k => ?_⟩
    refine ⟨_, rfl, _, rfl, p, _, dx, _, rfl, s1 _ _ hp, T.clR, T.nRA, pl0, ?_⟩
    have n1 : (putF "array" (V.str x) []).lookup ("straight" : Str) = none ∧ (putF "array" (V.str x) []).lookup ("i" : Str) = none := by
      rw [lookup_putF, if_neg (by decide +kernel), lookup_putF, if_neg (by decide +kernel)]
      exact ⟨rfl, rfl⟩
    have hv1 := (hv.same s1).up (s1 _ _ hp) (keep_upd1 (o := .ins (CRd K) dx (putF "array" (.str x) []))) rfl rfl
    refine ⟨_, rfl, v, a, b, c, d, rfl, hv1, fun q H2 s2 hq => ?_⟩
    have hp2 := s2 _ _ (upd_same (H := H1) (a := p))
    have kp2 : Keep p H H2 := keep_trans (keep_upd (Keep.ofSame s1)) s2
    refine ⟨_, rfl, p, _, dx, _, rfl, hp2, T.clR, T.nRP, pl pl0, ?_⟩
    have hq1 := hq.up hp2 (keep_upd1 (o := .ins (CRd K) dx (putF "place" (.ref q) (putF "array" (.str x) [])))) n1.1 n1.2
    refine ⟨_, rfl, _, rfl, p, _, dx, _, rfl, upd_same, T.clR, T.nRF, pl (pl pl0), ?_⟩
    have n2 : (putF "place" (V.ref q) (putF "array" (V.str x) [])).lookup ("straight" : Str) = none ∧ (putF "place" (V.ref q) (putF "array" (V.str x) [])).lookup ("i" : Str) = none := by
      rw [lookup_putF, if_neg (by decide +kernel), lookup_putF (f := "place"), if_neg (by decide +kernel)]
      exact n1
    have hq2 := hq1.up upd_same (keep_upd1 (o := .ins (CRd K) dx (rdf x q f))) n2.1 n2.2
    have kp3 : Keep p H (upd (upd H2 p (.ins (CRd K) dx (putF "place" (.ref q) (putF "array" (.str x) [])))) p (.ins (CRd K) dx (rdf x q f))) := keep_upd (keep_upd kp2)
    refine ⟨_, rfl, p, _, dx, _, _, rfl, upd_same, T.clR, T.nRP, rdf_p x q f, q, a, b, c, d, rfl, hq2, Out.end_ k (fun e z => z.rz kp3) fun k => ?_⟩
    exact k q _ upd_same hq2 kp3
end
end K49
set_option maxHeartbeats 4000000
namespace K49
open PySem PySem.Spec PyProof.Rows L2 Z
section
variable {P : Program} {w : World} {K : PySem.W.Frag} {mg : Str → Option Value} {base : Heap}
theorem nlk {f g : Str} {v : V} {fs : List (Str × V)} (h : ¬ g = f) (k : fs.lookup g = none) : (putF f v fs).lookup g = none := by
  rw [lookup_putF, if_neg h]
  exact k
theorem cnd_at {K : PySem.W.Frag} {H : Hp} {cs : List V} {cc : List (Int × Int × Int)} (h : Cnds K H cs cc) {i : Nat} {v : V} (hv : cs[i]? = some v) : ∃ t, cc[i]? = some t ∧ CndAt K H v t ∧ cc.drop i = t :: cc.drop (i + 1) := by
  have hi : i < cs.length := by
    rw [List.getElem?_eq_some_iff] at hv
    exact hv.1
  have hj : i < cc.length := by rw [← h.1]; exact hi
  refine ⟨cc[i], List.getElem?_eq_getElem hj, h.2 i v _ hv (List.getElem?_eq_getElem hj), ?_⟩
  exact List.drop_eq_getElem_cons hj
theorem scStatement__init__ : FnScope ["self", "array", "cell", "constant", "reads", "conditions", "condition"] ["self", "array", "cell", "constant", "reads", "conditions"] (defScope iStatement__init__) := ⟨rfl, rfl, rfl, by decide +kernel, rfl, by decide +kernel, by decide +kernel⟩
theorem ok_StI {fd : FuncData} {kws : List (Str × V)} (F : FunD K "__init__" "Statement.__init__" (defArgs iStatement__init__) (defBody iStatement__init__) (defScope iStatement__init__) [] kws (He.ma K (CSt K) "__init__") fd) (T : PrTx K mg)
    (dCkM : Dx P w K mg base 3 "check_many" ["what", "things", "most"] (spCkM K)) (dCkA : Dx P w K mg base 3 "check_name" ["array"] (spCkA K)) (dCkN : Dx P w K mg base 3 "check_number" ["what", "number", "low", "high"] (spCkN K))
    (dCkS : Dx P w K mg base 4 "check_sum" ["straight"] (spCkS K)) (dLike : Dn P w K mg base 3 "straight_like" ["value"] (spLike K)) :
    FnOk P w K mg base (L2.CX P w) 5 (He.ma K (CSt K) "__init__") fd ["self", "array", "cell", "constant", "reads", "conditions"] (spStI K) := by
  refine F.ok scStatement__init__ (fun vs H Q E h => ?_) (fun cdv A outer s H vs Q E hr h => ?_)
  · obtain ⟨p, dx, x, v, k, lr, lc, rs, cs, cc, a, b, c, rfl, _⟩ := h
    rfl
  · obtain ⟨p, dx, x, v, k, lr, lc, rs, cs, cc, a, b, c, rfl, hp, hx, hv, hlr, hlc, hcc, kk⟩ := h
    obtain ⟨tTOP_ONE, hTOP_ONE⟩ := T.con ("TOP_ONE", 999) (by simp)
    obtain ⟨tMOST_READS, hMOST_READS⟩ := T.con ("MOST_READS", 3) (by simp)
    obtain ⟨tMOST_CONDITIONS, hMOST_CONDITIONS⟩ := T.con ("MOST_CONDITIONS", 3) (by simp)
    refine ⟨_, (pss_cons (ps_expr (pe_dx (K := K) dCkM rfl hr (fun σ => passAt (takes_of rfl rfl rfl rfl) σ) (pa_cons pe_str (pa_cons (pv 4) (pa_cons (pe_glob (v := .int 3) rfl hMOST_READS ⟨tMOST_READS, rfl⟩) pa_nil)))))
      (pss_cons (ps_expr (pe_dx (K := K) dCkM rfl hr (fun σ => passAt (takes_of rfl rfl rfl rfl) σ) (pa_cons pe_str (pa_cons (pv 5) (pa_cons (pe_glob (v := .int 3) rfl hMOST_CONDITIONS ⟨tMOST_CONDITIONS, rfl⟩) pa_nil)))))
      (pss_cons (ps_expr (pe_dx (K := K) dCkA rfl hr (fun σ => passAt (takes_of rfl rfl rfl rfl) σ) (pa_cons (pv 1) pa_nil)))
      (pss_cons (ps_for (passes_of rfl) rfl (pi_any (pv 5)) (pg_name (i := 6) scStatement__init__.nd rfl (.inl rfl)) (pss_one (ps_expr (pe_dx (K := K) dCkS rfl hr (fun σ => passAt (takes_of rfl rfl rfl rfl) σ) (pa_cons (pe_fld (pv 6) rfl) pa_nil)))))
      (pss_cons (ps_fld (pv 0) (pv 1) rfl)
      (pss_cons (ps_fld (pv 0) (pe_dn dLike hr (pa_cons (pv 2) pa_nil)) rfl)
      (pss_cons (ps_expr (pe_dx (K := K) dCkS rfl hr (fun σ => passAt (takes_of rfl rfl rfl rfl) σ) (pa_cons (pe_fld (pv 0) rfl) pa_nil)))
      (pss_cons (ps_expr (pe_dx (K := K) dCkN rfl hr (fun σ => passAt (takes_of rfl rfl rfl rfl) σ) (pa_cons pe_str (pa_cons (pv 3) (pa_cons (pe_un un_neg (pe_glob (v := .int 999) rfl hTOP_ONE ⟨tTOP_ONE, rfl⟩)) (pa_cons (pe_glob (v := .int 999) rfl hTOP_ONE ⟨tTOP_ONE, rfl⟩) pa_nil))))))
      (pss_cons (ps_fld (pv 0) (pv 3) rfl)
      (pss_cons (ps_fld (pv 0) (pe_callTy call_tuple_of (by rfl) T.tuple (by decide +kernel) (pa_cons (pv 4) pa_nil)) rfl)
      (pss_one (ps_fld (pv 0) (pe_callTy call_tuple_of (by rfl) T.tuple (by decide +kernel) (pa_cons (pv 5) pa_nil)) rfl)))))))))))), ?_⟩
    have k0 : ∀ e, RzK K p H E e → Rz K H E e := fun e z => z.rz (Keep.ofSame (Same.refl H))
    refine ⟨_, rfl, _, _, _, _, rfl, hlr, kk.or k0 fun kk => ?_⟩
    refine ⟨_, rfl, _, _, _, _, rfl, hlc, kk.or k0 fun kk => ?_⟩
    refine ⟨_, rfl, x, rfl, hx, kk.or k0 fun kk H1 s1 => ?_⟩
    have k1 : ∀ e, RzK K p H E e → Rz K H1 E e := fun e z => z.rz (Keep.ofSame s1)
    have hcc1 := hcc.same s1
    refine ⟨_, rfl, lc, rfl, ?_⟩
    refine for_any (xs := cs) (SqA.same hlc s1) (fun i σ H' => ∃ v6 : Option V, σ = [some (.ref p), some (.str x), some v, some (.int k), some (.ref lr), some (.ref lc), v6] ∧ H' = H1 ∧
      Out ((ckCs (cc.drop i)).or ((ckS a b c).or (ckN "constant" k (-999) 999))) (RzK K p H E) (∀ (q r g : Addr) (H' : Hp), H' p = some (.ins (CSt K) dx (stf x q k r g)) → StrAt K H' q a b c → SqT K H' r rs → SqT K H' g cs → Keep p H H' → Q .non H')) ⟨_, rfl, rfl, kk⟩ (fun i σ' H' ⟨_, _, e, _⟩ => e ▸ Same.refl H1) ?_ ?_
    · rintro i y σ H' hy ⟨v6, rfl, rfl, kk⟩
      obtain ⟨t, ht, ⟨r, C, dy, fs, q, rfl, hr1, cl, na, lk, hq⟩, hd⟩ := cnd_at hcc1 hy
      rw [hd] at kk
      have e : (ckCs (t :: cc.drop (i + 1))).or ((ckS a b c).or (ckN "constant" k (-999) 999)) = (ckS t.1 t.2.1 t.2.2).or ((ckCs (cc.drop (i + 1))).or ((ckS a b c).or (ckN "constant" k (-999) 999))) := by
        show ((ckS t.1 t.2.1 t.2.2).or (ckCs (cc.drop (i + 1)))).or _ = _
        rw [Option.or_assoc]
      rw [e] at kk
      refine normG (σ' := [some (.ref p), some (.str x), some v, some (.int k), some (.ref lr), some (.ref lc), some (.ref r)]) rfl ?_
      exact ⟨_, rfl, r, C, dy, _, _, rfl, hr1, cl, na, lk, q, _, _, _, rfl, hq, kk.or k1 fun kk => ⟨_, rfl, rfl, kk⟩⟩
    rintro σ H' ⟨v6, rfl, rfl, kk⟩
    have e0 : cc.drop cs.length = [] := by rw [hcc.1, List.drop_length]
    rw [e0] at kk
    rw [show (ckCs ([] : List (Int × Int × Int))).or ((ckS a b c).or (ckN "constant" k (-999) 999)) = (ckS a b c).or (ckN "constant" k (-999) 999) from rfl] at kk
    refine ⟨_, rfl, _, rfl, p, _, dx, _, rfl, s1 _ _ hp, T.clM, T.nMA, pl0, ?_⟩
    have n1 : (putF "array" (V.str x) []).lookup ("i" : Str) = none := nlk (by decide +kernel) rfl
    have hv1 := (hv.same s1).up (s1 _ _ hp) (keep_upd1 (o := .ins (CSt K) dx (putF "array" (.str x) []))) rfl
    have kp1 : Keep p H (upd H' p (.ins (CSt K) dx (putF "array" (.str x) []))) := keep_upd (Keep.ofSame s1)
    refine ⟨_, rfl, v, a, b, c, rfl, hv1, fun q H2 s2 hq => ?_⟩
    have hp2 := s2 _ _ (upd_same (H := H') (a := p))
    have kp2 : Keep p H H2 := keep_trans kp1 s2
    refine ⟨_, rfl, p, _, dx, _, rfl, hp2, T.clM, T.nMC, pl pl0, ?_⟩
    have hq1 := hq.up hp2 (keep_upd1 (o := .ins (CSt K) dx (putF "cell" (.ref q) (putF "array" (.str x) [])))) n1
    have kp3 : Keep p H (upd H2 p (.ins (CSt K) dx (putF "cell" (.ref q) (putF "array" (.str x) [])))) := keep_upd kp2
    have lkc : (putF "cell" (V.ref q) (putF "array" (V.str x) [])).lookup ("cell" : Str) = some (.ref q) := by rw [lookup_putF, if_pos rfl]
    refine ⟨_, rfl, p, _, dx, _, _, rfl, upd_same, T.clM, T.nMC, lkc, q, a, b, c, rfl, hq1, kk.or (fun e z => z.rz kp3) fun kk => ?_⟩
    refine ⟨_, rfl, _, rfl, _, _, _, _, rfl, Out.end_ kk (fun e z => z.rz kp3) fun kk => ?_⟩
    refine ⟨_, rfl, _, rfl, p, _, dx, _, rfl, upd_same, T.clM, T.nMK, pl (pl pl0), ?_⟩
    have n2 : (putF "cell" (V.ref q) (putF "array" (V.str x) [])).lookup ("i" : Str) = none := nlk (by decide +kernel) n1
    have hq2 := hq1.up upd_same (keep_upd1 (o := .ins (CSt K) dx (putF "constant" (.int k) (putF "cell" (.ref q) (putF "array" (.str x) []))))) n2
    have n3 : (putF "constant" (V.int k) (putF "cell" (V.ref q) (putF "array" (V.str x) []))).lookup ("i" : Str) = none := nlk (by decide +kernel) n2
    obtain ⟨H3, eH3⟩ : ∃ L, L = upd (upd H2 p (.ins (CSt K) dx (putF "cell" (.ref q) (putF "array" (.str x) [])))) p (.ins (CSt K) dx (putF "constant" (.int k) (putF "cell" (.ref q) (putF "array" (.str x) [])))) := ⟨_, rfl⟩
    have kp4 : Keep p H H3 := by rw [eH3]; exact keep_upd kp3
    have hp3 : H3 p = some (.ins (CSt K) dx (putF "constant" (.int k) (putF "cell" (.ref q) (putF "array" (.str x) [])))) := by rw [eH3]; exact upd_same
    rw [← eH3] at hq2 ⊢
    have tail : ∀ (r : Addr) (H4 : Hp), Same H3 H4 → SqT K H4 r rs → H4 p = some (.ins (CSt K) dx (putF "constant" (.int k) (putF "cell" (.ref q) (putF "array" (.str x) [])))) ∧
        SqA K (upd H4 p (.ins (CSt K) dx (putF "reads" (.ref r) (putF "constant" (.int k) (putF "cell" (.ref q) (putF "array" (.str x) [])))))) lc cs ∧
        ∀ (g : Addr) (H6 : Hp), Same (upd H4 p (.ins (CSt K) dx (putF "reads" (.ref r) (putF "constant" (.int k) (putF "cell" (.ref q) (putF "array" (.str x) [])))))) H6 → SqT K H6 g cs →
          H6 p = some (.ins (CSt K) dx (putF "reads" (.ref r) (putF "constant" (.int k) (putF "cell" (.ref q) (putF "array" (.str x) []))))) ∧ Q .non (upd H6 p (.ins (CSt K) dx (stf x q k r g))) := by
      intro r H4 s4 hr4
      have hp4 := s4 _ _ hp3
      have k45 : Keep p H4 (upd H4 p (.ins (CSt K) dx (putF "reads" (.ref r) (putF "constant" (.int k) (putF "cell" (.ref q) (putF "array" (.str x) [])))))) := keep_upd1
      have kp5 := keep_trans2 (keep_trans kp4 s4) k45
      refine ⟨hp4, SqA.up hlc hp kp5, fun g H6 s6 hg6 => ?_⟩
      have hp6 := s6 _ _ upd_same
      have k67 : Keep p H6 (upd H6 p (.ins (CSt K) dx (stf x q k r g))) := keep_upd1
      have hr5 := SqT.up hr4 hp4 k45
      have hq5 := (hq2.same s4).up hp4 k45 n3
      exact ⟨hp6, kk q r g _ upd_same ((hq5.same s6).up hp6 k67 (nlk (by decide +kernel) n3)) (SqT.up (SqT.same hr5 s6) hp6 k67) (SqT.up hg6 hp6 k67) (keep_trans2 (keep_trans kp5 s6) k67)⟩
    rcases SqA.up hlr hp kp4 with hL | hL
    · refine ⟨_, rfl, lr, rs, rfl, .inl ⟨hL, fun r hr => ?_⟩⟩
      obtain ⟨t1, t2, t3⟩ := tail r _ (Same.new (.tup rs) (Same.refl H3) hr) (SqT.of upd_same)
      refine ⟨_, rfl, p, _, dx, _, rfl, t1, T.clM, T.nMR, pl (pl (pl pl0)), ?_⟩
      rcases t2 with hC | hC
      · refine ⟨_, rfl, lc, cs, rfl, .inl ⟨hC, fun g hg => ?_⟩⟩
        obtain ⟨t4, t5⟩ := t3 g _ (Same.new (.tup cs) (Same.refl _) hg) (SqT.of upd_same)
        exact ⟨_, rfl, p, _, dx, _, rfl, t4, T.clM, T.nMG, pl (pl (pl (pl pl0))), t5⟩
      · obtain ⟨t4, t5⟩ := t3 lc _ (Same.refl _) hC
        exact ⟨_, rfl, lc, cs, rfl, .inr ⟨hC, _, rfl, p, _, dx, _, rfl, t4, T.clM, T.nMG, pl (pl (pl (pl pl0))), t5⟩⟩
    · obtain ⟨t1, t2, t3⟩ := tail lr _ (Same.refl H3) hL
      refine ⟨_, rfl, lr, rs, rfl, .inr ⟨hL, ?_⟩⟩
      refine ⟨_, rfl, p, _, dx, _, rfl, t1, T.clM, T.nMR, pl (pl (pl pl0)), ?_⟩
      rcases t2 with hC | hC
      · refine ⟨_, rfl, lc, cs, rfl, .inl ⟨hC, fun g hg => ?_⟩⟩
        obtain ⟨t4, t5⟩ := t3 g _ (Same.new (.tup cs) (Same.refl _) hg) (SqT.of upd_same)
        exact ⟨_, rfl, p, _, dx, _, rfl, t4, T.clM, T.nMG, pl (pl (pl (pl pl0))), t5⟩
      · obtain ⟨t4, t5⟩ := t3 lc _ (Same.refl _) hC
        exact ⟨_, rfl, lc, cs, rfl, .inr ⟨hC, _, rfl, p, _, dx, _, rfl, t4, T.clM, T.nMG, pl (pl (pl (pl pl0))), t5⟩⟩
end
def lpf (lo hi st : Addr) (S : Int) (dn : Bool) : List (Str × V) := putF "down" (.bl dn) (putF "step" (.int S) (putF "statements" (.ref st) (putF "high" (.ref hi) (putF "low" (.ref lo) []))))
theorem n_lh : ¬ (("low" : Str) = "high") := by decide +kernel
theorem n_lt : ¬ (("low" : Str) = "statements") := by decide +kernel
theorem n_ls : ¬ (("low" : Str) = "step") := by decide +kernel
theorem n_ld : ¬ (("low" : Str) = "down") := by decide +kernel
theorem n_ht : ¬ (("high" : Str) = "statements") := by decide +kernel
theorem n_hs : ¬ (("high" : Str) = "step") := by decide +kernel
theorem n_hd : ¬ (("high" : Str) = "down") := by decide +kernel
theorem n_ts : ¬ (("statements" : Str) = "step") := by decide +kernel
theorem n_td : ¬ (("statements" : Str) = "down") := by decide +kernel
theorem n_sd : ¬ (("step" : Str) = "down") := by decide +kernel
theorem lp_lo (lo hi st : Addr) (S : Int) (dn : Bool) : (lpf lo hi st S dn).lookup ("low" : Str) = some (.ref lo) := by
  unfold lpf
  rw [lookup_putF, if_neg n_ld, lookup_putF, if_neg n_ls, lookup_putF, if_neg n_lt, lookup_putF, if_neg n_lh, lookup_putF, if_pos rfl]
theorem lp_hi (lo hi st : Addr) (S : Int) (dn : Bool) : (lpf lo hi st S dn).lookup ("high" : Str) = some (.ref hi) := by
  unfold lpf
  rw [lookup_putF, if_neg n_hd, lookup_putF, if_neg n_hs, lookup_putF, if_neg n_ht, lookup_putF, if_pos rfl]
theorem lp_tt (lo hi st : Addr) (S : Int) (dn : Bool) : (lpf lo hi st S dn).lookup ("statements" : Str) = some (.ref st) := by
  unfold lpf
  rw [lookup_putF, if_neg n_td, lookup_putF, if_neg n_ts, lookup_putF, if_pos rfl]
theorem lp_st (lo hi st : Addr) (S : Int) (dn : Bool) : (lpf lo hi st S dn).lookup ("step" : Str) = some (.int S) := by
  unfold lpf
  rw [lookup_putF, if_neg n_sd, lookup_putF, if_pos rfl]
theorem lp_dn (lo hi st : Addr) (S : Int) (dn : Bool) : (lpf lo hi st S dn).lookup ("down" : Str) = some (.bl dn) := by
  unfold lpf
  rw [lookup_putF, if_pos rfl]
/-- a place's four numbers -/
abbrev P4 : Type := Int × Int × Int × Int
section
variable (K : PySem.W.Frag)
def Pl4 (H : Hp) (q : Addr) (t : P4) : Prop := PlcAt K H q t.1 t.2.1 t.2.2.1 t.2.2.2
def LpAt (H : Hp) (p : Addr) (t u : P4) (S : Int) (dn : Bool) (xs : List V) : Prop := ∃ dx lo hi st, H p = some (.ins (CL K) dx (lpf lo hi st S dn)) ∧ Pl4 K H lo t ∧ Pl4 K H hi u ∧ SqT K H st xs
def ckLp (m S : Int) (t u : P4) : Option Er := ckLoop m S t.1 t.2.1 t.2.2.1 t.2.2.2 u.1 u.2.1 u.2.2.1 u.2.2.2
def spLpI : Sp := fun vs H Q E => ∃ (p dx : Addr) (v1 v2 : V) (l : Addr) (xs : List V) (t u : P4) (S : Int) (dn : Bool), vs = [.ref p, v1, v2, .ref l, .int S, .bl dn] ∧ H p = some (.ins (CL K) dx []) ∧ PlV K H v1 t.1 t.2.1 t.2.2.1 t.2.2.2 ∧ PlV K H v2 u.1 u.2.1 u.2.2.1 u.2.2.2 ∧ SqA K H l xs ∧
  Out (ckLp xs.length S t u) (RzK K p H E) (∀ lo hi st H', H' p = some (.ins (CL K) dx (lpf lo hi st S dn)) → Pl4 K H' lo t → Pl4 K H' hi u → SqT K H' st xs → Keep p H H' → Q .non H')
end
theorem LpAt.same {K : PySem.W.Frag} {H H' : Hp} {p : Addr} {t u : P4} {S : Int} {dn : Bool} {xs : List V} (h : LpAt K H p t u S dn xs) (s : Same H H') : LpAt K H' p t u S dn xs := by
  obtain ⟨dx, lo, hi, st, h1, h2, h3, h4⟩ := h
  exact ⟨dx, lo, hi, st, s _ _ h1, PlcAt.same h2 s, PlcAt.same h3 s, SqT.same h4 s⟩
section
variable {P : Program} {w : World} {K : PySem.W.Frag} {mg : Str → Option Value} {base : Heap}
theorem scLoop__init__ : FnScope ["self", "low", "high", "statements", "step", "down"] ["self", "low", "high", "statements", "step", "down"] (defScope iLoop__init__) := ⟨rfl, rfl, rfl, by decide +kernel, rfl, by decide +kernel, by decide +kernel⟩
theorem ok_LpI {fd : FuncData} {kws : List (Str × V)} (F : FunD K "__init__" "Loop.__init__" (defArgs iLoop__init__) (defBody iLoop__init__) (defScope iLoop__init__) [] kws (He.ma K (CL K) "__init__") fd) (T : PrTx K mg) (MB : Mx P w K mg base "BadNumber" ["self", "what", "number"] ["what", "number"])
    (dCkM : Dx P w K mg base 3 "check_many" ["what", "things", "most"] (spCkM K)) (dCkN : Dx P w K mg base 3 "check_number" ["what", "number", "low", "high"] (spCkN K)) (dPLike : Dn P w K mg base 6 "place_like" ["value"] (spPLike K)) (dCkR : Dx P w K mg base 4 "check_range_place" ["place"] (spCkR K)) :
    FnOk P w K mg base (L2.CX P w) 7 (He.ma K (CL K) "__init__") fd ["self", "low", "high", "statements", "step", "down"] (spLpI K) := by
  refine F.ok scLoop__init__ (fun vs H Q E h => ?_) (fun cdv A outer s H vs Q E hr h => ?_)
  · obtain ⟨p, dx, v1, v2, l, xs, t, u, S, dn, rfl, _⟩ := h
    rfl
  · obtain ⟨p, dx, v1, v2, l, xs, ⟨a, c, d, e⟩, ⟨a2, c2, d2, e2⟩, S, dn, rfl, hp, hv1, hv2, hl, kk⟩ := h
    obtain ⟨tTOP_STEP, hTOP_STEP⟩ := T.con ("TOP_STEP", 16) (by simp)
    obtain ⟨tMOST_STATEMENTS, hMOST_STATEMENTS⟩ := T.con ("MOST_STATEMENTS", 16) (by simp)
    refine ⟨_, (pss_cons (ps_expr (pe_dx (K := K) dCkM rfl hr (fun σ => passAt (takes_of rfl rfl rfl rfl) σ) (pa_cons pe_str (pa_cons (pv 3) (pa_cons (pe_glob (v := .int 16) rfl hMOST_STATEMENTS ⟨tMOST_STATEMENTS, rfl⟩) pa_nil)))))
      (pss_cons (ps_expr (pe_dx (K := K) dCkN rfl hr (fun σ => passAt (takes_of rfl rfl rfl rfl) σ) (pa_cons pe_str (pa_cons (pv 4) (pa_cons pe_int (pa_cons (pe_glob (v := .int 16) rfl hTOP_STEP ⟨tTOP_STEP, rfl⟩) pa_nil))))))
      (pss_cons (ps_fld (pv 0) (pe_dn dPLike hr (pa_cons (pv 1) pa_nil)) rfl)
      (pss_cons (ps_fld (pv 0) (pe_dn dPLike hr (pa_cons (pv 2) pa_nil)) rfl)
      (pss_cons (ps_expr (pe_dx (K := K) dCkR rfl hr (fun σ => passAt (takes_of rfl rfl rfl rfl) σ) (pa_cons (pe_fld (pv 0) rfl) pa_nil)))
      (pss_cons (ps_expr (pe_dx (K := K) dCkR rfl hr (fun σ => passAt (takes_of rfl rfl rfl rfl) σ) (pa_cons (pe_fld (pv 0) rfl) pa_nil)))
      (pss_cons (ps_if (PW.pt (pw_and (pt_cmpR op_gt (pv 4) pe_int (nomark _)) (pw_and1 (pt_cmpR op_gt (pe_fld (pe_fld (pv 0) rfl) rfl) pe_int (nomark _))))) (pss_one (ps_raise rfl (takes_of rfl rfl rfl rfl) (pmk_err MB hr (pa_cons pe_str (pa_cons (pv 4) pa_nil))))) pss_nil)
      (pss_cons (ps_fld (pv 0) (pe_callTy call_tuple_of (by rfl) T.tuple (by decide +kernel) (pa_cons (pv 3) pa_nil)) rfl)
      (pss_cons (ps_fld (pv 0) (pv 4) rfl)
      (pss_one (ps_fld (pv 0) (pv 5) rfl))))))))))), ?_⟩
    have k0 : ∀ e, RzK K p H E e → Rz K H E e := fun e z => z.rz (Keep.ofSame (Same.refl H))
    refine ⟨_, rfl, _, _, _, _, rfl, hl, kk.or k0 fun kk => ?_⟩
    refine ⟨_, rfl, _, _, _, _, rfl, kk.or k0 fun kk => ?_⟩
    refine ⟨_, rfl, v1, _, _, _, _, rfl, hv1, fun lo H1 s1 hlo => ?_⟩
    have hp1 := s1 _ _ hp
    refine ⟨_, rfl, p, _, dx, _, rfl, hp1, T.clL, T.nLo, pl0, ?_⟩
    obtain ⟨H2, eH2⟩ : ∃ L, L = upd H1 p (.ins (CL K) dx (putF "low" (.ref lo) [])) := ⟨_, rfl⟩
    have k12 : Keep p H1 H2 := by rw [eH2]; exact keep_upd1
    have hp2 : H2 p = some (.ins (CL K) dx (putF "low" (.ref lo) [])) := by rw [eH2]; exact upd_same
    rw [← eH2]
    have n1 : (putF "low" (V.ref lo) []).lookup ("straight" : Str) = none ∧ (putF "low" (V.ref lo) []).lookup ("i" : Str) = none := ⟨nlk (by decide +kernel) rfl, nlk (by decide +kernel) rfl⟩
    refine ⟨_, rfl, v2, _, _, _, _, rfl, (hv2.same s1).up hp1 k12 rfl rfl, fun hi H3 s3 hhi => ?_⟩
    have hp3 := s3 _ _ hp2
    have hlo3 := (hlo.up hp1 k12 rfl rfl).same s3
    refine ⟨_, rfl, p, _, dx, _, rfl, hp3, T.clL, T.nHi, pl pl0, ?_⟩
    obtain ⟨H4, eH4⟩ : ∃ L, L = upd H3 p (.ins (CL K) dx (putF "high" (.ref hi) (putF "low" (.ref lo) []))) := ⟨_, rfl⟩
    have k34 : Keep p H3 H4 := by rw [eH4]; exact keep_upd1
    have hp4 : H4 p = some (.ins (CL K) dx (putF "high" (.ref hi) (putF "low" (.ref lo) []))) := by rw [eH4]; exact upd_same
    rw [← eH4]
    have hlo4 := hlo3.up hp3 k34 n1.1 n1.2
    have hhi4 := hhi.up hp3 k34 n1.1 n1.2
    have kp4 : Keep p H H4 := keep_trans2 (keep_trans (keep_trans2 (Keep.ofSame s1) k12) s3) k34
    have k4 : ∀ e, RzK K p H E e → Rz K H4 E e := fun e z => z.rz kp4
    have ll : (putF "high" (V.ref hi) (putF "low" (V.ref lo) [])).lookup ("low" : Str) = some (.ref lo) := by
      rw [lookup_putF, if_neg n_lh, lookup_putF, if_pos rfl]
    have lh : (putF "high" (V.ref hi) (putF "low" (V.ref lo) [])).lookup ("high" : Str) = some (.ref hi) := by
      rw [lookup_putF, if_pos rfl]
    refine ⟨_, rfl, p, _, dx, _, _, rfl, hp4, T.clL, T.nLo, ll, lo, _, _, _, _, rfl, hlo4, kk.or k4 fun kk => ?_⟩
    refine ⟨_, rfl, p, _, dx, _, _, rfl, hp4, T.clL, T.nHi, lh, hi, _, _, _, _, rfl, hhi4, kk.or k4 fun kk => ?_⟩
    obtain ⟨dq, rq, hq1, _⟩ := id hlo4
    have n2 : (putF "high" (V.ref hi) (putF "low" (V.ref lo) [])).lookup ("straight" : Str) = none ∧ (putF "high" (V.ref hi) (putF "low" (V.ref lo) [])).lookup ("i" : Str) = none := ⟨nlk (by decide +kernel) n1.1, nlk (by decide +kernel) n1.2⟩
    have fin : ∀ (h : ¬ (1 < S ∧ 1 < e)) (t : Addr) (H5 : Hp), Same H4 H5 → SqT K H5 t xs → H5 p = some (.ins (CL K) dx (putF "high" (.ref hi) (putF "low" (.ref lo) []))) ∧ Q .non (upd (upd (upd H5 p (.ins (CL K) dx (putF "statements" (.ref t) (putF "high" (.ref hi) (putF "low" (.ref lo) []))))) p (.ins (CL K) dx (putF "step" (.int S) (putF "statements" (.ref t) (putF "high" (.ref hi) (putF "low" (.ref lo) [])))))) p (.ins (CL K) dx (lpf lo hi t S dn))) := by
      intro h t H5 s5 ht
      have kk2 := kk.2 (if_neg h)
      have hp5 := s5 _ _ hp4
      have kp5 : Keep p H5 (upd (upd (upd H5 p (.ins (CL K) dx (putF "statements" (.ref t) (putF "high" (.ref hi) (putF "low" (.ref lo) []))))) p (.ins (CL K) dx (putF "step" (.int S) (putF "statements" (.ref t) (putF "high" (.ref hi) (putF "low" (.ref lo) [])))))) p (.ins (CL K) dx (lpf lo hi t S dn))) := keep_upd (keep_upd keep_upd1)
      exact ⟨hp5, kk2 lo hi t _ upd_same ((hlo4.same s5).up hp5 kp5 n2.1 n2.2) ((hhi4.same s5).up hp5 kp5 n2.1 n2.2) (SqT.up ht hp5 kp5) (keep_trans2 (keep_trans kp4 s5) kp5)⟩
    refine ⟨_, rfl, _, _, rfl, rfl, _, rfl, ?_⟩
    by_cases hS : 1 < S
    · rw [decide_eq_true hS]
      refine iteT ⟨_, rfl, p, _, dx, _, _, rfl, hp4, T.clL, T.nLo, ll, lo, _, dq, _, _, rfl, hq1, T.plc.clP, T.plc.nD, pf_d _ _, _, _, rfl, rfl, _, rfl, ?_⟩
      by_cases he : 1 < e
      · rw [decide_eq_true he]
        have bad := k4 _ (kk.1 _ (if_pos ⟨hS, he⟩))
        exact iteT ⟨_, rfl, err_go (K := K) (x := "BadNumber") (fs := ["what", "number"]) (by show 2 ≤ 1000; decide) rfl fun d H' s hd => bad d H' s hd⟩
      · rw [decide_eq_false he]
        refine iteF ?_
        rcases SqA.up hl hp kp4 with hL | hL
        · refine ⟨_, rfl, l, xs, rfl, .inl ⟨hL, fun t ht => ?_⟩⟩
          obtain ⟨t1, t2⟩ := fin (fun z => he z.2) t _ (Same.new (.tup xs) (Same.refl H4) ht) (SqT.of upd_same)
          refine ⟨_, rfl, p, _, dx, _, rfl, t1, T.clL, T.nSt, pl (pl pl0), ?_⟩
          refine ⟨_, rfl, _, rfl, p, _, dx, _, rfl, upd_same, T.clL, T.nSp, pl (pl (pl pl0)), ?_⟩
          exact ⟨_, rfl, _, rfl, p, _, dx, _, rfl, upd_same, T.clL, T.nDn, pl (pl (pl (pl pl0))), t2⟩
        · obtain ⟨t1, t2⟩ := fin (fun z => he z.2) l _ (Same.refl H4) hL
          refine ⟨_, rfl, l, xs, rfl, .inr ⟨hL, ?_⟩⟩
          refine ⟨_, rfl, p, _, dx, _, rfl, t1, T.clL, T.nSt, pl (pl pl0), ?_⟩
          refine ⟨_, rfl, _, rfl, p, _, dx, _, rfl, upd_same, T.clL, T.nSp, pl (pl (pl pl0)), ?_⟩
          exact ⟨_, rfl, _, rfl, p, _, dx, _, rfl, upd_same, T.clL, T.nDn, pl (pl (pl (pl pl0))), t2⟩
    · rw [decide_eq_false hS]
      refine iteF ?_
      rcases SqA.up hl hp kp4 with hL | hL
      · refine ⟨_, rfl, l, xs, rfl, .inl ⟨hL, fun t ht => ?_⟩⟩
        obtain ⟨t1, t2⟩ := fin (fun z => hS z.1) t _ (Same.new (.tup xs) (Same.refl H4) ht) (SqT.of upd_same)
        refine ⟨_, rfl, p, _, dx, _, rfl, t1, T.clL, T.nSt, pl (pl pl0), ?_⟩
        refine ⟨_, rfl, _, rfl, p, _, dx, _, rfl, upd_same, T.clL, T.nSp, pl (pl (pl pl0)), ?_⟩
        exact ⟨_, rfl, _, rfl, p, _, dx, _, rfl, upd_same, T.clL, T.nDn, pl (pl (pl (pl pl0))), t2⟩
      · obtain ⟨t1, t2⟩ := fin (fun z => hS z.1) l _ (Same.refl H4) hL
        refine ⟨_, rfl, l, xs, rfl, .inr ⟨hL, ?_⟩⟩
        refine ⟨_, rfl, p, _, dx, _, rfl, t1, T.clL, T.nSt, pl (pl pl0), ?_⟩
        refine ⟨_, rfl, _, rfl, p, _, dx, _, rfl, upd_same, T.clL, T.nSp, pl (pl (pl pl0)), ?_⟩
        exact ⟨_, rfl, _, rfl, p, _, dx, _, rfl, upd_same, T.clL, T.nDn, pl (pl (pl (pl pl0))), t2⟩
end
end K49
set_option maxHeartbeats 4000000
namespace K49
open PySem PySem.Spec PyProof.Rows L2 Z
section
variable (K : PySem.W.Frag)
def RdN (H : Hp) (v : V) (y : Str) : Prop := ∃ p dx fs, v = .ref p ∧ H p = some (.ins (CRd K) dx fs) ∧ fs.lookup ("array" : Str) = some (.str y)
def RdNs (H : Hp) (vs : List V) (ys : List Str) : Prop := vs.length = ys.length ∧ ∀ (i : Nat) (v : V) (y : Str), vs[i]? = some v → ys[i]? = some y → RdN K H v y
def StN (H : Hp) (v : V) (m : List Str) : Prop := ∃ p dx fs x r rs ys, v = .ref p ∧ H p = some (.ins (CSt K) dx fs) ∧ fs.lookup ("array" : Str) = some (.str x) ∧ fs.lookup ("reads" : Str) = some (.ref r) ∧ SqT K H r rs ∧ RdNs K H rs ys ∧ m = x :: ys
def StNs (H : Hp) (vs : List V) (ms : List (List Str)) : Prop := vs.length = ms.length ∧ ∀ (i : Nat) (v : V) (m : List Str), vs[i]? = some v → ms[i]? = some m → StN K H v m
def LpN (H : Hp) (v : V) (m : List Str) : Prop := ∃ p dx fs st xs ms, v = .ref p ∧ H p = some (.ins (CL K) dx fs) ∧ fs.lookup ("statements" : Str) = some (.ref st) ∧ SqT K H st xs ∧ StNs K H xs ms ∧ m = ms.flatten
def LpNs (H : Hp) (vs : List V) (ms : List (List Str)) : Prop := vs.length = ms.length ∧ ∀ (i : Nat) (v : V) (m : List Str), vs[i]? = some v → ms[i]? = some m → LpN K H v m
def spArr : Sp := fun vs H Q _ => ∃ (l : Addr) (xs : List V) (ms : List (List Str)), vs = [.ref l] ∧ SqT K H l xs ∧ LpNs K H xs ms ∧ ms.flatten.length ≤ 4000 ∧
  ∀ t ys H', Same H H' → ys.Nodup → (∀ x, x ∈ ys ↔ x ∈ ms.flatten) → sortedS ys = true → SqT K H' t (ys.map V.str) → Q (.ref t) H'
def prf2 (l a : Addr) : List (Str × V) := putF "arrays" (.ref a) (putF "loops" (.ref l) [])
def prf (l a d : Addr) : List (Str × V) := putF "known" (.ref d) (prf2 l a)
def spPrI : Sp := fun vs H Q E => ∃ (p dx l : Addr) (xs : List V) (ms : List (List Str)), vs = [.ref p, .ref l] ∧ H p = some (.ins (CPr K) dx []) ∧ SqA K H l xs ∧ LpNs K H xs ms ∧ ms.flatten.length ≤ 4000 ∧
  Out (ckM "loops" xs.length 6) (RzK K p H E) (∀ (lt at_ dt : Addr) (ys : List Str) (H' : Hp), H' p = some (.ins (CPr K) dx (prf lt at_ dt)) → SqT K H' lt xs → SqT K H' at_ (ys.map V.str) → ys.Nodup → (∀ x, x ∈ ys ↔ x ∈ ms.flatten) → sortedS ys = true → Keep p H H' → Q .non H')
end
theorem zip_at {α : Type} {vs : List V} {ms : List α} (h : vs.length = ms.length) {i : Nat} {v : V} (hv : vs[i]? = some v) : ∃ m, ms[i]? = some m := by
  have hi : i < vs.length := (List.getElem?_eq_some_iff.mp hv).1
  exact ⟨ms[i]'(h ▸ hi), List.getElem?_eq_getElem (h ▸ hi)⟩
theorem flat_take {ms : List (List Str)} {i : Nat} {m : List Str} (h : ms[i]? = some m) : (ms.take (i + 1)).flatten = (ms.take i).flatten ++ m := by
  rw [List.take_add_one, h]
  simp
theorem flat_le {ms : List (List Str)} {i : Nat} : (ms.take i).flatten.length ≤ ms.flatten.length := by
  have e : ms.flatten = (ms.take i).flatten ++ (ms.drop i).flatten := by rw [← List.flatten_append, List.take_append_drop]
  rw [e, List.length_append]
  omega
section
variable {K : PySem.W.Frag} {H H' : Hp}
theorem RdN.same {v : V} {y : Str} (h : RdN K H v y) (s : Same H H') : RdN K H' v y := by
  obtain ⟨p, dx, fs, e, h1, h2⟩ := h
  exact ⟨p, dx, fs, e, s _ _ h1, h2⟩
theorem RdNs.same {vs : List V} {ys : List Str} (h : RdNs K H vs ys) (s : Same H H') : RdNs K H' vs ys := ⟨h.1, fun i v y a b => (h.2 i v y a b).same s⟩
theorem StN.same {v : V} {m : List Str} (h : StN K H v m) (s : Same H H') : StN K H' v m := by
  obtain ⟨p, dx, fs, x, r, rs, ys, e, h1, h2, h3, h4, h5, h6⟩ := h
  exact ⟨p, dx, fs, x, r, rs, ys, e, s _ _ h1, h2, h3, SqT.same h4 s, h5.same s, h6⟩
theorem StNs.same {vs : List V} {ms : List (List Str)} (h : StNs K H vs ms) (s : Same H H') : StNs K H' vs ms := ⟨h.1, fun i v y a b => (h.2 i v y a b).same s⟩
theorem LpN.same {v : V} {m : List Str} (h : LpN K H v m) (s : Same H H') : LpN K H' v m := by
  obtain ⟨p, dx, fs, st, xs, ms, e, h1, h2, h3, h4, h5⟩ := h
  exact ⟨p, dx, fs, st, xs, ms, e, s _ _ h1, h2, SqT.same h3 s, h4.same s, h5⟩
theorem LpNs.same {vs : List V} {ms : List (List Str)} (h : LpNs K H vs ms) (s : Same H H') : LpNs K H' vs ms := ⟨h.1, fun i v y a b => (h.2 i v y a b).same s⟩
variable {p C dx : Addr} {fs : List (Str × V)}
theorem LpNs.up {vs : List V} {ms : List (List Str)} (h : LpNs K H vs ms) (hp : H p = some (.ins C dx fs)) (k : Keep p H H') (n1 : fs.lookup ("statements" : Str) = none) (n2 : fs.lookup ("array" : Str) = none) : LpNs K H' vs ms := by
  have ne : ∀ {q D dy : Addr} {gs : List (Str × V)} {f : Str} {v : V}, H q = some (.ins D dy gs) → gs.lookup f = some v → fs.lookup f = none → q ≠ p := fun h1 h2 h3 z => by
    subst z
    rw [ins_inj hp h1, h2] at h3
    cases h3
  refine ⟨h.1, fun i v m a b => ?_⟩
  obtain ⟨q, dy, gs, st, xs, m2, e, h1, h2, h3, h4, h5⟩ := h.2 i v m a b
  refine ⟨q, dy, gs, st, xs, m2, e, k _ _ (ne h1 h2 n1) h1, h2, SqT.up h3 hp k, ⟨h4.1, fun i v m a b => ?_⟩, h5⟩
  obtain ⟨q, dy, gs, x, r, rs, ys, e, h1, h2, h3, h4, h5, h6⟩ := h4.2 i v m a b
  refine ⟨q, dy, gs, x, r, rs, ys, e, k _ _ (ne h1 h2 n2) h1, h2, h3, SqT.up h4 hp k, ⟨h5.1, fun i v y a b => ?_⟩, h6⟩
  obtain ⟨q, dy, gs, e, h1, h2⟩ := h5.2 i v y a b
  exact ⟨q, dy, gs, e, k _ _ (ne h1 h2 n2) h1, h2⟩
end
section
variable {P : Program} {w : World} {K : PySem.W.Frag} {mg : Str → Option Value} {base : Heap}
theorem sc_arrays_in : FnScope ["loops", "names", "loop", "statement", "read"] ["loops"] (defScope s_arrays_in) := ⟨rfl, rfl, rfl, by decide +kernel, rfl, by decide +kernel, by decide +kernel⟩
theorem ok_arr {f : Addr} {fd : FuncData} (F : FnP K "arrays_in" s_arrays_in f fd) (T : PrTx K mg) : FnOk P w K mg base CX0 1 f fd ["loops"] (spArr K) := by
  refine F.ok sc_arrays_in (fun vs H Q E h => ?_) (fun cdv A outer s H vs Q E hr h => ?_)
  · obtain ⟨l, xs, ms, rfl, _⟩ := h
    rfl
  · obtain ⟨l, xs, ms, rfl, hl, hms, hfew, k⟩ := h
    refine ⟨_, PSs.nox (pss_cons (ps_set (i := 1) sc_arrays_in.nd rfl (Or.inl rfl) (pe_lst pa_nil))
      (pss_cons (ps_for PassesOwn.never rfl (pi_tup (pv 0)) (pg_name (i := 2) sc_arrays_in.nd rfl (.inl rfl)) (pss_one (ps_for PassesOwn.never rfl (pi_tup (pe_fld (pv 2) rfl)) (pg_name (i := 3) sc_arrays_in.nd rfl (.inl rfl)) (pss_cons (ps_expr (pe_bm PySem.F.plainAttrs_list PySem.F.slot_list_append PySem.F.type_list_append mt_append (pv 1) (pa_cons (pe_fld (pv 3) rfl) pa_nil)))
      (pss_one (ps_expr (pe_bm PySem.F.plainAttrs_list PySem.F.slot_list_extend PySem.F.type_list_extend mt_extend (pv 1) (pa_cons (pe_lc (own := [("read", 4)]) (g := gName 4) (tt := tYes) rfl sc_arrays_in.nd (pi_tup (pe_fld (pv 3) rfl)) (blkOk_by (N := ["loops", "names", "loop", "statement", "read"]) (sc := defScope s_arrays_in) (by decide +kernel)) (fun _ _ _ _ _ => (pg_name (i := 4) sc_arrays_in.nd rfl (.inl rfl))) (fun _ _ _ _ _ => pts_nil) (fun _ _ _ _ _ => (pe_fldK (K := K) rfl (pv 4)))) pa_nil))))))))
      (pss_one (ps_ret (pe_callTy call_tuple_of (by rfl) T.tuple (by decide +kernel) (pa_cons (pe_callB (cr_sortedTx rfl) (by rfl) T.sorted (by decide +kernel) (pa_cons (pe_callTy (cr_setTx rfl) (by rfl) T.set (by decide +kernel) (pa_cons (pv 1) pa_nil)) pa_nil)) pa_nil)))))), ?_⟩
    refine ⟨Nat.zero_le _, fun N hN => ?_⟩
    have sN : Same H (upd H N (.lst [])) := Same.new _ (Same.refl H) hN
    have szl : 5000 ≤ sizeLine := by show 5000 ≤ sizeLine; decide
    have nN : ∀ {Hc : Hp}, (∀ b o, H b = some o → Hc b = some o) → ∀ o', ∀ b o, H b = some o → (upd Hc N o') b = some o := fun hk o' b o e => by
      rw [upd_ne (ne_of_none e hN)]
      exact hk b o e
    refine ⟨_, rfl, l, rfl, ⟨_, SqT.same hl sN⟩, for_tup (xs := xs) (fun i σ Hc => ∃ v2 v3 : Option V, σ = [some (.ref l), some (.ref N), v2, v3, none] ∧ Hc N = some (.lst ((ms.take i).flatten.map V.str)) ∧ ∀ b o, H b = some o → Hc b = some o) ⟨_, _, rfl, upd_same, sN⟩ (fun i σ Hc _ ⟨_, _, _, _, s⟩ => SqT.same hl s) ?_ ?_⟩
    · rintro i v σ Hc hv ⟨v2, v3, rfl, hN1, s1⟩
      obtain ⟨m, hm⟩ := zip_at hms.1 hv
      obtain ⟨p, dx, fs, st, ss, m2, rfl, h1, h2, h3, h4, h5⟩ := (hms.2 i v m hv hm).same s1
      refine normG (σ' := [some (.ref l), some (.ref N), some (.ref p), v3, none]) rfl ?_
      refine ⟨_, rfl, p, _, dx, _, _, rfl, h1, T.clL, T.nSt, h2, st, rfl, ⟨_, h3⟩, ?_⟩
      have tot : (ms.take i).flatten.length + m.length ≤ 4000 := by
        have e := flat_take hm
        have q := flat_le (ms := ms) (i := i + 1)
        rw [e, List.length_append] at q
        omega
      refine for_tup (xs := ss) (fun j σ Hd => ∃ v3 : Option V, σ = [some (.ref l), some (.ref N), some (.ref p), v3, none] ∧ Hd N = some (.lst (((ms.take i).flatten ++ (m2.take j).flatten).map V.str)) ∧ (∀ b o, H b = some o → Hd b = some o) ∧ SqT K Hd st ss ∧ StNs K Hd ss m2) ⟨_, rfl, by simpa using hN1, s1, h3, h4⟩ (fun j σ Hd _ ⟨_, _, _, _, z, _⟩ => z) ?_ ?_
      · rintro j v σ Hd hv2 ⟨v3, rfl, hN2, s2, hst, hsn⟩
        obtain ⟨m3, hm3⟩ := zip_at hsn.1 hv2
        obtain ⟨q, dq, gs, x, r, rs, ys, rfl, g1, g2, g3, g4, g5, g6⟩ := hsn.2 j v m3 hv2 hm3
        have tot2 : (ms.take i).flatten.length + ((m2.take j).flatten.length + m3.length) ≤ 4000 := by
          have e := flat_take hm3
          have z := flat_le (ms := m2) (i := j + 1)
          rw [e, List.length_append] at z
          rw [h5] at tot
          omega
        have l3 : m3.length = 1 + rs.length := by rw [g6, g5.1, List.length_cons]; omega
        refine normG (σ' := [some (.ref l), some (.ref N), some (.ref p), some (.ref q), none]) rfl ?_
        have noN : ∀ {C d : Addr} {fs : List (Str × V)} {b : Addr}, Hd b = some (.ins C d fs) → b ≠ N := fun e z => by
          rw [z, hN2] at e
          cases e
        refine ⟨_, rfl, .inl ⟨rfl, _, SqL.of hN2⟩, _, rfl, q, _, dq, _, _, rfl, g1, T.clM, T.nMA, g2, N, _, _, rfl, rfl, hN2, ?_, ?_⟩
        · rw [List.length_map, List.length_append]
          omega
        obtain ⟨He, eHe⟩ : ∃ L, L = upd Hd N (.lst (((ms.take i).flatten ++ (m2.take j).flatten).map V.str ++ [.str x])) := ⟨_, rfl⟩
        have kE : ∀ b o, b ≠ N → Hd b = some o → He b = some o := fun b o nb e => by rw [eHe, upd_ne nb]; exact e
        have hNE : He N = some (.lst (((ms.take i).flatten ++ (m2.take j).flatten).map V.str ++ [.str x])) := by rw [eHe]; exact upd_same
        rw [← eHe]
        have upT : ∀ {b : Addr} {zs : List V} {Ha Hb : Hp} {ws : List V}, Ha N = some (.lst ws) → (∀ b o, b ≠ N → Ha b = some o → Hb b = some o) → SqT K Ha b zs → SqT K Hb b zs := fun hw kk hz => hz.imp (fun z => z.imp (fun z => kk _ _ (fun y => by
          rw [y, hw] at z
          cases z) z) fun ⟨o, z⟩ => ⟨o, kk _ _ (fun y => by
          rw [y, hw] at z
          cases z) z⟩) id
        have upN : ∀ {Ha Hb : Hp} {ws : List V}, Ha N = some (.lst ws) → (∀ b o, b ≠ N → Ha b = some o → Hb b = some o) → StNs K Ha ss m2 → StNs K Hb ss m2 := fun {Ha Hb ws} hw kk z => ⟨z.1, fun i v m a b => by
          have no : ∀ {C d : Addr} {fs : List (Str × V)} {b : Addr}, Ha b = some (.ins C d fs) → b ≠ N := fun e y => by
            rw [y, hw] at e
            cases e
          obtain ⟨q, dq, gs, x, r, rs, ys, e, g1, g2, g3, g4, g5, g6⟩ := z.2 i v m a b
          refine ⟨q, dq, gs, x, r, rs, ys, e, kk _ _ (no g1) g1, g2, g3, upT hw kk g4, ⟨g5.1, fun i v y a b => ?_⟩, g6⟩
          obtain ⟨q, dq, gs, e, g1, g2⟩ := g5.2 i v y a b
          exact ⟨q, dq, gs, e, kk _ _ (no g1) g1, g2⟩⟩
        have g1E := kE _ _ (noN g1) g1
        have g4E := upT hN2 kE g4
        have stE := upT hN2 kE hst
        have snE := upN hN2 kE hsn
        have g5E : RdNs K He rs ys := ⟨g5.1, fun i v y a b => by
          obtain ⟨q, dq, gs, e, g1, g2⟩ := g5.2 i v y a b
          exact ⟨q, dq, gs, e, kE _ _ (noN g1) g1, g2⟩⟩
        have sE : ∀ b o, H b = some o → He b = some o := fun b o e => kE b o (ne_of_none e hN) (s2 b o e)
        refine ⟨_, rfl, .inl ⟨rfl, _, SqL.of hNE⟩, _, rfl, q, _, dq, _, _, rfl, g1E, T.clM, T.nMR, g3, r, rfl, ⟨_, g4E⟩, fun D hD => ?_⟩
        have sD := Same.new (.lst []) (Same.refl He) hD
        refine lc_tup (xs := rs) (fun n Hf => Hf D = some (.lst ((ys.take n).map V.str)) ∧ ∀ b o, He b = some o → Hf b = some o) ⟨upd_same, sD⟩ (fun n Hf _ z => SqT.same g4E z.2) ?_ ?_
        · rintro n v Hf hv3 ⟨hD1, kF⟩
          obtain ⟨y, hy⟩ := zip_at g5E.1 hv3
          obtain ⟨u, du, us, rfl, u1, u2⟩ := g5E.2 n v y hv3 hy
          refine ⟨rfl, yes_of ?_⟩
          refine ⟨_, rfl, u, _, du, _, _, rfl, kF _ _ u1, T.clR, T.nRA, u2, _, hD1, ?_, ?_, fun b o e => ?_⟩
          · rw [List.length_map, List.length_take]
            have := g5.1
            omega
          · rw [upd_same, List.take_add_one, hy]
            simp
          · rw [upd_ne (ne_of_none e hD)]
            exact kF b o e
        · rintro Hf ⟨hD1, kF⟩
          rw [g5E.1, List.take_length] at hD1
          have hNF := kF _ _ hNE
          refine ⟨N, D, _, _, rfl, rfl, hNF, hD1, ?_, ?_⟩
          · rw [List.length_append, List.length_map, List.length_map, List.length_append, List.length_singleton]
            have := g5.1
            omega
          have kG : ∀ b o, b ≠ N → Hf b = some o → (upd Hf N (.lst (((ms.take i).flatten ++ (m2.take j).flatten).map V.str ++ [.str x] ++ ys.map V.str))) b = some o := fun b o nb e => by rw [upd_ne nb]; exact e
          refine ⟨_, rfl, ?_, fun b o e => kG b o (ne_of_none e hN) (kF _ _ (sE _ _ e)), upT hNF kG (SqT.same stE kF), upN hNF kG (snE.same kF)⟩
          rw [upd_same, flat_take hm3, g6]
          simp
      · rintro σ Hd ⟨v3, rfl, hN2, s2, _, hsn⟩
        refine ⟨_, _, rfl, ?_, s2⟩
        rw [hsn.1, List.take_length, ← h5] at hN2
        rw [flat_take hm]
        exact hN2
    · rintro σ Hc ⟨v2, v3, rfl, hN1, s1⟩
      rw [hms.1, List.take_length] at hN1
      refine ⟨_, rfl, N, _, rfl, SqL.of hN1, by show _ < 4096; omega, fun a ha => ?_⟩
      have s2 := Same.new (TxO w a ms.flatten.reverse) (Same.refl Hc) ha
      refine ⟨a, _, rfl, upd_same, by rw [List.length_reverse]; omega, fun ys p nd mem srt hp => ?_⟩
      refine ⟨p, _, rfl, .inl ⟨SqL.of upd_same, fun t ht => ?_⟩⟩
      refine k t ys _ (Same.new _ (Same.new _ (Same.new _ s1 ha) hp) ht) nd (fun x => by rw [mem x, List.mem_reverse]) srt (SqT.of upd_same)
theorem scProgram__init__ : FnScope ["self", "loops"] ["self", "loops"] (defScope iProgram__init__) := ⟨rfl, rfl, rfl, by decide +kernel, rfl, by decide +kernel, by decide +kernel⟩
theorem ok_PrI {fd : FuncData} {kws : List (Str × V)} (F : FunD K "__init__" "Program.__init__" (defArgs iProgram__init__) (defBody iProgram__init__) (defScope iProgram__init__) [] kws (He.ma K (CPr K) "__init__") fd) (T : PrTx K mg)
    (dCkM : Dx P w K mg base 3 "check_many" ["what", "things", "most"] (spCkM K)) (dArrays : Dn P w K mg base 1 "arrays_in" ["loops"] (spArr K)) :
    FnOk P w K mg base (L2.CX P w) 4 (He.ma K (CPr K) "__init__") fd ["self", "loops"] (spPrI K) := by
  refine F.ok scProgram__init__ (fun vs H Q E h => ?_) (fun cdv A outer s H vs Q E hr h => ?_)
  · obtain ⟨p, dx, l, xs, ms, rfl, _⟩ := h
    rfl
  · obtain ⟨p, dx, l, xs, ms, rfl, hp, hl, hms, few, kk⟩ := h
    obtain ⟨tMOST_LOOPS, hMOST_LOOPS⟩ := T.con ("MOST_LOOPS", 6) (by simp)
    refine ⟨_, (pss_cons (ps_expr (pe_dx (K := K) dCkM rfl hr (fun σ => passAt (takes_of rfl rfl rfl rfl) σ) (pa_cons pe_str (pa_cons (pv 1) (pa_cons (pe_glob (v := .int 6) rfl hMOST_LOOPS ⟨tMOST_LOOPS, rfl⟩) pa_nil)))))
      (pss_cons (ps_fld (pv 0) (pe_callTy call_tuple_of (by rfl) T.tuple (by decide +kernel) (pa_cons (pv 1) pa_nil)) rfl)
      (pss_cons (ps_fld (pv 0) (pe_dn dArrays hr (pa_cons (pe_fld (pv 0) rfl) pa_nil)) rfl)
      (pss_one (ps_fld (pv 0) pe_dnewK rfl))))), ?_⟩
    refine ⟨_, rfl, _, _, _, _, rfl, hl, Out.end_ kk (fun e z => z.rz (Keep.ofSame (Same.refl H))) fun kk => ?_⟩
    have tail : ∀ (lt : Addr) (H1 : Hp), Same H H1 → SqT K H1 lt xs → H1 p = some (.ins (CPr K) dx []) ∧ SqT K (upd H1 p (.ins (CPr K) dx (putF "loops" (.ref lt) []))) lt xs ∧ LpNs K (upd H1 p (.ins (CPr K) dx (putF "loops" (.ref lt) []))) xs ms ∧
        ∀ (t : Addr) (ys : List Str) (H' : Hp), Same (upd H1 p (.ins (CPr K) dx (putF "loops" (.ref lt) []))) H' → ys.Nodup → (∀ x, x ∈ ys ↔ x ∈ ms.flatten) → sortedS ys = true → SqT K H' t (ys.map V.str) →
          H' p = some (.ins (CPr K) dx (putF "loops" (.ref lt) [])) ∧ ∀ d, (upd H' p (.ins (CPr K) dx (prf2 lt t))) d = none → (upd (upd H' p (.ins (CPr K) dx (prf2 lt t))) d (.dK [])) p = some (.ins (CPr K) dx (prf2 lt t)) ∧ Q .non (upd (upd (upd H' p (.ins (CPr K) dx (prf2 lt t))) d (.dK [])) p (.ins (CPr K) dx (prf lt t d))) := by
      intro lt H1 s1 hlt
      have hp1 := s1 _ _ hp
      have k1 : Keep p H1 (upd H1 p (.ins (CPr K) dx (putF "loops" (.ref lt) []))) := keep_upd1
      refine ⟨hp1, SqT.up hlt hp1 k1, (hms.same s1).up hp1 k1 rfl rfl, fun t ys H' s2 nd mem srt ht => ?_⟩
      have hp2 := s2 _ _ upd_same
      refine ⟨hp2, fun d hd => ?_⟩
      have k2 : Keep p H' (upd H' p (.ins (CPr K) dx (prf2 lt t))) := keep_upd1
      have s3 := Same.new (.dK []) (Same.refl (upd H' p (.ins (CPr K) dx (prf2 lt t)))) hd
      have hp3 : (upd (upd H' p (.ins (CPr K) dx (prf2 lt t))) d (.dK [])) p = some (.ins (CPr K) dx (prf2 lt t)) := s3 _ _ upd_same
      have k4 : Keep p (upd (upd H' p (.ins (CPr K) dx (prf2 lt t))) d (.dK [])) (upd (upd (upd H' p (.ins (CPr K) dx (prf2 lt t))) d (.dK [])) p (.ins (CPr K) dx (prf lt t d))) := keep_upd1
      refine ⟨hp3, kk lt t d ys _ upd_same (SqT.up (SqT.same (SqT.up (SqT.same (SqT.up hlt hp1 k1) s2) hp2 k2) s3) hp3 k4) (SqT.up (SqT.same (SqT.up ht hp2 k2) s3) hp3 k4) nd mem srt ?_⟩
      exact keep_trans2 (keep_trans (keep_trans2 (keep_trans (keep_trans2 (Keep.ofSame s1) k1) s2) k2) s3) k4
    rcases hl with hL | hL
    · refine ⟨_, rfl, l, xs, rfl, .inl ⟨hL, fun lt hlt => ?_⟩⟩
      obtain ⟨t1, t2, t3, t4⟩ := tail lt _ (Same.new (.tup xs) (Same.refl H) hlt) (SqT.of upd_same)
      refine ⟨_, rfl, p, _, dx, _, rfl, t1, T.clP, T.nPL, pl0, ?_⟩
      refine ⟨_, rfl, p, _, dx, _, _, rfl, upd_same, T.clP, T.nPL, (by rw [lookup_putF, if_pos rfl]), lt, xs, ms, rfl, t2, t3, few, fun t ys H' s nd mem srt ht => ?_⟩
      obtain ⟨t5, t6⟩ := t4 t ys H' s nd mem srt ht
      refine ⟨_, rfl, p, _, dx, _, rfl, t5, T.clP, T.nPA, pl pl0, ?_⟩
      intro d hd
      obtain ⟨t7, t8⟩ := t6 d hd
      exact ⟨_, rfl, p, _, dx, _, rfl, t7, T.clP, T.nPK, pl (pl pl0), t8⟩
    · obtain ⟨t1, t2, t3, t4⟩ := tail l _ (Same.refl H) hL
      refine ⟨_, rfl, l, xs, rfl, .inr ⟨hL, ?_⟩⟩
      refine ⟨_, rfl, p, _, dx, _, rfl, t1, T.clP, T.nPL, pl0, ?_⟩
      refine ⟨_, rfl, p, _, dx, _, _, rfl, upd_same, T.clP, T.nPL, (by rw [lookup_putF, if_pos rfl]), l, xs, ms, rfl, t2, t3, few, fun t ys H' s nd mem srt ht => ?_⟩
      obtain ⟨t5, t6⟩ := t4 t ys H' s nd mem srt ht
      refine ⟨_, rfl, p, _, dx, _, rfl, t5, T.clP, T.nPA, pl pl0, ?_⟩
      intro d hd
      obtain ⟨t7, t8⟩ := t6 d hd
      exact ⟨_, rfl, p, _, dx, _, rfl, t7, T.clP, T.nPK, pl (pl pl0), t8⟩
end
end K49
set_option maxHeartbeats 4000000
namespace Z
open PySem PySem.Spec PyProof.Rows L2
section
variable {X : Cx} {K : PySem.W.Frag} {k j n : Nat} {f C : Addr} {fd : FuncData} {ps ks : List Str} {sp : Sp} {E : L2.St → XK} {x : Str} {p pos : Pos} {e : Expr} {es : List Expr} {kws : List Keyword} {t tk : TA} {g : List Value → List Value → List Value} {gV : List V → List V → List V}
/-- C(e, ..) with the promise of __init__ in another form -/
theorem pe_mkR {R : List V → Hp → VK → XK → Prop} {dvs : List V} {ds : List Value} (M : Mc X.prog X.w K X.mg X.base j x f fd ps sp) (hK : X.K = K) (hb : Binds K fd ps ds) (hd : Vals dvs ds)
    (of : ∀ {vs H Q E y dx}, R vs H Q E → H y = none → H dx = none → dx ≠ y → sp (.ref y :: (vs ++ dvs)) (upd (upd H dx (.own y)) y (.ins (He.ga K x) dx [])) (fun v H2 => v = .non ∧ Q (.ref y) H2) E)
    (hr : Room k X.A) (hx : ∀ σ, PassesAt (L2.CX X.prog X.w) X σ (E σ)) (ha : PA X (e :: es) t) (hjk : j + 1 ≤ k) (hg : Gl X x)
    (hdb : (x == ("__debug__" : Str)) = false) (he : starEach (e :: es) X.env = (false, eval e X.env) :: starEach es X.env) (hpl : (backTo pos (starEach es X.env)).any (·.1) = false) :
    PE X (.Call (.Name x p) (e :: es) [] pos) (fun σ H Q => t σ H fun vs H1 => R vs H1 Q (E σ)) := by
  subst hK
  refine ⟨fun pins s σ H Q I h => ?_⟩
  refine wpAny_Call_Name_kw (ld_glob I hg M.gC ?_ hdb)
  refine PySem.W.callWith_K (h₀ := X.base) I.ok.mod.kin M.mK.kp (thn (ha.run pos pins s σ H _ I h) fun us s1 ⟨vs, H1, I1, r, q⟩ => ⟨I1.kIn, ?_⟩) he hpl
  have q0 := of q (I1.hok.fresh (Nat.le_succ _)) (I1.hok.fresh (Nat.le_refl _)) (Nat.ne_of_lt (Nat.lt_succ_self _))
  have len : ∀ a : Addr, (Value.ref a :: us ++ ds).length = ps.length := fun a => by
    have e := M.fn.len _ _ _ _ q0
    have l1 := r.length
    have l2 := hd.length
    simp only [List.length_cons, List.length_append] at e ⊢
    omega
  exact make_run M.mK M.fn (hr.mono hjk) (hx σ) I1 (fun a => .cons rfl (r.append hd)) (fun s' a k => hb s' (Value.ref a :: us) k (len a)) fun y dx ny nd ne => of q ny nd ne
/-- C(e, .., k = v, ..) likewise -/
theorem pe_mkRK {R : List V → List V → Hp → VK → XK → Prop} (M : Mc X.prog X.w K X.mg X.base j x f fd ps sp) (hK : X.K = K) (hb : KBn K fd ps (n + 1) ks g gV)
    (of : ∀ {vs zs H Q E}, R vs zs H Q E → vs.length = n ∧ zs.length = ks.length ∧ ∀ y dx, H y = none → H dx = none → dx ≠ y → sp (gV (.ref y :: vs) zs) (upd (upd H dx (.own y)) y (.ins (He.ga K x) dx [])) (fun v H2 => v = .non ∧ Q (.ref y) H2) E)
    (hr : Room k X.A) (hx : ∀ σ, PassesAt (L2.CX X.prog X.w) X σ (E σ)) (ha : PA X (e :: es) t) (hkw : PK X kws tk) (hjk : j + 1 ≤ k) (hg : Gl X x)
    (hall : (backToKw pos (keywordEach kws X.env)).all (·.1.isSome) = true) (hks : (backToKw pos (keywordEach kws X.env)).filterMap (·.1) = ks) (hdb : (x == ("__debug__" : Str)) = false)
    (he : starEach (e :: es) X.env = (false, eval e X.env) :: starEach es X.env) (hpl : ((backTo pos (starEach (e :: es) X.env)).any (·.1) || (backToKw pos (keywordEach kws X.env)).any (·.1.isNone)) = false) :
    PE X (.Call (.Name x p) (e :: es) kws pos) (fun σ H Q => t σ H fun vs H1 => tk σ H1 fun zs H2 => R vs zs H2 Q (E σ)) := by
  subst hK
  refine ⟨fun pins s σ H Q I h => ?_⟩
  refine wpAny_Call_Name_kw (ld_glob I hg M.gC ?_ hdb)
  refine PySem.W.callWith_KW (h₀ := X.base) I.ok.mod.kin M.mK.kp hall (thn (ha.run pos pins s σ H _ I h) fun us s1 ⟨vs, H1, I1, r, q⟩ => ?_) hpl he
  refine thn (hkw.run pos pins s1 σ H1 _ I1 q) fun ws s2 ⟨zs, H2, I2, rz, q2⟩ => ⟨I2.kIn, ?_⟩
  obtain ⟨l1, l2, q3⟩ := of q2
  rw [hks]
  have q0 := q3 (s2.heap.objs.size + 1) s2.heap.objs.size (I2.hok.fresh (Nat.le_succ _)) (I2.hok.fresh (Nat.le_refl _)) (Nat.ne_of_lt (Nat.lt_succ_self _))
  have I3 := Inv.made (C := He.ga X.K x) I2
  have r1 : Vals (V.ref (s2.heap.objs.size + 1) :: vs) (Value.ref (s2.heap.objs.size + 1) :: us) := .cons rfl r
  have r2 := hb.rel r1 rz
  have n1 : (Value.ref (s2.heap.objs.size + 1) :: us).length = n + 1 := by rw [List.length_cons, ← r.length, l1]
  refine wpAny_call (make_map (f := f) I2.kIn M.mK.makes M.mK.init (beq_iff_eq.mp M.mK.fn) (codeAny_mono (M.fn.run _ X.stack _ _ ⟨Value.ref (s2.heap.objs.size + 1) :: us, ks.zip ws⟩ (g (Value.ref (s2.heap.objs.size + 1) :: us) ws) _ _ (E σ) ((hr.mono hjk).make _ us (ks.zip ws))
    (I3.env0.make _ us (ks.zip ws)) (hb.to _ (Value.ref (s2.heap.objs.size + 1) :: us) ws I3.kIn n1 (rz.length.symm.trans l2)) r2 q0) fun r' s' z => ?_))
  cases r' with
  | error e => exact hx σ pins _ _ e s' I3 z
  | ok fl =>
    cases fl with
    | ret u =>
      obtain ⟨v, H', I4, rv, ev, q3⟩ := I3.after z
      subst ev
      exact ⟨rv, ⟨V.ref (s2.heap.objs.size + 1), H', I4, rfl, q3⟩⟩
    | next => exact False.elim z
    | brk => exact False.elim z
    | cont => exact False.elim z
end
end Z
set_option maxHeartbeats 4000000
namespace K49
open PySem PySem.Spec PyProof.Rows L2 Z
abbrev rps : List Str := ["self", "array", "place", "factor"]
abbrev sps : List Str := ["self", "array", "cell", "constant", "reads", "conditions"]
abbrev lps : List Str := ["self", "low", "high", "statements", "step", "down"]
section
variable (P : Program) (w : World) (K : PySem.W.Frag) (mg : Str → Option Value) (base : Heap)
def MkRd : Prop := ∃ f fd, Mc P w K mg base 7 "Read" f fd rps (spRdI K) ∧ (∃ ds, Vals [.int 1] ds ∧ Binds K fd rps ds) ∧ KBn K fd rps 3 ["factor"] (fun us ws => us ++ ws) (fun vs zs => vs ++ zs)
def MkSt : Prop := ∃ f fd, ∃ r0 g0 : Addr, Mc P w K mg base 5 "Statement" f fd sps (spStI K) ∧ (∃ ds, Vals [.ref r0, .ref g0] ds ∧ Binds K fd sps ds) ∧ KBn K fd sps 4 ["reads", "conditions"] (fun us ws => us ++ ws) (fun vs zs => vs ++ zs) ∧
  (∃ mv, KBn K fd sps 4 ["conditions"] (fun us ws => us ++ (mv ++ ws)) (fun vs zs => vs ++ ([.ref r0] ++ zs))) ∧ ∀ H : Hp, SqT K H r0 [] ∧ SqT K H g0 []
def MkLp : Prop := ∃ f fd, Mc P w K mg base 7 "Loop" f fd lps (spLpI K) ∧ (∃ ds, Vals [.int 1, .bl false] ds ∧ Binds K fd lps ds) ∧ KBn K fd lps 4 ["step", "down"] (fun us ws => us ++ ws) (fun vs zs => vs ++ zs)
def MkPr : Prop := ∃ f fd, Mc P w K mg base 4 "Program" f fd ["self", "loops"] (spPrI K) ∧ Binds K fd ["self", "loops"] []
end
section
variable {P : Program} {w : World} {K : PySem.W.Frag} {mg : Str → Option Value} {base : Heap} {f : Addr} {fd : FuncData}
theorem mk_Rd (F : FunD K "__init__" "Read.__init__" (defArgs iRead__init__) (defBody iRead__init__) (defScope iRead__init__) [] [("factor", .int 1)] f fd) (M : Mc P w K mg base 7 "Read" f fd rps (spRdI K)) : MkRd P w K mg base := by
  obtain ⟨mv, kb⟩ := FunD.kbinds0 (ps := rps) F 3 ["factor"] [] (fun us _ ws => us ++ ws) (by simp) (by simp) (fun r1 _ r2 => r1.append r2)
    (fun D doc pm an cdv ct us mv ws l1 l2 l3 => match us, mv, ws, l1, l2, l3 with | [_, _, _], [], [_], _, _, _ => rfl)
  obtain ⟨ds, v, b⟩ := FunD.binds0 (ps := rps) F 3 (by simp) rfl
    (fun D doc pm an cdv ct us ks l1 l2 => match us, ks, l1, l2 with | [_, _, _], [_], _, _ => ⟨_, _, _, _, _, _, rfl, rfl, rfl⟩)
  exact ⟨f, fd, M, ⟨ds, v, b⟩, kb⟩
theorem mk_St {r0 g0 : Addr} (F : FunD K "__init__" "Statement.__init__" (defArgs iStatement__init__) (defBody iStatement__init__) (defScope iStatement__init__) [] [("reads", .ref r0), ("conditions", .ref g0)] f fd) (M : Mc P w K mg base 5 "Statement" f fd sps (spStI K))
    (h : ∀ H : Hp, SqT K H r0 [] ∧ SqT K H g0 []) : MkSt P w K mg base := by
  obtain ⟨mv, kb⟩ := FunD.kbinds0 (ps := sps) F 4 ["reads", "conditions"] [] (fun us _ ws => us ++ ws) (by simp) (by simp) (fun r1 _ r2 => r1.append r2)
    (fun D doc pm an cdv ct us mv ws l1 l2 l3 => match us, mv, ws, l1, l2, l3 with | [_, _, _, _], [], [_, _], _, _, _ => rfl)
  obtain ⟨mv2, kb2⟩ := FunD.kbinds0 (ps := sps) F 4 ["conditions"] [("reads", .ref r0)] (fun us mz ws => us ++ (mz ++ ws)) (by simp) (by simp) (fun r1 r2 r3 => r1.append (r2.append r3))
    (fun D doc pm an cdv ct us mv ws l1 l2 l3 => match us, mv, ws, l1, l2, l3 with | [_, _, _, _], [_], [_], _, _, _ => ⟨_, _, _, _, _, _, rfl, rfl, rfl⟩)
  obtain ⟨ds, v, b⟩ := FunD.binds0 (ps := sps) F 4 (by simp) rfl
    (fun D doc pm an cdv ct us ks l1 l2 => match us, ks, l1, l2 with | [_, _, _, _], [_, _], _, _ => ⟨_, _, _, _, _, _, rfl, rfl, _, _, _, _, _, _, rfl, rfl, rfl⟩)
  exact ⟨f, fd, r0, g0, M, ⟨ds, v, b⟩, kb, ⟨mv2, kb2⟩, h⟩
theorem mk_Lp (F : FunD K "__init__" "Loop.__init__" (defArgs iLoop__init__) (defBody iLoop__init__) (defScope iLoop__init__) [] [("step", .int 1), ("down", .bl false)] f fd) (M : Mc P w K mg base 7 "Loop" f fd lps (spLpI K)) : MkLp P w K mg base := by
  obtain ⟨mv, kb⟩ := FunD.kbinds0 (ps := lps) F 4 ["step", "down"] [] (fun us _ ws => us ++ ws) (by simp) (by simp) (fun r1 _ r2 => r1.append r2)
    (fun D doc pm an cdv ct us mv ws l1 l2 l3 => match us, mv, ws, l1, l2, l3 with | [_, _, _, _], [], [_, _], _, _, _ => rfl)
  obtain ⟨ds, v, b⟩ := FunD.binds0 (ps := lps) F 4 (by simp) rfl
    (fun D doc pm an cdv ct us ks l1 l2 => match us, ks, l1, l2 with | [_, _, _, _], [_, _], _, _ => ⟨_, _, _, _, _, _, rfl, rfl, _, _, _, _, _, _, rfl, rfl, rfl⟩)
  exact ⟨f, fd, M, ⟨ds, v, b⟩, kb⟩
end
section
variable (K : PySem.W.Frag)
def rRd (ws : List V) (H : Hp) (Q : VK) (E : XK) : Prop := ∃ (x : Str) (v : V) (f a b c d : Int), ws = [.str x, v, .int f] ∧ x.length ≤ 1000 ∧ PlV K H v a b c d ∧ Out (ckRead x f a b c d) (Rz K H E) (∀ p H', Same H H' → RdAt K H' p x a b c d f → Q (.ref p) H')
def rSt (ws : List V) (H : Hp) (Q : VK) (E : XK) : Prop := ∃ (x : Str) (v : V) (k : Int) (lr lc : Addr) (rs cs : List V) (cc : List (Int × Int × Int)) (a b c : Int), ws = [.str x, v, .int k, .ref lr, .ref lc] ∧ x.length ≤ 1000 ∧ SumV K H v a b c ∧
  SqA K H lr rs ∧ SqA K H lc cs ∧ Cnds K H cs cc ∧ Out (ckStm rs.length cs.length x cc a b c k) (Rz K H E) (∀ p H', Same H H' → StmAt K H' p x a b c k rs cs → Q (.ref p) H')
def rLp (ws : List V) (H : Hp) (Q : VK) (E : XK) : Prop := ∃ (v1 v2 : V) (l : Addr) (xs : List V) (t u : P4) (S : Int) (dn : Bool), ws = [v1, v2, .ref l, .int S, .bl dn] ∧ PlV K H v1 t.1 t.2.1 t.2.2.1 t.2.2.2 ∧ PlV K H v2 u.1 u.2.1 u.2.2.1 u.2.2.2 ∧ SqA K H l xs ∧
  Out (ckLp xs.length S t u) (Rz K H E) (∀ p H', Same H H' → LpAt K H' p t u S dn xs → Q (.ref p) H')
def PrAt (H : Hp) (p : Addr) (xs : List V) (ys : List Str) : Prop := ∃ dx l a d, H p = some (.ins (CPr K) dx (prf l a d)) ∧ SqT K H l xs ∧ SqT K H a (ys.map V.str)
def rPr (ws : List V) (H : Hp) (Q : VK) (E : XK) : Prop := ∃ (l : Addr) (xs : List V) (ms : List (List Str)), ws = [.ref l] ∧ SqA K H l xs ∧ LpNs K H xs ms ∧ ms.flatten.length ≤ 4000 ∧
  Out (ckM "loops" xs.length 6) (Rz K H E) (∀ p ys H', Same H H' → PrAt K H' p xs ys → ys.Nodup → (∀ x, x ∈ ys ↔ x ∈ ms.flatten) → sortedS ys = true → Q (.ref p) H')
end
section
variable {K : PySem.W.Frag} {H : Hp} {Q : VK} {E : XK} {p dx C : Addr}
theorem new_same (np : H p = none) (nd : H dx = none) (ne : dx ≠ p) : Same H (upd (upd H dx (.own p)) p (.ins C dx [])) := Same.new _ (Same.new _ (Same.refl H) nd) (by rw [upd_ne (Ne.symm ne)]; exact np)
theorem rz_new {e : Er} (np : H p = none) (nd : H dx = none) (h : Rz K H E e) : RzK K p (upd (upd H dx (.own p)) p (.ins C dx [])) E e := fun d H' k hd => h d H' (Same.made (Same.refl H) np nd k) hd
theorem rRd_of {ws : List V} (h : rRd K ws H Q E) (np : H p = none) (nd : H dx = none) (ne : dx ≠ p) : spRdI K (.ref p :: ws) (upd (upd H dx (.own p)) p (.ins (CRd K) dx [])) (fun v H2 => v = .non ∧ Q (.ref p) H2) E := by
  obtain ⟨x, v, f, a, b, c, d, rfl, hx, hv, k⟩ := h
  exact ⟨p, dx, x, v, f, a, b, c, d, rfl, upd_same, hx, hv.same (new_same np nd ne), Out.end_ k (fun e z => rz_new np nd z) fun k q H' hp hq kp => ⟨rfl, k p H' (Same.made (Same.refl H) np nd kp) ⟨dx, q, hp, hq⟩⟩⟩
theorem rSt_of {ws : List V} (h : rSt K ws H Q E) (np : H p = none) (nd : H dx = none) (ne : dx ≠ p) : spStI K (.ref p :: ws) (upd (upd H dx (.own p)) p (.ins (CSt K) dx [])) (fun v H2 => v = .non ∧ Q (.ref p) H2) E := by
  obtain ⟨x, v, k, lr, lc, rs, cs, cc, a, b, c, rfl, hx, hv, h1, h2, h3, kk⟩ := h
  have s := new_same (C := CSt K) np nd ne
  exact ⟨p, dx, x, v, k, lr, lc, rs, cs, cc, a, b, c, rfl, upd_same, hx, hv.same s, SqA.same h1 s, SqA.same h2 s, h3.same s, Out.end_ kk (fun e z => rz_new np nd z) fun kk q r g H' hp hq hr hg kp => ⟨rfl, kk p H' (Same.made (Same.refl H) np nd kp) ⟨dx, q, r, g, hp, hq, hr, hg⟩⟩⟩
theorem rLp_of {ws : List V} (h : rLp K ws H Q E) (np : H p = none) (nd : H dx = none) (ne : dx ≠ p) : spLpI K (.ref p :: ws) (upd (upd H dx (.own p)) p (.ins (CL K) dx [])) (fun v H2 => v = .non ∧ Q (.ref p) H2) E := by
  obtain ⟨v1, v2, l, xs, t, u, S, dn, rfl, h1, h2, h3, kk⟩ := h
  have s := new_same (C := CL K) np nd ne
  exact ⟨p, dx, v1, v2, l, xs, t, u, S, dn, rfl, upd_same, h1.same s, h2.same s, SqA.same h3 s, Out.end_ kk (fun e z => rz_new np nd z) fun kk lo hi st H' hp hq hr hg kp => ⟨rfl, kk p H' (Same.made (Same.refl H) np nd kp) ⟨dx, lo, hi, st, hp, hq, hr, hg⟩⟩⟩
theorem rPr_of {ws : List V} (h : rPr K ws H Q E) (np : H p = none) (nd : H dx = none) (ne : dx ≠ p) : spPrI K (.ref p :: ws) (upd (upd H dx (.own p)) p (.ins (CPr K) dx [])) (fun v H2 => v = .non ∧ Q (.ref p) H2) E := by
  obtain ⟨l, xs, ms, rfl, h1, h2, few, kk⟩ := h
  have s := new_same (C := CPr K) np nd ne
  exact ⟨p, dx, l, xs, ms, rfl, upd_same, SqA.same h1 s, h2.same s, few, Out.end_ kk (fun e z => rz_new np nd z) fun kk lt at_ dt ys H' hp h3 h4 h5 h6 h7 kp => ⟨rfl, kk p ys H' (Same.made (Same.refl H) np nd kp) ⟨dx, lt, at_, dt, hp, h3, h4⟩ h5 h6 h7⟩⟩
end
section
variable {X : Cx} {K : PySem.W.Frag} {k : Nat} {E : L2.St → XK} {p pos : Pos} {e : Expr} {es : List Expr} {kws : List Keyword} {t tk : TA}
def tRdK (K : PySem.W.Frag) (t tk : TA) (E : L2.St → XK) : TE := fun σ H Q => t σ H fun vs H1 => tk σ H1 fun zs H2 => vs.length = 2 ∧ zs.length = 1 ∧ rRd K (vs ++ zs) H2 Q (E σ)
theorem pe_RdK (M : MkRd X.prog X.w K X.mg X.base) (hK : X.K = K) (hr : Room k X.A) (hx : ∀ σ, PassesAt (L2.CX X.prog X.w) X σ (E σ)) (ha : PA X (e :: es) t) (hkw : PK X kws tk) (hjk : 8 ≤ k := by decide) (hg : Gl X "Read" := by rfl) (hall : (backToKw pos (keywordEach kws X.env)).all (·.1.isSome) = true := by rfl) (hks : (backToKw pos (keywordEach kws X.env)).filterMap (·.1) = (["factor"] : List Str) := by rfl)
    (he : starEach (e :: es) X.env = (false, eval e X.env) :: starEach es X.env := by rfl) (hpl : ((backTo pos (starEach (e :: es) X.env)).any (·.1) || (backToKw pos (keywordEach kws X.env)).any (·.1.isNone)) = false := by rfl) :
    PE X (.Call (.Name "Read" p) (e :: es) kws pos) (tRdK K t tk E) := by
  obtain ⟨f, fd, M, _, kb⟩ := M
  exact pe_mkRK (n := 2) (R := fun vs zs H2 Q E => vs.length = 2 ∧ zs.length = 1 ∧ rRd K (vs ++ zs) H2 Q E) M hK kb (fun q => ⟨q.1, q.2.1, fun y dx ny nd ne => rRd_of q.2.2 ny nd ne⟩) hr hx ha hkw hjk hg hall hks (by decide) he hpl
theorem pe_StK2 (M : MkSt X.prog X.w K X.mg X.base) (hK : X.K = K) (hr : Room k X.A) (hx : ∀ σ, PassesAt (L2.CX X.prog X.w) X σ (E σ)) (ha : PA X (e :: es) t) (hkw : PK X kws tk) (hjk : 6 ≤ k := by decide) (hg : Gl X "Statement" := by rfl) (hall : (backToKw pos (keywordEach kws X.env)).all (·.1.isSome) = true := by rfl) (hks : (backToKw pos (keywordEach kws X.env)).filterMap (·.1) = (["reads", "conditions"] : List Str) := by rfl)
    (he : starEach (e :: es) X.env = (false, eval e X.env) :: starEach es X.env := by rfl) (hpl : ((backTo pos (starEach (e :: es) X.env)).any (·.1) || (backToKw pos (keywordEach kws X.env)).any (·.1.isNone)) = false := by rfl) :
    PE X (.Call (.Name "Statement" p) (e :: es) kws pos) (fun σ H Q => t σ H fun vs H1 => tk σ H1 fun zs H2 => vs.length = 3 ∧ zs.length = 2 ∧ rSt K (vs ++ zs) H2 Q (E σ)) := by
  obtain ⟨f, fd, r0, g0, M, _, kb, _⟩ := M
  exact pe_mkRK (n := 3) (R := fun vs zs H2 Q E => vs.length = 3 ∧ zs.length = 2 ∧ rSt K (vs ++ zs) H2 Q E) M hK kb (fun q => ⟨q.1, q.2.1, fun y dx ny nd ne => rSt_of q.2.2 ny nd ne⟩) hr hx ha hkw hjk hg hall hks (by decide) he hpl
theorem pe_LpK (M : MkLp X.prog X.w K X.mg X.base) (hK : X.K = K) (hr : Room k X.A) (hx : ∀ σ, PassesAt (L2.CX X.prog X.w) X σ (E σ)) (ha : PA X (e :: es) t) (hkw : PK X kws tk) (hjk : 8 ≤ k := by decide) (hg : Gl X "Loop" := by rfl) (hall : (backToKw pos (keywordEach kws X.env)).all (·.1.isSome) = true := by rfl) (hks : (backToKw pos (keywordEach kws X.env)).filterMap (·.1) = (["step", "down"] : List Str) := by rfl)
    (he : starEach (e :: es) X.env = (false, eval e X.env) :: starEach es X.env := by rfl) (hpl : ((backTo pos (starEach (e :: es) X.env)).any (·.1) || (backToKw pos (keywordEach kws X.env)).any (·.1.isNone)) = false := by rfl) :
    PE X (.Call (.Name "Loop" p) (e :: es) kws pos) (fun σ H Q => t σ H fun vs H1 => tk σ H1 fun zs H2 => vs.length = 3 ∧ zs.length = 2 ∧ rLp K (vs ++ zs) H2 Q (E σ)) := by
  obtain ⟨f, fd, M, _, kb⟩ := M
  exact pe_mkRK (n := 3) (R := fun vs zs H2 Q E => vs.length = 3 ∧ zs.length = 2 ∧ rLp K (vs ++ zs) H2 Q E) M hK kb (fun q => ⟨q.1, q.2.1, fun y dx ny nd ne => rLp_of q.2.2 ny nd ne⟩) hr hx ha hkw hjk hg hall hks (by decide) he hpl
theorem pe_PrP (M : MkPr X.prog X.w K X.mg X.base) (hK : X.K = K) (hr : Room k X.A) (hx : ∀ σ, PassesAt (L2.CX X.prog X.w) X σ (E σ)) (ha : PA X (e :: es) t) (hjk : 5 ≤ k := by decide) (hg : Gl X "Program" := by rfl) (he : starEach (e :: es) X.env = (false, eval e X.env) :: starEach es X.env := by rfl) (hpl : (backTo pos (starEach es X.env)).any (·.1) = false := by rfl) :
    PE X (.Call (.Name "Program" p) (e :: es) [] pos) (fun σ H Q => t σ H fun vs H1 => rPr K vs H1 Q (E σ)) := by
  obtain ⟨f, fd, M, b⟩ := M
  exact pe_mkR (R := fun vs H1 Q E => rPr K vs H1 Q E) M hK b .nil (fun q nx nd ne => by rw [List.append_nil]; exact rPr_of q nx nd ne) hr hx ha hjk hg (by decide) he hpl
end
end K49
set_option maxHeartbeats 4000000
namespace Z
open PySem PySem.Spec PyProof.Rows L2
mutual
inductive DT (H : Hp) : V → PyData → Prop
  | non : DT H .non .none
  | bl (b : Bool) : DT H (.bl b) (.bool b)
  | int (i : Int) : DT H (.int i) (.int i)
  | str (x : Str) : DT H (.str x) (.str x)
  | tup {a : Addr} {xs : List V} {ds : List PyData} : H a = some (.tup xs) → DTs H xs ds → DT H (.ref a) (.tuple ds)
inductive DTs (H : Hp) : List V → List PyData → Prop
  | nil : DTs H [] []
  | cons {v : V} {vs : List V} {d : PyData} {ds : List PyData} : DT H v d → DTs H vs ds → DTs H (v :: vs) (d :: ds)
end
/-- tuples stand -/
def TSame (H H' : Hp) : Prop := ∀ a xs, H a = some (.tup xs) → H' a = some (.tup xs)
section
variable {H H1 H2 H' : Hp} {D p : Addr} {o u : HO}
theorem TSame.refl (H : Hp) : TSame H H := fun _ _ e => e
theorem TSame.trans (a : TSame H H1) (b : TSame H1 H2) : TSame H H2 := fun c xs e => b c xs (a c xs e)
theorem TSame.of (s : Same H H') : TSame H H' := fun a xs e => s a _ e
theorem TSame.keepO (e : H p = some o) (n : ∀ xs, o ≠ .tup xs) (k : Keep p H H') : TSame H H' := fun a xs ea => k a _ (fun z => by
  rw [z, e] at ea
  exact n xs (Option.some.inj ea)) ea
theorem TSame.keep {t : Nat} (h : Pen H p t) (k : Keep p H H') : TSame H H' := by
  obtain ⟨c, ns, a, l, e, _⟩ := h
  exact TSame.keepO e (fun _ z => by cases z) k
theorem TSame.updO (e : H D = some o) (n : ∀ xs, o ≠ .tup xs) : TSame H (upd H D u) := TSame.keepO e n fun b w nb eb => by
  rw [upd_ne nb]
  exact eb
theorem TSame.updL {xs : List V} (e : H D = some (.lst xs)) : TSame H (upd H D u) := TSame.updO e fun _ z => by cases z
theorem TSame.new (n : H D = none) : TSame H (upd H D u) := TSame.of (Same.new _ (Same.refl H) n)
end
mutual
theorem DT.mono {H H' : Hp} (s : TSame H H') : ∀ (d : PyData) {v : V}, DT H v d → DT H' v d
  | .none, _, h => by cases h; exact .non
  | .bool b, _, h => by cases h; exact .bl b
  | .int i, _, h => by cases h; exact .int i
  | .str x, _, h => by cases h; exact .str x
  | .list ds, _, h => by cases h
  | .tuple ds, _, h => by
    cases h with
    | tup e r => exact .tup (s _ _ e) (DTs.mono s ds r)
  | .dict _, _, h => by cases h
theorem DTs.mono {H H' : Hp} (s : TSame H H') : ∀ (ds : List PyData) {vs : List V}, DTs H vs ds → DTs H' vs ds
  | [], _, h => by cases h; exact .nil
  | d :: ds, _, h => by
    cases h with
    | cons a b => exact .cons (DT.mono s d a) (DTs.mono s ds b)
end
mutual
theorem DT.dp {K : PySem.W.Frag} {H : Hp} : ∀ (d : PyData) {v : V}, DT H v d → Dp K H v d
  | .none, _, h => by cases h; exact .non
  | .bool b, _, h => by cases h; exact .bl b
  | .int i, _, h => by cases h; exact .int i
  | .str x, _, h => by cases h; exact .str x
  | .list ds, _, h => by cases h
  | .tuple ds, _, h => by
    cases h with
    | tup e r => exact .tup (SqT.of e) (DTs.dp ds r)
  | .dict _, _, h => by cases h
theorem DTs.dp {K : PySem.W.Frag} {H : Hp} : ∀ (ds : List PyData) {vs : List V}, DTs H vs ds → DpAll K H vs ds
  | [], _, h => by cases h; exact .nil
  | d :: ds, _, h => by
    cases h with
    | cons a b => exact .cons (DT.dp d a) (DTs.dp ds b)
end
section
variable {H H' : Hp} {v : V} {vs : List V}
theorem DT.to {d : PyData} (h : DT H v d) (s : TSame H H') : DT H' v d := DT.mono s d h
theorem DTs.to {ds : List PyData} (h : DTs H vs ds) (s : TSame H H') : DTs H' vs ds := DTs.mono s ds h
theorem DT.same {d : PyData} (h : DT H v d) (s : Same H H') (_ : PyData := .none) : DT H' v d := h.to (.of s)
theorem DT.keep {p : Addr} {t : Nat} {d : PyData} (h : DT H v d) (hp : Pen H p t) (k : Keep p H H') : DT H' v d := h.to (.keep hp k)
theorem DTs.keep {p : Addr} {t : Nat} {ds : List PyData} (h : DTs H vs ds) (hp : Pen H p t) (k : Keep p H H') : DTs H' vs ds := h.to (.keep hp k)
theorem DTs.len : ∀ {ds : List PyData} {vs : List V}, DTs H vs ds → vs.length = ds.length
  | [], _, h => by cases h; rfl
  | d :: ds, _, h => by
    cases h with
    | cons a b => rw [List.length_cons, List.length_cons, DTs.len b]
theorem DTs.get : ∀ {ds : List PyData} {ws : List V} (i : Nat) (d : PyData), DTs H ws ds → ds[i]? = some d → ∃ v, ws[i]? = some v ∧ DT H v d
  | [], _, _, _, _, e => by cases e
  | _ :: _, _, 0, d', h, e => by
    cases h with
    | cons a b =>
      cases (Option.some.inj e)
      exact ⟨_, rfl, a⟩
  | _ :: ds, _, i + 1, d', h, e => by
    cases h with
    | cons a b => exact DTs.get i d' b (show ds[i]? = some d' from e)
theorem DTs.get' {ds : List PyData} {ws : List V} {i : Nat} {v : V} (h : DTs H ws ds) (e : ws[i]? = some v) : ∃ d, ds[i]? = some d ∧ DT H v d := by
  have hi : i < ds.length := by
    rw [← h.len]
    exact (List.getElem?_eq_some_iff.mp e).1
  obtain ⟨u, e2, k⟩ := DTs.get i _ h (List.getElem?_eq_getElem hi)
  rw [e] at e2
  cases e2
  exact ⟨_, List.getElem?_eq_getElem hi, k⟩
/-- the items are made from a list -/
theorem DTs.map' {α : Type} {f : α → PyData} {as : List α} {ws : List V} {i : Nat} {v : V} (h : DTs H ws (as.map f)) (e : ws[i]? = some v) : ∃ a, as[i]? = some a ∧ DT H v (f a) := by
  obtain ⟨d, hd, k⟩ := h.get' e
  rw [List.getElem?_map] at hd
  obtain ⟨a, ha, rfl⟩ := Option.map_eq_some_iff.mp hd
  exact ⟨a, ha, k⟩
theorem DTs.app : ∀ {ds es : List PyData} {vs ws : List V}, DTs H vs ds → DTs H ws es → DTs H (vs ++ ws) (ds ++ es)
  | [], _, _, _, h, k => by cases h; exact k
  | d :: ds, _, _, _, h, k => by
    cases h with
    | cons a b => exact .cons a (DTs.app b k)
theorem DTs.one {d : PyData} (h : DT H v d) : DTs H [v] [d] := .cons h .nil
theorem DTs.snoc {α : Type} {f : α → PyData} {as : List α} {a : α} (h : DTs H vs (as.map f)) (k : DT H v (f a)) : DTs H (vs ++ [v]) ((as ++ [a]).map f) := by
  rw [List.map_append]
  exact h.app (.one k)
theorem DT.tup' {ds : List PyData} (h : DT H v (.tuple ds)) : ∃ a xs, v = .ref a ∧ H a = some (.tup xs) ∧ DTs H xs ds := by
  cases h with
  | tup e r => exact ⟨_, _, rfl, e, r⟩
end
def imm : HO → Bool
  | .tup _ => true
  | .ins _ _ _ => true
  | .frz _ (.tup _) => true
  | _ => false
def MS (H H' : Hp) : Prop := ∀ a u, H a = some u → imm u = true → H' a = some u
section
variable {H H1 H2 H' : Hp} {D p : Addr} {o u : HO}
theorem MS.refl (H : Hp) : MS H H := fun _ _ e _ => e
theorem MS.trans (a : MS H H1) (b : MS H1 H2) : MS H H2 := fun c u e i => b c u (a c u e i) i
theorem MS.of (s : Same H H') : MS H H' := fun a u e _ => s a u e
theorem MS.t (s : MS H H') : TSame H H' := fun a xs e => s a _ e rfl
theorem MS.keepO (e : H p = some o) (n : imm o = false) (k : Keep p H H') : MS H H' := fun a w ea i => k a w (fun z => by
  rw [z, e] at ea
  cases ea
  rw [n] at i
  cases i) ea
theorem MS.keep {t : Nat} (h : Pen H p t) (k : Keep p H H') : MS H H' := by
  obtain ⟨c, ns, a, l, e, _⟩ := h
  exact MS.keepO e rfl k
theorem MS.updO (e : H D = some o) (n : imm o = false) : MS H (upd H D u) := MS.keepO e n fun b w nb eb => by
  rw [upd_ne nb]
  exact eb
theorem MS.updL {xs : List V} (e : H D = some (.lst xs)) : MS H (upd H D u) := MS.updO e rfl
theorem MS.new (n : H D = none) : MS H (upd H D u) := MS.of (Same.new _ (Same.refl H) n)
theorem MS.sqT {K : PySem.W.Frag} {a : Addr} {xs : List V} (s : MS H H') (h : SqT K H a xs) : SqT K H' a xs := h.imp (fun r => r.imp (fun e => s _ _ e rfl) fun ⟨o, e⟩ => ⟨o, s _ _ e rfl⟩) id
end
theorem dt3 {H : Hp} {t : Addr} {a b c : Int} (h : H t = some (.tup [.int a, .int b, .int c])) : DT H (.ref t) (.tuple [.int a, .int b, .int c]) := .tup h (.cons (.int _) (.cons (.int _) (.cons (.int _) .nil)))
theorem dt3' {H : Hp} {v : V} {a b c : Int} (h : DT H v (.tuple [.int a, .int b, .int c])) : ∃ t, v = .ref t ∧ H t = some (.tup [.int a, .int b, .int c]) := by
  cases h with
  | tup e r =>
    cases r with
    | cons r1 r =>
      cases r with
      | cons r2 r =>
        cases r with
        | cons r3 r =>
          cases r
          cases r1
          cases r2
          cases r3
          exact ⟨_, rfl, e⟩
theorem dt4' {H : Hp} {v : V} {a b c d : Int} (h : DT H v (.tuple [.int a, .int b, .int c, .int d])) : ∃ t, v = .ref t ∧ H t = some (.tup [.int a, .int b, .int c, .int d]) := by
  cases h with
  | tup e r =>
    cases r with
    | cons r1 r =>
      cases r with
      | cons r2 r =>
        cases r with
        | cons r3 r =>
          cases r with
          | cons r4 r =>
            cases r
            cases r1
            cases r2
            cases r3
            cases r4
            exact ⟨_, rfl, e⟩
end Z
set_option maxHeartbeats 4000000
namespace Z
open PySem PySem.Spec PyProof.Rows L2
open Sem (wp)
open AutoSeq1 (wpAny_loadPart')
/-- how the two stand ahead of turn i -/
def EnAt (a e it : Addr) (i : Nat) (h : Heap) : Prop := (∃ old, IsEnum h e it (i : Int) old) ∧ h.IsTupleIter it a i ∧ e ≠ it
section
variable {a e it : Addr} {i : Nat} {h h' : Heap}
theorem EnAt.objs (z : EnAt a e it i h) : (∃ o, h.get? e = some o ∧ ∀ v, o.data ≠ .cell v) ∧ ∃ o, h.get? it = some o ∧ ∀ v, o.data ≠ .cell v := by
  obtain ⟨⟨old, z1⟩, ⟨o, z2, _, z3⟩, _⟩ := z
  exact ⟨⟨_, z1, fun v y => Data.noConfusion y⟩, o, z2, fun v y => Data.noConfusion (z3.symm.trans y)⟩
end
end Z
set_option maxHeartbeats 4000000
namespace Z
open PySem PySem.Spec PyProof.Rows L2
/-- the numbers of the walk that are not below 0 -/
def walk (lo c : Int) (i : Nat) : List Int := ((List.range i).map fun (j : Nat) => lo + (j : Int) * c).filter fun x => decide (0 ≤ x)
end Z
namespace Z
open PySem PySem.Spec PyProof.Rows L2
end Z
set_option maxHeartbeats 4000000
namespace K49
open PySem PySem.Spec PyProof.Rows L2 Z
theorem PenC.mono {H : Hp} {p pc : Addr} {t t' : Nat} (h : PenC H p pc t) (e : t ≤ t') : PenC H p pc t' := by
  obtain ⟨ns, a, l, h1, h2, h3, h4, h5, h6⟩ := h
  exact ⟨ns, a, l, h1, h2, h3, h4, by omega, h6⟩
theorem PenC.ne {H : Hp} {p pc a : Addr} {t : Nat} {o : HO} (h : PenC H p pc t) (e : H a = some o) (d : ∀ kvs, o ≠ .dK kvs) : a ≠ p := h.pen.ne e d
theorem PenC.ne' {H : Hp} {p pc a : Addr} {t : Nat} (h : PenC H p pc t) (e : H a = none) : p ≠ a := by
  obtain ⟨ns, x, l, h1, _⟩ := h
  exact ne_of_none h1 e
theorem PenC.lst {H H' : Hp} {p pc a : Addr} {t : Nat} {xs : List V} (h : PenC H p pc t) (k : Keep p H H') (e : H a = some (.lst xs)) : H' a = some (.lst xs) := k _ _ (h.ne e fun _ z => by cases z) e
theorem PenC.tup {H H' : Hp} {p pc a : Addr} {t : Nat} {xs : List V} (h : PenC H p pc t) (k : Keep p H H') (e : H a = some (.tup xs)) : H' a = some (.tup xs) := k _ _ (h.ne e fun _ z => by cases z) e
theorem PenC.same {H H' : Hp} {p pc : Addr} {t : Nat} (h : PenC H p pc t) (s : Same H H') : PenC H' p pc t := by
  obtain ⟨ns, a, l, h1, h2, h3⟩ := h
  exact ⟨ns, a, l, s _ _ h1, s _ _ h2, h3⟩
theorem PenC.upd {H : Hp} {p pc D : Addr} {t t' : Nat} {o : HO} (h : PenC H p pc t) (n1 : D ≠ p) (n2 : D ≠ pc) (ht : t ≤ t') : PenC (upd H D o) p pc t' := by
  obtain ⟨ns, a, l, h1, h2, h3, h4, h5, h6⟩ := h
  exact ⟨ns, a, l, by rw [upd_ne n1.symm]; exact h1, by rw [upd_ne n2.symm]; exact h2, h3, h4, by omega, h6⟩
theorem _root_.Z.DT.keepC {H H' : Hp} {v : V} {p pc : Addr} {t : Nat} {d : PyData} (h : DT H v d) (hp : PenC H p pc t) (k : Keep p H H') : DT H' v d := h.keep hp.pen k
theorem _root_.Z.DTs.keepC {H H' : Hp} {vs : List V} {p pc : Addr} {t : Nat} {ds : List PyData} (h : DTs H vs ds) (hp : PenC H p pc t) (k : Keep p H H') : DTs H' vs ds := h.keep hp.pen k
theorem _root_.Z.TSame.keepC {H H' : Hp} {p pc : Addr} {t : Nat} (h : PenC H p pc t) (k : Keep p H H') : TSame H H' := TSame.keep h.pen k
theorem ix_tupK {X : Cx} {K : PySem.W.Frag} (hK : X.K = K) : IxR X (rIxT K) := hK ▸ ix_tup
structure LwTx (K : PySem.W.Frag) (mg : Str → Option Value) : Prop extends PrTx K mg where
  list : mg "list" = none
  range : mg "range" = none
  max : mg "max" = none
  min : mg "min" = none
  sum : mg "sum" = none
  enumerate : mg "enumerate" = none
theorem LwTx.bt {K : PySem.W.Frag} {mg : Str → Option Value} (T : LwTx K mg) : Bt mg := ⟨T.int, T.len, T.list⟩
def spName : Sp := fun vs H Q _ => ∃ (p pc : Addr) (t : Nat), vs = [.ref p] ∧ t < 900000000 ∧ PenC H p pc t ∧ ∀ H' (x : Str), isName x = true → x.length ≤ 8 → PenC H' p pc (t + 9) → Keep p H H' → Q (.str x) H'
theorem mid {S1 S2 : TS} {D : Ends} {σ : L2.St} {H : Hp} (W2 : L2.St → Hp → Prop) (h1 : (∀ σ' H', W2 σ' H' → S2 D σ' H') → tSeq S1 S2 D σ H) (h2 : ∀ σ' H', W2 σ' H' → S2 D σ' H') : tSeq S1 S2 D σ H := h1 h2
theorem sz4 : 4 ≤ sizeLine := by show 4 ≤ sizeLine; decide
theorem at0 {x : V} {l : List V} : atI (x :: l) 0 = some x := atI_nat (xs := x :: l) (j := 0) rfl
theorem at1 {x y : V} {l : List V} : atI (x :: y :: l) 1 = some y := atI_nat (xs := x :: y :: l) (j := 1) rfl
theorem at2 {x y z : V} {l : List V} : atI (x :: y :: z :: l) 2 = some z := atI_nat (xs := x :: y :: z :: l) (j := 2) rfl
theorem join_nil (l : List (List Nat)) : TL.joinL [] l = l.flatten := by
  induction l with
  | nil => rfl
  | cons p l ih =>
    cases l with
    | nil => simp [TL.joinL]
    | cons q r =>
      show p ++ ([] ++ TL.joinL [] (q :: r)) = _
      rw [ih]
      rfl
theorem sz10 : 10 ≤ sizeLine := by show 10 ≤ sizeLine; decide
def keptL : List Str := ["for", "i", "n", "from", "below", "by", "down", "if", "and", "mod"]
theorem kept_same (x : Str) : x ∈ keptL ↔ x ∈ kept := by
  unfold keptL kept
  simp only [List.mem_cons, List.not_mem_nil, or_false]
  constructor
  · rintro (h | h | h | h | h | h | h | h | h | h) <;> simp [h]
  · rintro (h | h | h | h | h | h | h | h | h | h) <;> simp [h]
theorem kept_z : ∀ x ∈ keptL, isName (x ++ ("z" : Str)) = true ∧ (x ++ ("z" : Str)).length ≤ 8 := by decide +kernel
theorem lets_at : ∀ j : Nat, j < 26 → ∃ c, lets.cps.toList[j]? = some c ∧ c ∈ lets.cps.toList := by
  intro j hj
  have hl : lets.cps.toList.length = 26 := by decide +kernel
  exact ⟨_, List.getElem?_eq_getElem (by omega), List.getElem_mem _⟩
/-- a text of letters is a name, unless it is kept -/
theorem name_of {x : Str} {cs : List Nat} (e : x.cps.toList = cs) (h1 : 1 ≤ cs.length) (h8 : cs.length ≤ 8) (hl : ∀ c ∈ cs, c ∈ lets.cps.toList) (hk : x ∉ kept) : isName x = true := by
  have xl : x.length = cs.length := by
    rw [← e, Array.length_toList]
    rfl
  unfold isName
  rw [decide_eq_true (show 1 ≤ x.length ∧ x.length ≤ 8 by omega), Bool.true_and, decide_eq_true hk, Bool.and_true, e]
  exact List.all_eq_true.mpr fun c hc => decide_eq_true (hl c hc)
def sing (c : Nat) : Str := ⟨#[c]⟩
theorem join_sing (cs : List Nat) : (Txt.join ("" : Str) (cs.map sing)).cps.toList = cs := by
  have e := TL.tl_join ("" : Str) (cs.map sing)
  rw [TL.join_eq]
  have e2 : TL.tl ("" : Str) = [] := by decide +kernel
  rw [e2, join_nil, List.map_map] at e
  have e3 : (cs.map (TL.tl ∘ sing)).flatten = cs := by
    clear e e2
    induction cs with
    | nil => rfl
    | cons c cs ih =>
      rw [List.map_cons, List.flatten_cons, ih]
      rfl
  rw [e3] at e
  exact e
section
variable {P : Program} {w : World} {K : PySem.W.Frag} {mg : Str → Option Value} {base : Heap}
theorem sc_law_name : FnScope ["_law_pen_here", "_law_letters", "_law_name_here", "_law_k"] ["_law_pen_here"] (defScope s_law_name) := ⟨rfl, rfl, rfl, by decide +kernel, rfl, by decide +kernel, by decide +kernel⟩
theorem ok_name {f : Addr} {fd : FuncData} (F : FnP K "_law_name" s_law_name f fd) (T : LwTx K mg) (dDraw : Dn P w K mg base 1 "_law_draw" ["_law_pen_here", "_law_many"] spDrawC) : FnOk P w K mg base CX0 2 f fd ["_law_pen_here"] spName := by
  refine F.ok sc_law_name (fun vs H Q E h => ?_) (fun cdv A outer s H vs Q E hr h => ?_)
  · obtain ⟨p, pc, t, rfl, _⟩ := h
    rfl
  · obtain ⟨p, pc, t, rfl, ht, hP, k⟩ := h
    refine ⟨_, PSs.nox (pss_cons (ps_set (i := 1) sc_law_name.nd rfl (Or.inr rfl) pe_str)
      (pss_cons (ps_set (i := 2) sc_law_name.nd rfl (Or.inl rfl) (pe_join pe_str (pe_lc (own := [("_law_k", 3)]) (g := gName 3) (tt := tYes) rfl sc_law_name.nd (pi_range1 (by rfl) T.range (pa_cons (pe_op op_add pe_int (pe_dn dDraw hr (pa_cons (pv 0) (pa_cons pe_int pa_nil)))) pa_nil)) (blkOk_by (N := ["_law_pen_here", "_law_letters", "_law_name_here", "_law_k"]) (sc := defScope s_law_name) (by decide +kernel)) (fun _ _ _ _ _ => (pg_name (i := 3) sc_law_name.nd rfl (.inl rfl))) (fun _ _ _ _ _ => pts_nil) (fun _ _ _ _ _ => (pe_ix ix_str (pv 1) (pe_dn dDraw hr (pa_cons (pv 0) (pa_cons pe_int pa_nil))) (fun _ _ => rfl))))))
      (pss_cons (ps_if (pt_cmpR op_in_seq (pv 2) (pe_tup (pa_cons pe_str (pa_cons pe_str (pa_cons pe_str (pa_cons pe_str (pa_cons pe_str (pa_cons pe_str (pa_cons pe_str (pa_cons pe_str (pa_cons pe_str (pa_cons pe_str pa_nil))))))))))) (by with_unfolding_all rfl)) (pss_one (ps_ret (pe_op op_add_str (pv 2) pe_str))) pss_nil)
      (pss_one (ps_ret (pv 2)))))), ?_⟩
    refine ⟨⟨_, rfl⟩, ?_⟩
    refine ⟨_, rfl, p, 8, t, pc, rfl, by decide, by decide, by omega, hP, fun H1 e e0 e1 hP1 k1 => ⟨_, _, rfl, rfl, ?_⟩⟩
    obtain ⟨n, hn⟩ : ∃ n : Nat, (n : Int) = 1 + e := ⟨(1 + e).toNat, by omega⟩
    refine ⟨(n : Int), congrArg (fun z => [V.int z]) hn.symm, by omega, by omega, ?_⟩
    rw [Int.toNat_natCast]
    intro D hD
    have sD := Same.new (.lst []) (Same.refl H1) hD
    refine lc_range (lo := 0) (n := n) (fun i Hc => ∃ cs : List Nat, cs.length = i ∧ (∀ c ∈ cs, c ∈ lets.cps.toList) ∧ Hc D = some (.lst ((cs.map sing).map V.str)) ∧ PenC Hc p pc (t + 1 + i) ∧ Keep p H Hc) ⟨[], rfl, (fun _ h => by cases h), upd_same, hP1.same sD, k1.trans (Keep.of sD)⟩ ?_ ?_
    · rintro i Hc hi ⟨cs, hcs, hlet, hDc, hPc, kc⟩
      refine ⟨rfl, yes_of ?_⟩
      refine ⟨_, rfl, _, rfl, p, 26, t + 1 + i, pc, rfl, by decide, by decide, by omega, hPc, fun H2 d d0 d1 hP2 k2 => ?_⟩
      obtain ⟨j, rfl⟩ : ∃ j : Nat, d = (j : Int) := ⟨d.toNat, by omega⟩
      obtain ⟨c, hc, hcl⟩ := lets_at j (by omega)
      have hD2 := k2 _ _ (hPc.ne hDc fun _ z => by cases z) hDc
      refine ⟨lets, _, c, rfl, rfl, by decide +kernel, atI_nat hc, ?_⟩
      refine ⟨_, hD2, ?_, cs ++ [c], ?_, ?_, ?_, ?_, ?_⟩
      · rw [List.length_map, List.length_map]
        have := sz10
        omega
      · rw [List.length_append, hcs]
        rfl
      · intro x hx
        rcases List.mem_append.mp hx with z | z
        · exact hlet x z
        · rw [List.mem_singleton.mp z]
          exact hcl
      · rw [upd_same]
        simp [sing]
      · refine hP2.upd ?_ ?_ (t' := t + 1 + (i + 1)) (by omega)
        · exact fun z => (hP2.ne hD2 fun _ z => by cases z) z
        · intro z
          rw [z] at hD
          obtain ⟨o, ho⟩ := hP1.has
          rw [ho] at hD
          cases hD
      · intro b o nb e
        rw [upd_ne (ne_of_none (k1 b o nb e) hD)]
        exact k2 _ _ nb (kc b o nb e)
    · rintro Hc ⟨cs, hcs, hlet, hDc, hPc, kc⟩
      have hsum : ∀ cs : List Nat, ((cs.map sing).map (·.length)).sum = cs.length := by
        intro cs
        induction cs with
        | nil => rfl
        | cons c cs ih =>
          rw [List.map_cons, List.map_cons, List.sum_cons, ih, List.length_cons]
          show 1 + cs.length = cs.length + 1
          omega
      refine ⟨("" : Str), D, cs.map sing, rfl, rfl, .inl (SqL.of hDc), ?_, ?_⟩
      · rw [hsum, List.length_map]
        show cs.length + cs.length * 0 ≤ 16777216
        omega
      obtain ⟨x, hx⟩ : ∃ x, x = Txt.join ("" : Str) (cs.map sing) := ⟨_, rfl⟩
      rw [← hx]
      have xe : x.cps.toList = cs := by rw [hx]; exact join_sing cs
      have c1 : 1 ≤ cs.length := by omega
      have c8 : cs.length ≤ 8 := by omega
      have xl : x.length ≤ 8 := by
        have : x.length = x.cps.toList.length := (Array.length_toList).symm
        rw [this, xe]
        exact c8
      refine ⟨_, rfl, ?_⟩
      refine ⟨sz10, fun T hT => ?_⟩
      have sT := Same.new (.tup (keptL.map V.str)) (Same.refl Hc) hT
      have kT : Keep p Hc (upd Hc T (.tup (keptL.map V.str))) := Keep.of sT
      refine ⟨T, _, rfl, .inr (SqT.of (xs := keptL.map V.str) upd_same), rfl, flat_strs keptL, _, rfl, ?_⟩
      rw [inv_strs]
      by_cases hk : x ∈ keptL
      · obtain ⟨z1, z2⟩ := kept_z x hk
        exact if_yes (decide_eq_true hk) ⟨_, rfl, _, _, rfl, rfl, Nat.le_trans (Nat.add_le_add_right xl 1) (by show 9 ≤ sizeLine; decide), k _ _ z1 z2 ((hPc.same sT).mono (by omega)) (kc.trans kT)⟩
      · have hk2 : x ∉ kept := fun z => hk ((kept_same x).mpr z)
        exact if_no (decide_eq_false hk) ⟨_, rfl, k _ _ (name_of xe c1 c8 hlet hk2) xl ((hPc.same sT).mono (by omega)) (kc.trans kT)⟩
end
inductive Gd where
  | lea (a b c : Int)
  | rst (a b c m r : Int)
structure RdM where
  (x : Str) (a b c d f : Int)
structure StM where
  (x : Str) (a b c k : Int) (rds : List RdM) (gds : List Gd)
structure LpM where
  (l0 l1 l2 h0 h1 h2 S : Int) (dn : Bool) (sts : List StM)
def i3 (a b c : Int) : PyData := .tuple [.int a, .int b, .int c]
def gdD : Gd → PyData
  | .lea a b c => .tuple [.str "least", i3 a b c]
  | .rst a b c m r => .tuple [.str "rest", i3 a b c, .int m, .int r]
def rdD (r : RdM) : PyData := .tuple [.str r.x, .tuple [.int r.a, .int r.b, .int r.c, .int r.d], .int r.f]
def stD (s : StM) : PyData := .tuple [.str s.x, i3 s.a s.b s.c, .int s.k, .tuple (s.rds.map rdD), .tuple (s.gds.map gdD)]
def lpD (l : LpM) : PyData := .tuple [i3 l.l0 l.l1 l.l2, i3 l.h0 l.h1 l.h2, .int l.S, .bool l.dn, .tuple (l.sts.map stD)]
def sm3 (a b c : Int) : Prop := -2 ≤ a ∧ a ≤ 2 ∧ -1 ≤ b ∧ b ≤ 1 ∧ -3 ≤ c ∧ c ≤ 3
def GdOk : Gd → Prop
  | .lea a b c => sm3 a b c
  | .rst a b c m r => sm3 a b c ∧ 2 ≤ m ∧ m ≤ 4 ∧ 0 ≤ r ∧ r ≤ m - 1
def NmOk (x : Str) : Prop := isName x = true ∧ x.length ≤ 8 ∧ x ≠ "zzzzzzzc"
def RdOk (r : RdM) : Prop := NmOk r.x ∧ sm3 r.a r.b r.c ∧ 1 ≤ r.d ∧ r.d ≤ 3 ∧ r.f ≠ 0 ∧ -999 ≤ r.f ∧ r.f ≤ 999
def StOk (s : StM) : Prop := NmOk s.x ∧ sm3 s.a s.b s.c ∧ -9 ≤ s.k ∧ s.k ≤ 99 ∧ s.rds.length ≤ 3 ∧ s.gds.length ≤ 2 ∧ (∀ r ∈ s.rds, RdOk r) ∧ ∀ g ∈ s.gds, GdOk g
theorem gd3 {H : Hp} {t : Addr} {a b c : Int} (h : H t = some (.tup [.int a, .int b, .int c])) : DT H (.ref t) (i3 a b c) := dt3 h
def spPick : Sp := fun vs H Q _ => ∃ (p pc l : Addr) (xs : List V) (t : Nat), vs = [.ref p, .ref l] ∧ H l = some (.lst xs) ∧ 0 < xs.length ∧ xs.length < 100 ∧ t < 1000000000 ∧ PenC H p pc t ∧ ∀ H' x, x ∈ xs → PenC H' p pc (t + 1) → Keep p H H' → Q x H'
section
variable {P : Program} {w : World} {K : PySem.W.Frag} {mg : Str → Option Value} {base : Heap}
theorem sc_law_pick : FnScope ["_law_pen_here", "_law_some"] ["_law_pen_here", "_law_some"] (defScope s_law_pick) := ⟨rfl, rfl, rfl, by decide +kernel, rfl, by decide +kernel, by decide +kernel⟩
theorem ok_pick {f : Addr} {fd : FuncData} (F : FnP K "_law_pick" s_law_pick f fd) (T : LwTx K mg) (dDraw : Dn P w K mg base 1 "_law_draw" ["_law_pen_here", "_law_many"] spDrawC) : FnOk P w K mg base CX0 2 f fd ["_law_pen_here", "_law_some"] spPick := by
  refine F.ok sc_law_pick (fun vs H Q E h => ?_) (fun cdv A outer s H vs Q E hr h => ?_)
  · obtain ⟨p, pc, l, xs, t, rfl, _⟩ := h
    rfl
  · obtain ⟨p, pc, l, xs, t, rfl, hl, h0, h1, ht, hP, k⟩ := h
    refine ⟨_, PSs.nox (pss_one (ps_ret (pe_ix ix_list (pv 1) (pe_dn dDraw hr (pa_cons (pv 0) (pa_cons (pe_callB call_len_seq (by rfl) T.len PySem.boot_len (pa_cons (pv 1) pa_nil)) pa_nil))) (fun _ _ => rfl)))), ?_⟩
    refine ⟨_, rfl, _, rfl, _, rfl, l, _, rfl, .inl (SqL.of hl), ?_⟩
    refine ⟨p, _, t, pc, rfl, by omega, by omega, ht, hP, fun H' d d0 d1 hP' kp => ?_⟩
    obtain ⟨j, rfl⟩ : ∃ j : Nat, d = (j : Int) := ⟨d.toNat, by omega⟩
    have hj : j < xs.length := by omega
    have hl' : H' l = some (.lst xs) := kp _ _ (hP.ne hl fun _ z => lst_ne_dK z) hl
    refine ⟨l, _, _, _, rfl, rfl, SqL.of hl', atI_nat (List.getElem?_eq_getElem hj), ?_⟩
    exact k _ _ (List.getElem_mem _) hP' kp
theorem sz3 : 3 ≤ sizeLine := by show 3 ≤ sizeLine; decide
theorem sz2 : 2 ≤ sizeLine := by show 2 ≤ sizeLine; decide
end
end K49
set_option maxHeartbeats 4000000
namespace K49
open PySem PySem.Spec PyProof.Rows L2 Z
theorem last_no : ∀ w ∈ (("zzzzzzzc" : Str) :: kept), ∀ c ∈ ([97, 98, 122, 107] : List Nat), w.cps.toList.getLast? ≠ some c := by decide +kernel
theorem four_lets : ∀ c ∈ ([97, 98, 122, 107] : List Nat), c ∈ lets.cps.toList := by decide +kernel
theorem nm_of {x : Str} (hx : ∀ c ∈ x.cps.toList, c ∈ lets.cps.toList) (hl : x.length ≤ 7) {c : Nat} (hc : c ∈ ([97, 98, 122, 107] : List Nat)) : NmOk (x ++ sing c) := by
  have e : (x ++ sing c).cps.toList = x.cps.toList ++ [c] := TL.tl_append x (sing c)
  have lx : x.cps.toList.length = x.length := Array.length_toList
  have lst : (x ++ sing c).cps.toList.getLast? = some c := by rw [e]; simp
  have len : (x ++ sing c).length = x.length + 1 := by
    have : (x ++ sing c).length = (x ++ sing c).cps.toList.length := Array.length_toList.symm
    rw [this, e, List.length_append, lx]
    rfl
  refine ⟨name_of e ?_ ?_ ?_ ?_, by omega, fun z => last_no _ (List.mem_cons_self ..) c hc (by rw [← z]; exact lst)⟩
  · rw [List.length_append]
    exact Nat.le_add_left _ _
  · rw [List.length_append, lx]
    show x.length + 1 ≤ 8
    omega
  · intro d hd
    rcases List.mem_append.mp hd with z | z
    · exact hx d z
    · rw [List.mem_singleton.mp z]
      exact four_lets c hc
  · intro z
    exact last_no _ (List.mem_cons_of_mem _ z) c hc lst
theorem isName_let {x : Str} (h : isName x = true) : ∀ c ∈ x.cps.toList, c ∈ lets.cps.toList := by
  unfold isName at h
  intro c hc
  have h1 := (Bool.and_eq_true_iff.mp (Bool.and_eq_true_iff.mp h).2).1
  exact of_decide_eq_true (List.all_eq_true.mp h1 c hc)
theorem cut_mem {z : Str} {lo hi : Option Int} {c : Nat} (h : c ∈ (cutS z lo hi).cps.toList) : c ∈ z.cps.toList := by
  unfold cutS at h
  exact List.mem_of_mem_drop (List.mem_of_mem_take h)
theorem cut7 (z : Str) : (cutS z none (some 7)).length ≤ 7 := by
  have : (cutS z none (some 7)).length = (cutS z none (some 7)).cps.toList.length := Array.length_toList.symm
  rw [this]
  unfold cutS
  show ((z.cps.toList.drop _).take _).length ≤ 7
  rw [List.length_take]
  have e := HT.sIx_nat z.length z.length 7
  rw [show ((7 : Nat) : Int) = 7 from rfl] at e
  rw [e]
  omega
theorem cut_bzk {m : Int} (h0 : 0 ≤ m) (h1 : m ≤ 2) : (cutS "bzk" none (some m)).cps.size ≤ 2 := by
  obtain rfl | rfl | rfl : m = 0 ∨ m = 1 ∨ m = 2 := by omega
  all_goals decide +kernel
theorem bzk_mem : ∀ c ∈ ("bzk" : Str).cps.toList, c ∈ ([97, 98, 122, 107] : List Nat) := by decide +kernel
def spNames : Sp := fun vs H Q _ => ∃ (p pc : Addr) (m : Int) (t : Nat), vs = [.ref p, .int m] ∧ 1 ≤ m ∧ m ≤ 3 ∧ t < 800000000 ∧ PenC H p pc t ∧ ∀ H' l (xs : List Str), H' l = some (.lst (xs.map V.str)) → 1 ≤ xs.length → xs.length ≤ 3 → (∀ x ∈ xs, NmOk x) → PenC H' p pc (t + 9) → Keep p H H' → Q (.ref l) H'
section
variable {P : Program} {w : World} {K : PySem.W.Frag} {mg : Str → Option Value} {base : Heap}
theorem sc_law_names : FnScope ["_law_pen_here", "_law_many", "_law_first", "_law_found", "_law_letter"] ["_law_pen_here", "_law_many"] (defScope s_law_names) := ⟨rfl, rfl, rfl, by decide +kernel, rfl, by decide +kernel, by decide +kernel⟩
theorem ok_names {f : Addr} {fd : FuncData} (F : FnP K "_law_names" s_law_names f fd) (T : LwTx K mg) (dName : Dn P w K mg base 2 "_law_name" ["_law_pen_here"] spName) : FnOk P w K mg base CX0 3 f fd ["_law_pen_here", "_law_many"] spNames := by
  refine F.ok sc_law_names (fun vs H Q E h => ?_) (fun cdv A outer s H vs Q E hr h => ?_)
  · obtain ⟨p, pc, m, t, rfl, _⟩ := h
    rfl
  · obtain ⟨p, pc, m, t, rfl, m1, m3, ht, hP, k⟩ := h
    refine ⟨_, PSs.nox (pss_cons (ps_set (i := 2) sc_law_names.nd rfl (Or.inl rfl) (pe_slice sl_str (pe_dn dName hr (pa_cons (pv 0) pa_nil)) po_none (po_some pe_int)))
      (pss_cons (ps_set (i := 3) sc_law_names.nd rfl (Or.inl rfl) (pe_lst (pa_cons (pe_op op_add_str (pv 2) pe_str) pa_nil)))
      (pss_cons (ps_for PassesOwn.never rfl (pi_str (pe_slice sl_str pe_str po_none (po_some (pe_op op_sub (pv 1) pe_int)))) (pg_name (i := 4) sc_law_names.nd rfl (.inl rfl)) (pss_one (ps_expr (pe_bm PySem.F.plainAttrs_list PySem.F.slot_list_append PySem.F.type_list_append mt_append (pv 3) (pa_cons (pe_op op_add_str (pv 2) (pv 4)) pa_nil)))))
      (pss_one (ps_ret (pv 3)))))), ?_⟩
    refine ⟨_, rfl, p, pc, t, rfl, by omega, hP, fun H1 x hx hl hP1 k1 => ?_⟩
    refine ⟨_, rfl, x, rfl, Nat.le_trans hl (by show 8 ≤ sizeLine; decide), ?_⟩
    obtain ⟨y, ey⟩ : ∃ y, y = cutS x none (some 7) := ⟨_, rfl⟩
    rw [← ey]
    have hy : ∀ c ∈ y.cps.toList, c ∈ lets.cps.toList := fun c hc => isName_let hx c (cut_mem (by rw [← ey]; exact hc))
    have ly : y.length ≤ 7 := by rw [ey]; exact cut7 x
    refine normG (σ' := [some (.ref p), some (.int m), some (.str y), none, none]) rfl ?_
    have szy : y.length + 1 ≤ sizeLine := Nat.le_trans (Nat.add_le_add_right ly 1) (by show 8 ≤ sizeLine; decide)
    refine ⟨_, rfl, _, _, rfl, rfl, szy, (by show 1 ≤ sizeLine; decide), fun l hl => ?_⟩
    have s2 := Same.new (.lst [.str (y ++ ("a" : Str))]) (Same.refl H1) hl
    have hP2 := hP1.same s2
    refine normG (σ' := [some (.ref p), some (.int m), some (.str y), some (.ref l), none]) rfl ?_
    refine ⟨_, rfl, _, _, rfl, rfl, _, rfl, ("bzk" : Str), rfl, (by decide +kernel), _, rfl, ?_⟩
    obtain ⟨z, ez⟩ : ∃ z, z = cutS "bzk" none (some (m - 1)) := ⟨_, rfl⟩
    rw [← ez]
    have z2 : z.cps.size ≤ 2 := by rw [ez]; exact cut_bzk (by omega) (by omega)
    refine for_it walk_str (fun i σ H' => ∃ (v : Option V) (xs : List Str), σ = [some (.ref p), some (.int m), some (.str y), some (.ref l), v] ∧ H' l = some (.lst (xs.map V.str)) ∧ xs.length = i + 1 ∧ (∀ x ∈ xs, NmOk x) ∧ Same H1 H') ?_ (fun _ _ _ _ _ => trivial) ?_ ?_
    · exact ⟨none, [y ++ ("a" : Str)], rfl, upd_same, rfl, fun x hx => by rw [List.mem_singleton.mp hx]; exact nm_of hy ly (c := 97) (by simp), s2⟩
    · rintro i v σ H2 H3 hi ⟨v4, xs, rfl, hl2, hx2, nx, s3⟩ ⟨rfl, c, hc, rfl⟩
      have hcm : c ∈ z.cps.toList := by
        have : z.cps.toList[i]? = some c := by rw [Array.getElem?_toList]; exact hc
        exact List.mem_of_getElem? this
      have hc4 : c ∈ ([97, 98, 122, 107] : List Nat) := bzk_mem c (cut_mem (by rw [← ez]; exact hcm))
      refine normG (σ' := [some (.ref p), some (.int m), some (.str y), some (.ref l), some (.str (sing c))]) rfl ?_
      refine ⟨_, rfl, .inl ⟨rfl, _, SqL.of hl2⟩, _, rfl, _, rfl, _, _, rfl, rfl, szy, ?_⟩
      refine ⟨_, _, _, rfl, rfl, hl2, ?_, _, xs ++ [y ++ sing c], rfl, ?_, ?_, ?_, ?_⟩
      · rw [List.length_map]
        have : 1000 ≤ sizeLine := by show 1000 ≤ sizeLine; decide
        omega
      · rw [upd_same, List.map_append]
        rfl
      · rw [List.length_append, hx2]
        rfl
      · intro x hx
        rcases List.mem_append.mp hx with q | q
        · exact nx x q
        · rw [List.mem_singleton.mp q]
          exact nm_of hy ly hc4
      · intro b o e
        rw [upd_ne (ne_of_none e hl)]
        exact s3 b o e
    · rintro σ H2 ⟨v4, xs, rfl, hl2, hx2, nx, s3⟩
      exact ⟨_, rfl, k _ _ _ hl2 (by omega) (by omega) nx (hP1.same s3) (k1.trans (Keep.of s3))⟩
end
theorem sz1 : 1 ≤ sizeLine := by show 1 ≤ sizeLine; decide
theorem sz5 : 5 ≤ sizeLine := by show 5 ≤ sizeLine; decide
theorem sz7 : 7 ≤ sizeLine := by show 7 ≤ sizeLine; decide
theorem sz1l (n : Nat) (h : n < 1000) : n < sizeLine := Nat.lt_of_lt_of_le h sz1000
/-- a number drawn is a place in a list of so many -/
theorem drawn {d : Int} {n : Nat} (h0 : 0 ≤ d) (h1 : d < (n : Int)) : ∃ j : Nat, d = (j : Int) ∧ j < n := ⟨d.toNat, by omega, by omega⟩
end K49
set_option maxHeartbeats 4000000
set_option maxHeartbeats 4000000
namespace K49
open PySem PySem.Spec PyProof.Rows L2 Z
section
variable {α : Type} {R R' : V → α → Prop} {vs : List V} {ms : List α} {v : V} {m : α}
def Fa (R : V → α → Prop) (vs : List V) (ms : List α) : Prop := vs.length = ms.length ∧ ∀ (i : Nat) (v : V) (m : α), vs[i]? = some v → ms[i]? = some m → R v m
theorem Fa.nil : Fa R [] [] := ⟨rfl, fun i v m h => by cases h⟩
theorem Fa.imp (h : Fa R vs ms) (k : ∀ v m, R v m → R' v m) : Fa R' vs ms := ⟨h.1, fun i v m a b => k v m (h.2 i v m a b)⟩
theorem Fa.at (h : Fa R vs ms) {i : Nat} (e : vs[i]? = some v) : ∃ m, ms[i]? = some m ∧ R v m := by
  obtain ⟨m, hm⟩ := zip_at h.1 e
  exact ⟨m, hm, h.2 i v m e hm⟩
theorem Fa.at' (h : Fa R vs ms) {i : Nat} (e : ms[i]? = some m) : ∃ v, vs[i]? = some v ∧ R v m := by
  have hi : i < ms.length := (List.getElem?_eq_some_iff.mp e).1
  have e2 := List.getElem?_eq_getElem (l := vs) (i := i) (by rw [h.1]; exact hi)
  exact ⟨_, e2, h.2 i _ m e2 e⟩
theorem Fa.snoc (h : Fa R vs ms) (k : R v m) : Fa R (vs ++ [v]) (ms ++ [m]) := by
  refine ⟨by rw [List.length_append, List.length_append, h.1]; rfl, fun i v' m' a b => ?_⟩
  by_cases hi : i < vs.length
  · rw [List.getElem?_append_left hi] at a
    rw [List.getElem?_append_left (by rw [← h.1]; exact hi)] at b
    exact h.2 i v' m' a b
  · have hl : i < (vs ++ [v]).length := (List.getElem?_eq_some_iff.mp a).1
    rw [List.length_append, List.length_singleton] at hl
    have e : i = vs.length := by omega
    subst e
    rw [List.getElem?_append_right (Nat.le_refl _), Nat.sub_self] at a
    rw [h.1, List.getElem?_append_right (Nat.le_refl _), Nat.sub_self] at b
    cases a
    cases b
    exact k
end
section
variable (K : PySem.W.Frag)
def GdOb (H : Hp) (v : V) : Gd → Prop
  | .lea a b c => ∃ p, v = .ref p ∧ AtlAt K H p (a.fdiv (g2 a b)) (b.fdiv (g2 a b)) (lf3 a b c)
  | .rst a b c m r => ∃ p, v = .ref p ∧ RstAt K H p (a.fmod m) (b.fmod m) m ((r - c).fmod m)
def RdOb (H : Hp) (v : V) (r : RdM) : Prop := ∃ p a b c d, v = .ref p ∧ RdAt K H p r.x a b c d r.f ∧ -12 ≤ a ∧ a ≤ 12 ∧ -12 ≤ b ∧ b ≤ 12 ∧ 1 ≤ d ∧ d ≤ 3 ∧ ∀ i n : Int, (a * i + b * n + c).fdiv d = (r.a * i + r.b * n + r.c).fdiv r.d
def StOb (H : Hp) (v : V) (s : StM) : Prop := ∃ p rs cs, v = .ref p ∧ StmAt K H p s.x s.a s.b s.c s.k rs cs ∧ Fa (RdOb K H) rs s.rds ∧ Fa (GdOb K H) cs s.gds
def RgF (t : P4) (a c d : Int) : Prop := t.1 = 0 ∧ 0 ≤ t.2.1 ∧ t.2.1 ≤ 3 ∧ -999 ≤ t.2.2.1 ∧ t.2.2.1 ≤ 999 ∧ 1 ≤ t.2.2.2 ∧ t.2.2.2 ≤ 3 ∧ ∀ n : Int, (t.2.1 * n + t.2.2.1).fdiv t.2.2.2 = (a * n + c).fdiv d
def LpOb (H : Hp) (v : V) (l : LpM) : Prop := ∃ p t u xs, v = .ref p ∧ LpAt K H p t u l.S l.dn xs ∧ RgF t l.l0 l.l1 l.l2 ∧ RgF u l.h0 l.h1 l.h2 ∧ Fa (StOb K H) xs l.sts
def PrOb (H : Hp) (v : V) (ls : List LpM) : Prop := ∃ p xs ys, v = .ref p ∧ PrAt K H p xs ys ∧ Fa (LpOb K H) xs ls
end
section
variable {K : PySem.W.Frag} {H H' : Hp} {v : V}
theorem ms_str {q : Addr} {a b c : Int} (s : MS H H') (h : StrAt K H q a b c) : StrAt K H' q a b c := by
  obtain ⟨dx, h⟩ := h
  exact ⟨dx, s _ _ h rfl⟩
theorem ms_plc {q : Addr} {a b c d : Int} (s : MS H H') (h : PlcAt K H q a b c d) : PlcAt K H' q a b c d := by
  obtain ⟨dx, q, h, h2⟩ := h
  exact ⟨dx, q, s _ _ h rfl, ms_str s h2⟩
theorem GdOb.ms {g : Gd} (h : GdOb K H v g) (s : MS H H') : GdOb K H' v g := by
  cases g with
  | lea a b c =>
    obtain ⟨p, e, dx, q, h1, h2⟩ := h
    exact ⟨p, e, dx, q, s _ _ h1 rfl, ms_str s h2⟩
  | rst a b c m r =>
    obtain ⟨p, e, dx, q, h1, h2⟩ := h
    exact ⟨p, e, dx, q, s _ _ h1 rfl, ms_str s h2⟩
theorem RdOb.ms {r : RdM} (h : RdOb K H v r) (s : MS H H') : RdOb K H' v r := by
  obtain ⟨p, a, b, c, d, e, ⟨dx, q, h1, h2⟩, k⟩ := h
  exact ⟨p, a, b, c, d, e, ⟨dx, q, s _ _ h1 rfl, ms_plc s h2⟩, k⟩
theorem StOb.ms {m : StM} (h : StOb K H v m) (s : MS H H') : StOb K H' v m := by
  obtain ⟨p, rs, cs, e, ⟨dx, q, r, g, h1, h2, h3, h4⟩, h5, h6⟩ := h
  exact ⟨p, rs, cs, e, ⟨dx, q, r, g, s _ _ h1 rfl, ms_str s h2, s.sqT h3, s.sqT h4⟩, h5.imp fun _ _ z => z.ms s, h6.imp fun _ _ z => z.ms s⟩
theorem LpOb.ms {l : LpM} (h : LpOb K H v l) (s : MS H H') : LpOb K H' v l := by
  obtain ⟨p, t, u, xs, e, ⟨dx, lo, hi, st, h1, h2, h3, h4⟩, h5, h6, h7⟩ := h
  exact ⟨p, t, u, xs, e, ⟨dx, lo, hi, st, s _ _ h1 rfl, ms_plc s h2, ms_plc s h3, s.sqT h4⟩, h5, h6, h7.imp fun _ _ z => z.ms s⟩
theorem PrOb.ms {ls : List LpM} (h : PrOb K H v ls) (s : MS H H') : PrOb K H' v ls := by
  obtain ⟨p, xs, ys, e, ⟨dx, l, a, d, h1, h2, h3⟩, h4⟩ := h
  exact ⟨p, xs, ys, e, ⟨dx, l, a, d, s _ _ h1 rfl, s.sqT h2, s.sqT h3⟩, h4.imp fun _ _ z => z.ms s⟩
theorem GdOb.same {g : Gd} (h : GdOb K H v g) (s : Same H H') : GdOb K H' v g := h.ms (.of s)
theorem RdOb.same {r : RdM} (h : RdOb K H v r) (s : Same H H') : RdOb K H' v r := h.ms (.of s)
theorem StOb.same {m : StM} (h : StOb K H v m) (s : Same H H') : StOb K H' v m := h.ms (.of s)
theorem LpOb.same {l : LpM} (h : LpOb K H v l) (s : Same H H') : LpOb K H' v l := h.ms (.of s)
theorem PrOb.same {ls : List LpM} (h : PrOb K H v ls) (s : Same H H') : PrOb K H' v ls := h.ms (.of s)
theorem pe_RK {X : Cx} {K : PySem.W.Frag} {e : Expr} {es : List Expr} {t : TA} {p pos : Pos} {k : Nat} {E : L2.St → XK} (hK : X.K = K) (T : AtTx K X.mg) (M : MkR X.prog X.w K X.mg X.base) (hr : Room k X.A) (hx : ∀ σ, PassesAt (L2.CX X.prog X.w) X σ (E σ)) (ha : PA X (e :: es) t) (hk : 5 ≤ k := by decide) (hg : Gl X "Rest" := by rfl)
    (he : starEach (e :: es) X.env = (false, eval e X.env) :: starEach es X.env := by rfl) (hpl : (backTo pos (starEach es X.env)).any (·.1) = false := by rfl) :
    PE X (.Call (.Name "Rest" p) (e :: es) [] pos) (fun σ H Q => t σ H fun vs H1 => ∃ v m r, vs = [v, .int m, .int r] ∧ rRst K v m r H1 (fun a b c => NewR K H1 (a.fmod m) (b.fmod m) m ((r - c).fmod m) Q) (E σ)) := by
  subst hK
  exact pe_R T M hr hx ha hk hg he hpl
end
theorem at3 {x y z u : V} {l : List V} : atI (x :: y :: z :: u :: l) 3 = some u := atI_nat (xs := x :: y :: z :: u :: l) (j := 3) rfl
theorem at4 {x y z u v : V} {l : List V} : atI (x :: y :: z :: u :: v :: l) 4 = some v := atI_nat (xs := x :: y :: z :: u :: v :: l) (j := 4) rfl
def spSum (K : PySem.W.Frag) : Sp := fun vs H Q _ => ∃ (q : Addr) (a b c : Int) (rest : List V), vs = [.ref q] ∧ H q = some (.tup (.int a :: .int b :: .int c :: rest)) ∧ ∀ r H', Same H H' → StrAt K H' r a b c → Q (.ref r) H'
section
variable {P : Program} {w : World} {K : PySem.W.Frag} {mg : Str → Option Value} {base : Heap}
theorem sc_law_sum : FnScope ["_law_row"] ["_law_row"] (defScope s_law_sum) := ⟨rfl, rfl, rfl, by decide +kernel, rfl, by decide +kernel, by decide +kernel⟩
theorem ok_lsum {f : Addr} {fd : FuncData} (F : FnP K "_law_sum" s_law_sum f fd) (T : LwTx K mg) (M : MkS P w K mg base) : FnOk P w K mg base CX0 3 f fd ["_law_row"] (spSum K) := by
  refine F.ok sc_law_sum (fun vs H Q E h => ?_) (fun cdv A outer s H vs Q E hr h => ?_)
  · obtain ⟨q, a, b, c, rest, rfl, _⟩ := h
    rfl
  · obtain ⟨q, a, b, c, rest, rfl, hq, k⟩ := h
    refine ⟨_, PSs.nox (pss_one (ps_ret (pe_SK (K := K) rfl T.toStTx M hr (pa_cons (pe_ix (ix_tupK (K := K) rfl) (pv 0) pe_int (fun _ _ => rfl)) (pa_cons (pe_ix (ix_tupK (K := K) rfl) (pv 0) pe_int (fun _ _ => rfl)) (pa_cons (pe_ix (ix_tupK (K := K) rfl) (pv 0) pe_int (fun _ _ => rfl)) pa_nil)))))), ?_⟩
    refine ⟨_, rfl, q, _, _, _, rfl, rfl, SqT.of hq, at0, _, rfl, q, _, _, _, rfl, rfl, SqT.of hq, at1, _, rfl, q, _, _, _, rfl, rfl, SqT.of hq, at2, a, b, c, rfl, fun r H' s _ hr => k r H' s hr⟩
theorem sc_law_made_guard : FnScope ["_law_guard"] ["_law_guard"] (defScope s_law_made_guard) := ⟨rfl, rfl, rfl, by decide +kernel, rfl, by decide +kernel, by decide +kernel⟩
end
end K49
set_option maxHeartbeats 4000000
namespace K49
open PySem PySem.Spec PyProof.Rows L2 Z
def spTPlace : Sp := fun vs H Q _ => ∃ (p pc : Addr) (t : Nat), vs = [.ref p] ∧ t < 900000000 ∧ PenC H p pc t ∧ ∀ H' u a b c, -1 ≤ a → a ≤ 2 → 0 ≤ b → b ≤ 1 → -1 ≤ c → c ≤ 2 → H' u = some (.tup [.int a, .int b, .int c, .int 1]) → PenC H' p pc (t + 3) → Keep p H H' → Q (.ref u) H'
theorem if_w3 {b : Bool} {A : Prop} {j : Int} {σ : L2.St} {H : Hp} {Q : VK} (W : Int → Hp → Prop) (h1 : b = true → W j H) (h2 : b = false → (∀ v H', W v H' → Q (.int v) H') → A) (h3 : ∀ v H', W v H' → Q (.int v) H') : if b = true then tC (.int j) σ H Q else A := by
  cases b
  · exact h2 rfl h3
  · exact h3 _ _ (h1 rfl)
theorem seven : ∀ (j : Nat) (v : V), ([.int 1, .int 1, .int 1, .int 1, .int 2, .int 0, .int (-1)] : List V)[j]? = some v → ∃ d : Int, v = .int d ∧ -1 ≤ d ∧ d ≤ 2 := by
  intro j v h
  match j, h with
  | 0, h => exact ⟨_, (Option.some.inj h).symm, by decide, by decide⟩
  | 1, h => exact ⟨_, (Option.some.inj h).symm, by decide, by decide⟩
  | 2, h => exact ⟨_, (Option.some.inj h).symm, by decide, by decide⟩
  | 3, h => exact ⟨_, (Option.some.inj h).symm, by decide, by decide⟩
  | 4, h => exact ⟨_, (Option.some.inj h).symm, by decide, by decide⟩
  | 5, h => exact ⟨_, (Option.some.inj h).symm, by decide, by decide⟩
  | 6, h => exact ⟨_, (Option.some.inj h).symm, by decide, by decide⟩
  | j + 7, h => cases h
theorem four01 : ∀ (j : Nat) (v : V), ([.int 0, .int 0, .int 0, .int 1] : List V)[j]? = some v → ∃ d : Int, v = .int d ∧ 0 ≤ d ∧ d ≤ 1 := by
  intro j v h
  match j, h with
  | 0, h => exact ⟨_, (Option.some.inj h).symm, by decide, by decide⟩
  | 1, h => exact ⟨_, (Option.some.inj h).symm, by decide, by decide⟩
  | 2, h => exact ⟨_, (Option.some.inj h).symm, by decide, by decide⟩
  | 3, h => exact ⟨_, (Option.some.inj h).symm, by decide, by decide⟩
  | j + 4, h => cases h
theorem fiveF : ∀ (j : Nat) (v : V), ([.int 1, .int 1, .int 2, .int (-1), .int 3] : List V)[j]? = some v → ∃ d : Int, v = .int d ∧ d ≠ 0 ∧ -999 ≤ d ∧ d ≤ 999 := by
  intro j v h
  match j, h with
  | 0, h => exact ⟨_, (Option.some.inj h).symm, by decide, by decide, by decide⟩
  | 1, h => exact ⟨_, (Option.some.inj h).symm, by decide, by decide, by decide⟩
  | 2, h => exact ⟨_, (Option.some.inj h).symm, by decide, by decide, by decide⟩
  | 3, h => exact ⟨_, (Option.some.inj h).symm, by decide, by decide, by decide⟩
  | 4, h => exact ⟨_, (Option.some.inj h).symm, by decide, by decide, by decide⟩
  | j + 5, h => cases h
section
variable {P : Program} {w : World} {K : PySem.W.Frag} {mg : Str → Option Value} {base : Heap}
theorem sc_law_tight_place : FnScope ["_law_pen_here", "_law_a", "_law_b"] ["_law_pen_here"] (defScope s_law_tight_place) := ⟨rfl, rfl, rfl, by decide +kernel, rfl, by decide +kernel, by decide +kernel⟩
theorem ok_tplace {f : Addr} {fd : FuncData} (F : FnP K "_law_tight_place" s_law_tight_place f fd) (T : LwTx K mg) (dDraw : Dn P w K mg base 1 "_law_draw" ["_law_pen_here", "_law_many"] spDrawC) : FnOk P w K mg base CX0 2 f fd ["_law_pen_here"] spTPlace := by
  refine F.ok sc_law_tight_place (fun vs H Q E h => ?_) (fun cdv A outer s H vs Q E hr h => ?_)
  · obtain ⟨p, pc, t, rfl, _⟩ := h
    rfl
  · obtain ⟨p, pc, t, rfl, ht, hP, k⟩ := h
    refine ⟨_, PSs.nox (pss_cons (ps_set (i := 1) sc_law_tight_place.nd rfl (Or.inl rfl) (pe_ix ix_list (pe_lst (pa_cons pe_int (pa_cons pe_int (pa_cons pe_int (pa_cons pe_int (pa_cons pe_int (pa_cons pe_int (pa_cons (pe_un un_neg pe_int) pa_nil)))))))) (pe_dn dDraw hr (pa_cons (pv 0) (pa_cons pe_int pa_nil))) (fun _ _ => rfl)))
      (pss_cons (ps_set (i := 2) sc_law_tight_place.nd rfl (Or.inl rfl) (pe_ifExp (pt_cmpR op_lt (pv 1) pe_int (nomark _)) pe_int (pe_ix ix_list (pe_lst (pa_cons pe_int (pa_cons pe_int (pa_cons pe_int (pa_cons pe_int pa_nil))))) (pe_dn dDraw hr (pa_cons (pv 0) (pa_cons pe_int pa_nil))) (fun _ _ => rfl))))
      (pss_one (ps_ret (pe_tup (pa_cons (pv 1) (pa_cons (pv 2) (pa_cons (pe_op op_sub (pe_dn dDraw hr (pa_cons (pv 0) (pa_cons pe_int pa_nil))) pe_int) (pa_cons pe_int pa_nil))))))))), ?_⟩
    refine ⟨_, rfl, sz7, fun W1 hW1 => ?_⟩
    have sA := Same.new (.lst [.int 1, .int 1, .int 1, .int 1, .int 2, .int 0, .int (-1)]) (Same.refl H) hW1
    refine ⟨_, rfl, p, 7, t, pc, rfl, by decide, by decide, by omega, hP.same sA, fun H1 d d0 d1 hP1 k1 => ?_⟩
    obtain ⟨j, rfl, hj⟩ := drawn (n := 7) d0 d1
    obtain ⟨v, hv⟩ : ∃ v, ([.int 1, .int 1, .int 1, .int 1, .int 2, .int 0, .int (-1)] : List V)[j]? = some v := ⟨_, List.getElem?_eq_getElem hj⟩
    obtain ⟨a, rfl, a0, a1⟩ := seven j v hv
    refine ⟨W1, _, _, _, rfl, rfl, SqL.of ((hP.same sA).lst k1 upd_same), atI_nat hv, ?_⟩
    refine normG (σ' := [some (.ref p), some (.int a), none]) rfl ?_
    have kA : Keep p H H1 := (Keep.of sA).trans k1
    refine ⟨_, rfl, _, _, rfl, rfl, _, rfl, ?_⟩
    refine if_w3 (fun b H' => 0 ≤ b ∧ b ≤ 1 ∧ PenC H' p pc (t + 2) ∧ Keep p H H') (fun _ => ⟨by decide, by decide, hP1.mono (by omega), kA⟩) (fun _ key => ?_) (fun b H2 hd => ?_)
    · refine ⟨sz4, fun W2 hW2 => ?_⟩
      have sW := Same.new (.lst [.int 0, .int 0, .int 0, .int 1]) (Same.refl H1) hW2
      refine ⟨_, rfl, p, 4, t + 1, pc, rfl, by decide, by decide, by omega, hP1.same sW, fun H2 d d0 d1 hP2 k2 => ?_⟩
      obtain ⟨j, rfl, hj⟩ := drawn (n := 4) d0 d1
      obtain ⟨v, hv⟩ : ∃ v, ([.int 0, .int 0, .int 0, .int 1] : List V)[j]? = some v := ⟨_, List.getElem?_eq_getElem hj⟩
      obtain ⟨d, rfl, e1, e2⟩ := four01 j v hv
      exact ⟨W2, _, _, _, rfl, rfl, SqL.of ((hP1.same sW).lst k2 upd_same), atI_nat hv, key _ _ ⟨e1, e2, hP2.mono (by omega), kA.trans ((Keep.of sW).trans k2)⟩⟩
    obtain ⟨b0, b1, hP2, k2⟩ := hd
    refine normG (σ' := [some (.ref p), some (.int a), some (.int b)]) rfl ?_
    refine ⟨_, rfl, _, rfl, _, rfl, p, 4, t + 2, pc, rfl, by decide, by decide, by omega, hP2, fun H3 c c0 c1 hP3 k3 => ⟨_, _, rfl, rfl, sz4, fun U hU => ?_⟩⟩
    have sU := Same.new (.tup [.int a, .int b, .int (c - 1), .int 1]) (Same.refl H3) hU
    exact k _ U a b (c - 1) a0 a1 b0 b1 (by omega) (by omega) upd_same ((hP3.same sU).mono (by omega)) (k2.trans (k3.trans (Keep.of sU)))
end
end K49
set_option maxHeartbeats 4000000
namespace K49
open PySem PySem.Spec PyProof.Rows L2 Z
theorem cut3 {a b c d : V} : ¬ (HT.sIx [a, b, c, d].length 0 none = 0 ∧ HT.sIx [a, b, c, d].length [a, b, c, d].length (some 3) = [a, b, c, d].length) := fun z => absurd z.2 (show ¬ HT.sIx 4 4 (some 3) = 4 by decide)
def spTStm : Sp := fun vs H Q _ => ∃ (p pc l : Addr) (xs : List Str) (t : Nat), vs = [.ref p, .ref l] ∧ H l = some (.lst (xs.map V.str)) ∧ 1 ≤ xs.length ∧ xs.length ≤ 4 ∧ (∀ x ∈ xs, NmOk x) ∧ t < 800000000 ∧ PenC H p pc t ∧
  ∀ H' v s, StOk s → DT H' v (stD s) → PenC H' p pc (t + 40) → Keep p H H' → Q v H'
section
variable {P : Program} {w : World} {K : PySem.W.Frag} {mg : Str → Option Value} {base : Heap}
theorem sc_law_tight_statement : FnScope ["_law_pen_here", "_law_names_here", "_law_array", "_law_cell", "_law_read", "_law_guards", "_law_turn", "_law_place", "_law_rest"] ["_law_pen_here", "_law_names_here"] (defScope s_law_tight_statement) := ⟨rfl, rfl, rfl, by decide +kernel, rfl, by decide +kernel, by decide +kernel⟩
theorem ok_tstm {f : Addr} {fd : FuncData} (F : FnP K "_law_tight_statement" s_law_tight_statement f fd) (T : LwTx K mg) (dDraw : Dn P w K mg base 1 "_law_draw" ["_law_pen_here", "_law_many"] spDrawC)
    (dPick : Dn P w K mg base 2 "_law_pick" ["_law_pen_here", "_law_some"] spPick) (dTPlace : Dn P w K mg base 2 "_law_tight_place" ["_law_pen_here"] spTPlace) :
    FnOk P w K mg base CX0 3 f fd ["_law_pen_here", "_law_names_here"] spTStm := by
  refine F.ok sc_law_tight_statement (fun vs H Q E h => ?_) (fun cdv A outer s H vs Q E hr h => ?_)
  · obtain ⟨p, pc, l, xs, t, rfl, _⟩ := h
    rfl
  · obtain ⟨p, pc, l, xs, t, rfl, hl, x1, x3, nx, ht, hP, k⟩ := h
    refine ⟨_, PSs.nox (pss_cons (ps_par (i := 2) (j := 3) (by rfl) sc_law_tight_statement.nd rfl rfl (by decide) rfl rfl (pa_cons (pe_dn dPick hr (pa_cons (pv 0) (pa_cons (pv 1) pa_nil))) (pa_cons (pe_slice sl_tup (pe_dn dTPlace hr (pa_cons (pv 0) pa_nil)) po_none (po_some pe_int)) pa_nil)) (by rfl))
      (pss_cons (ps_par (i := 4) (j := 5) (by rfl) sc_law_tight_statement.nd rfl rfl (by decide) rfl rfl (pa_cons (pe_lst pa_nil) (pa_cons (pe_lst pa_nil) pa_nil)) (by rfl))
      (pss_cons (ps_for PassesOwn.never rfl (pi_range1 (by rfl) T.range (pa_cons (pe_callB (call_min2 rfl) (by rfl) T.min (by decide +kernel) (pa_cons (pe_callB call_len_seq (by rfl) T.len PySem.boot_len (pa_cons (pv 1) pa_nil)) (pa_cons (pe_dn dDraw hr (pa_cons (pv 0) (pa_cons pe_int pa_nil))) pa_nil))) pa_nil)) (pg_name (i := 6) sc_law_tight_statement.nd rfl (.inl rfl)) (pss_cons (ps_set (i := 7) sc_law_tight_statement.nd rfl (Or.inl rfl) (pe_dn dTPlace hr (pa_cons (pv 0) pa_nil)))
      (pss_cons (ps_if (pt_cmpR op_eq (pe_dn dDraw hr (pa_cons (pv 0) (pa_cons pe_int pa_nil))) pe_int (nomark _)) (pss_one (ps_set (i := 7) sc_law_tight_statement.nd rfl (Or.inl rfl) (pe_op op_catT (pe_slice sl_tup (pv 7) po_none (po_some pe_int)) (pe_tup (pa_cons (pe_op op_add pe_int (pe_dn dDraw hr (pa_cons (pv 0) (pa_cons pe_int pa_nil)))) pa_nil))))) pss_nil)
      (pss_one (ps_expr (pe_bm PySem.F.plainAttrs_list PySem.F.slot_list_append PySem.F.type_list_append mt_append (pv 4) (pa_cons (pe_tup (pa_cons (pe_dn dPick hr (pa_cons (pv 0) (pa_cons (pv 1) pa_nil))) (pa_cons (pv 7) (pa_cons (pe_ix ix_list (pe_lst (pa_cons pe_int (pa_cons pe_int (pa_cons pe_int (pa_cons (pe_un un_neg pe_int) (pa_cons pe_int pa_nil)))))) (pe_dn dDraw hr (pa_cons (pv 0) (pa_cons pe_int pa_nil))) (fun _ _ => rfl)) pa_nil)))) pa_nil)))))))
      (pss_cons (ps_if (pt_cmpR op_eq (pe_dn dDraw hr (pa_cons (pv 0) (pa_cons pe_int pa_nil))) pe_int (nomark _)) (pss_cons (ps_set (i := 8) sc_law_tight_statement.nd rfl (Or.inl rfl) (pe_tup (pa_cons pe_str (pa_cons (pe_tup (pa_cons pe_int (pa_cons pe_int (pa_cons pe_int pa_nil)))) (pa_cons pe_int (pa_cons (pe_dn dDraw hr (pa_cons (pv 0) (pa_cons pe_int pa_nil))) pa_nil))))))
      (pss_one (ps_expr (pe_bm PySem.F.plainAttrs_list PySem.F.slot_list_append PySem.F.type_list_append mt_append (pv 5) (pa_cons (pe_dn dPick hr (pa_cons (pv 0) (pa_cons (pe_lst (pa_cons (pv 8) (pa_cons (pe_tup (pa_cons pe_str (pa_cons (pe_tup (pa_cons pe_int (pa_cons pe_int (pa_cons (pe_un un_neg pe_int) pa_nil)))) pa_nil))) (pa_cons (pe_tup (pa_cons pe_str (pa_cons (pe_tup (pa_cons (pe_un un_neg pe_int) (pa_cons pe_int (pa_cons pe_int pa_nil)))) pa_nil))) pa_nil)))) pa_nil))) pa_nil))))) pss_nil)
      (pss_one (ps_ret (pe_tup (pa_cons (pv 2) (pa_cons (pv 3) (pa_cons (pe_op op_sub (pe_dn dDraw hr (pa_cons (pv 0) (pa_cons pe_int pa_nil))) pe_int) (pa_cons (pe_callTy call_tuple_of (by rfl) T.tuple (by decide +kernel) (pa_cons (pv 4) pa_nil)) (pa_cons (pe_callTy call_tuple_of (by rfl) T.tuple (by decide +kernel) (pa_cons (pv 5) pa_nil)) pa_nil)))))))))))), ?_⟩
    have xl : (xs.map V.str).length = xs.length := List.length_map ..
    refine ⟨_, rfl, _, rfl, p, pc, l, _, t, rfl, hl, by omega, by omega, by omega, hP, fun H1 x hx hP1 k1 => ?_⟩
    obtain ⟨nm, hnm, rfl⟩ := List.mem_map.mp hx
    have hl1 := k1 _ _ (hP.ne hl fun _ z => by cases z) hl
    refine ⟨_, rfl, p, pc, _, rfl, by omega, hP1, fun H2 u a b c a0 a1 b0 b1 c0 c1 hu hP2 k2 => ?_⟩
    have hl2 := k2 _ _ (hP1.ne hl1 fun _ z => by cases z) hl1
    refine ⟨_, rfl, _, _, rfl, SqT.of hu, cut3, fun C hC => ⟨_, _, rfl, ?_⟩⟩
    rw [show cutV [V.int a, .int b, .int c, .int 1] none (some 3) = [.int a, .int b, .int c] from rfl] at *
    have s5 := Same.new (.tup [.int a, .int b, .int c]) (Same.refl H2) hC
    have dC : DT (upd H2 C (.tup [.int a, .int b, .int c])) (.ref C) (i3 a b c) := gd3 upd_same
    obtain ⟨H5, eH5⟩ : ∃ L, L = upd H2 C (.tup [.int a, .int b, .int c]) := ⟨_, rfl⟩
    rw [← eH5] at s5 dC ⊢
    refine norm (N := fun σ _ => _) (σ' := [some (.ref p), some (.ref l), some (.str nm), some (.ref C), none, none, none, none, none]) rfl ?_
    have hP5 := hP2.same s5
    have hl5 := s5 _ _ hl2
    dsimp only
    have k5 : Keep p H H5 := (k1.trans k2).trans (Keep.of s5)
    refine ⟨(by decide), fun R hR => ⟨(by decide), fun G hG => ⟨_, _, rfl, ?_⟩⟩⟩
    have sR := Same.new (.lst []) (Same.refl H5) hR
    obtain ⟨H6, eH6⟩ : ∃ L, L = upd (upd H5 R (.lst [])) G (.lst []) := ⟨_, rfl⟩
    have s6 : Same H5 H6 := by rw [eH6]; exact Same.new _ sR hG
    have nGR : G ≠ R := fun z => by
      rw [z, upd_same] at hG
      cases hG
    have hR6 : H6 R = some (.lst []) := by rw [eH6, upd_ne nGR.symm]; exact upd_same
    have hG6 : H6 G = some (.lst []) := by rw [eH6]; exact upd_same
    have hG5 : H5 G = none := by
      rw [upd_ne nGR] at hG
      exact hG
    rw [← eH6]
    refine norm (σ' := [some (.ref p), some (.ref l), some (.str nm), some (.ref C), some (.ref R), some (.ref G), none, none, none]) rfl ?_
    have hP6 := hP5.same s6
    have hl6 := s6 _ _ hl5
    have k6 : Keep p H H6 := k5.trans (Keep.of s6)
    have dC6 := dC.same s6
    have hcR : R ≠ pc := by
      obtain ⟨o, ho⟩ := hP5.has
      exact (ne_of_none ho hR).symm
    have hcG : G ≠ pc := by
      obtain ⟨o, ho⟩ := hP5.has
      exact (ne_of_none ho hG5).symm
    have nHR : ∀ o, H R ≠ some o := fun o e => by
      have nRp : R ≠ p := (hP5.ne' hR).symm
      rw [k5 _ _ nRp e] at hR
      cases hR
    have nHG : ∀ o, H G ≠ some o := fun o e => by
      have nGp : G ≠ p := (hP5.ne' hG5).symm
      rw [k5 _ _ nGp e] at hG5
      cases hG5
    have nlR : l ≠ R := ne_of_none hl5 hR
    have nlG : l ≠ G := ne_of_none hl5 hG5
    -- the reads
    dsimp only
    refine mid (fun σ' H' => ∃ (v6 v7 : Option V) (vs : List V) (rds : List RdM), σ' = [some (.ref p), some (.ref l), some (.str nm), some (.ref C), some (.ref R), some (.ref G), v6, v7, none] ∧
      H' R = some (.lst vs) ∧ DTs H' vs (rds.map rdD) ∧ rds.length ≤ 3 ∧ (∀ r ∈ rds, RdOk r) ∧ H' G = some (.lst []) ∧ H' l = some (.lst (xs.map V.str)) ∧ PenC H' p pc (t + 30) ∧ TSame H6 H' ∧ (∀ b o, H b = some o → b ≠ p → H' b = some o)) (fun key => ?_) ?_
    · refine ⟨_, rfl, l, _, rfl, .inl (SqL.of hl6), _, rfl, p, 3, t + 4, pc, rfl, by decide, by decide, by omega, hP6, fun H7 n n0 n4 hP7 k7 => ?_⟩
      obtain ⟨N, hN, N2⟩ : ∃ N : Nat, (if n < ((xs.map V.str).length : Int) then n else ((xs.map V.str).length : Int)) = (N : Int) ∧ N ≤ 2 := by
        split
        · exact ⟨n.toNat, by omega, by omega⟩
        · exact ⟨(xs.map V.str).length, rfl, by omega⟩
      refine ⟨_, _, rfl, (N : Int), congrArg (fun z => [V.int z]) hN, by omega, by omega, ?_⟩
      rw [Int.toNat_natCast]
      have kR := k7 _ _ (hP6.ne hR6 fun _ z => by cases z) hR6
      have kG := k7 _ _ (hP6.ne hG6 fun _ z => by cases z) hG6
      have kl := k7 _ _ (hP6.ne hl6 fun _ z => by cases z) hl6
      refine for_range (lo := 0) (n := N) (fun i σ' H' => ∃ (v6 v7 : Option V) (vs : List V) (rds : List RdM), σ' = [some (.ref p), some (.ref l), some (.str nm), some (.ref C), some (.ref R), some (.ref G), v6, v7, none] ∧
        H' R = some (.lst vs) ∧ DTs H' vs (rds.map rdD) ∧ rds.length = i ∧ (∀ r ∈ rds, RdOk r) ∧ H' G = some (.lst []) ∧ H' l = some (.lst (xs.map V.str)) ∧ PenC H' p pc (t + 5 + i * 8) ∧ TSame H6 H' ∧ (∀ b o, H b = some o → b ≠ p → H' b = some o)) ?_ ?_ ?_
      · exact ⟨none, none, [], [], rfl, kR, .nil, rfl, (fun _ h => by cases h), kG, kl, hP7.mono (by omega), .keepC hP6 k7, fun b o e nb => (k6.trans k7) b o nb e⟩
      · rintro i σ H8 hi ⟨v6, v7, vs, rds, rfl, eR, dR, lR, okR, eG, el, hP8, ts8, kk⟩
        refine normG (σ' := [some (.ref p), some (.ref l), some (.str nm), some (.ref C), some (.ref R), some (.ref G), some (.int (0 + (i : Int))), v7, none]) rfl ?_
        refine ⟨_, rfl, p, pc, _, rfl, by omega, hP8, fun H9 u9 a9 b9 c9 a0 a1 b0 b1 c0 c1 hu9 hP9 k9 => ?_⟩
        refine normG (σ' := [some (.ref p), some (.ref l), some (.str nm), some (.ref C), some (.ref R), some (.ref G), some (.int (0 + (i : Int))), some (.ref u9), none]) rfl ?_
        try dsimp only
        refine mid (fun σ' H' => ∃ (U : Addr) (dv : Int), σ' = [some (.ref p), some (.ref l), some (.str nm), some (.ref C), some (.ref R), some (.ref G), some (.int (0 + (i : Int))), some (.ref U), none] ∧ H' U = some (.tup [.int a9, .int b9, .int c9, .int dv]) ∧ 1 ≤ dv ∧ dv ≤ 3 ∧ PenC H' p pc (t + 5 + i * 8 + 5) ∧ Keep p H8 H') (fun key => ?_) ?_
        · refine ⟨_, rfl, p, 6, _, pc, rfl, by decide, by decide, by omega, hP9, fun HA x x0 x1 hPA kA => ⟨rfl, _, rfl, ite2 (fun _ => ?_) (fun _ => ?_)⟩⟩
          · have hu9A := hP9.tup kA hu9
            refine ⟨_, rfl, _, rfl, _, _, rfl, SqT.of hu9A, cut3, fun V3 hV3 => ?_⟩
            rw [show cutV [V.int a9, .int b9, .int c9, .int 1] none (some 3) = [.int a9, .int b9, .int c9] from rfl] at *
            have sA := Same.new (.tup [.int a9, .int b9, .int c9]) (Same.refl HA) hV3
            refine ⟨_, rfl, p, 2, _, pc, rfl, by decide, by decide, by omega, hPA.same sA, fun HB y y0 y1 hPB kB => ⟨_, _, rfl, rfl, sz1, fun V1 hV1 => ?_⟩⟩
            have eV3 := (hPA.same sA).tup kB (upd_same (H := HA) (a := V3))
            have sB := Same.new (.tup [.int (2 + y)]) (Same.refl HB) hV1
            refine ⟨V3, V1, _, _, rfl, rfl, SqT.of (sB _ _ eV3), SqT.of upd_same, List.cons_ne_nil _ _, sz4, (fun z => by cases z), fun _ P4 hP4 => ?_⟩
            have sC := Same.new (.tup ([.int a9, .int b9, .int c9] ++ [.int (2 + y)])) sB hP4
            exact key _ _ ⟨P4, 2 + y, rfl, upd_same, by omega, by omega, (hPB.same sC).mono (by omega), k9.trans (kA.trans ((Keep.of sA).trans (kB.trans (Keep.of sC))))⟩
          · exact key _ _ ⟨u9, 1, rfl, hP9.tup kA hu9, by decide, by decide, hPA.mono (by omega), k9.trans kA⟩
        rintro σ HE ⟨P4, dv, rfl, e4, d1', d3', hPE, k8E⟩
        have eRE := hP8.lst k8E eR
        have elE := hP8.lst k8E el
        refine ⟨_, rfl, .inl ⟨rfl, _, SqL.of eRE⟩, _, rfl, _, rfl, p, pc, l, _, _, rfl, elE, by omega, by omega, by omega, hPE, fun HF x2 hx2 hPF kF => ?_⟩
        obtain ⟨nm2, hnm2, rfl⟩ := List.mem_map.mp hx2
        refine ⟨_, rfl, _, rfl, sz5, fun W8 hW8 => ?_⟩
        have sG := Same.new (.lst [.int 1, .int 1, .int 2, .int (-1), .int 3]) (Same.refl HF) hW8
        refine ⟨_, rfl, p, 5, _, pc, rfl, by decide, by decide, by omega, hPF.same sG, fun HG q q0 q1 hPG kG => ?_⟩
        obtain ⟨j2, rfl, hj2⟩ := drawn (n := 5) q0 q1
        have eW8 := (hPF.same sG).lst kG (upd_same (H := HF) (a := W8))
        obtain ⟨v8, hv8⟩ : ∃ v, ([.int 1, .int 1, .int 2, .int (-1), .int 3] : List V)[j2]? = some v := ⟨_, List.getElem?_eq_getElem hj2⟩
        obtain ⟨fv, rfl, f0, f1, f2⟩ := fiveF j2 v8 hv8
        refine ⟨W8, _, _, _, rfl, rfl, SqL.of eW8, atI_nat hv8, sz3, fun TT hTT => ?_⟩
        have kEG : Keep p HE HG := kF.trans ((Keep.of sG).trans kG)
        have k8G : Keep p H8 HG := k8E.trans kEG
        have eRG := hP8.lst k8G eR
        have sH := Same.new (.tup [.str nm2, .ref P4, .int fv]) (Same.refl HG) hTT
        have e4G := sH _ _ (hPE.tup kEG e4)
        have ts8G : TSame H8 (upd HG TT (.tup [.str nm2, .ref P4, .int fv])) := (TSame.keepC hP8 k8G).trans (.of sH)
        have eRH := sH _ _ eRG
        have lvs : vs.length < sizeLine := sz1l _ (by rw [dR.len, List.length_map]; omega)
        refine ⟨R, _, _, rfl, rfl, eRH, lvs, ?_⟩
        have tsU : TSame (upd HG TT (.tup [.str nm2, .ref P4, .int fv])) (upd (upd HG TT (.tup [.str nm2, .ref P4, .int fv])) R (.lst (vs ++ [.ref TT]))) := .updL eRH
        refine ⟨_, _, vs ++ [.ref TT], rds ++ [⟨nm2, a9, b9, c9, dv, fv⟩], rfl, upd_same, ?_, ?_, ?_, ?_, ?_, ?_, ?_, ?_⟩
        · refine ((dR.to ts8G).to tsU).snoc ?_
          refine .tup (tsU _ _ upd_same) (.cons (.str _) (.cons (.tup (tsU _ _ e4G) (.cons (.int _) (.cons (.int _) (.cons (.int _) (.cons (.int _) .nil))))) (.cons (.int _) .nil)))
        · rw [List.length_append, lR]
          rfl
        · intro r hr2
          rcases List.mem_append.mp hr2 with z | z
          · exact okR r z
          · rw [List.mem_singleton.mp z]
            refine ⟨nx _ hnm2, ?_, d1', d3', f0, f1, f2⟩
            show sm3 a9 b9 c9
            unfold sm3
            omega
        · rw [upd_ne nGR]
          exact sH _ _ (hP8.lst k8G eG)
        · rw [upd_ne nlR]
          exact sH _ _ (hP8.lst k8G el)
        · have pR : PenC (upd HG TT (.tup [.str nm2, .ref P4, .int fv])) p pc (t + 5 + (i + 1) * 8) := (hPG.same sH).mono (by omega)
          exact pR.upd (pR.ne eRH fun _ z => by cases z) hcR (Nat.le_refl _)
        · exact ts8.trans (ts8G.trans tsU)
        · intro b o e nb
          have nbR : b ≠ R := fun z => by
            rw [z] at e
            exact nHR o e
          rw [upd_ne nbR]
          exact sH _ _ (k8G b o nb (kk b o e nb))
      · rintro σ H8 ⟨v6, v7, vs, rds, rfl, eR, dR, lR, okR, eG, el, hP8, ts8, kk⟩
        exact key _ _ ⟨_, _, vs, rds, rfl, eR, dR, by omega, okR, eG, el, hP8.mono (by omega), ts8, kk⟩
    rintro σ HJ ⟨v6, v7, vs, rds, rfl, eR, dR, lR, okR, eG, el, hPJ, tsJ, kk⟩
    -- the guards
    refine mid (fun σ' H' => ∃ (v8 : Option V) (ws : List V) (gds : List Gd), σ' = [some (.ref p), some (.ref l), some (.str nm), some (.ref C), some (.ref R), some (.ref G), v6, v7, v8] ∧
      H' G = some (.lst ws) ∧ DTs H' ws (gds.map gdD) ∧ gds.length ≤ 2 ∧ (∀ g ∈ gds, GdOk g) ∧ H' R = some (.lst vs) ∧ PenC H' p pc (t + 35) ∧ TSame HJ H' ∧ (∀ b o, H b = some o → b ≠ p → H' b = some o)) (fun key => ?_) ?_
    · refine ⟨_, rfl, p, 3, _, pc, rfl, by decide, by decide, by omega, hPJ, fun HA x x0 x1 hPA kA => ⟨rfl, _, rfl, ite2 (fun _ => ?_) (fun _ => ?_)⟩⟩
      · refine ⟨sz3, fun T1 hT1 => ?_⟩
        have q1 := Same.new (.tup [.int 1, .int 0, .int 0]) (Same.refl HA) hT1
        refine ⟨_, rfl, p, 2, _, pc, rfl, by decide, by decide, by omega, hPA.same q1, fun HB r r0 r1 hPB kB => ⟨sz4, fun T2 hT2 => ?_⟩⟩
        have e1 := (hPA.same q1).tup kB (upd_same (H := HA) (a := T1))
        have q2 := Same.new (.tup [.str "rest", .ref T1, .int 2, .int r]) (Same.refl HB) hT2
        have d2 : DT (upd HB T2 (.tup [.str "rest", .ref T1, .int 2, .int r])) (.ref T2) (gdD (.rst 1 0 0 2 r)) := .tup upd_same (.cons (.str _) (.cons (gd3 (q2 _ _ e1)) (.cons (.int _) (.cons (.int _) .nil))))
        have kJ2 : Keep p HJ (upd HB T2 (.tup [.str "rest", .ref T1, .int 2, .int r])) := kA.trans ((Keep.of q1).trans (kB.trans (Keep.of q2)))
        have hP2 := hPB.same q2
        obtain ⟨HC, eHC⟩ : ∃ L, L = upd HB T2 (.tup [.str "rest", .ref T1, .int 2, .int r]) := ⟨_, rfl⟩
        rw [← eHC] at d2 kJ2 hP2 ⊢
        refine normG (σ' := [some (.ref p), some (.ref l), some (.str nm), some (.ref C), some (.ref R), some (.ref G), v6, v7, some (.ref T2)]) rfl ?_
        have eGC := hPJ.lst kJ2 eG
        refine ⟨_, rfl, .inl ⟨rfl, _, SqL.of eGC⟩, _, rfl, _, rfl, _, rfl, sz3, fun T3 hT3 => ?_⟩
        have q3 := Same.new (.tup [.int 1, .int 0, .int (-1)]) (Same.refl HC) hT3
        refine ⟨sz2, fun T4 hT4 => ?_⟩
        have q4 := Same.new (.tup [.str "least", .ref T3]) (Same.refl (upd HC T3 (.tup [.int 1, .int 0, .int (-1)]))) hT4
        obtain ⟨H4, eH4⟩ : ∃ L, L = upd (upd HC T3 (.tup [.int 1, .int 0, .int (-1)])) T4 (.tup [.str "least", .ref T3]) := ⟨_, rfl⟩
        have d4 : DT H4 (.ref T4) (gdD (.lea 1 0 (-1))) := by
          rw [eH4]
          exact .tup upd_same (.cons (.str _) (.cons (gd3 (q4 _ _ upd_same)) .nil))
        rw [← eH4] at q4 ⊢
        refine ⟨_, rfl, sz3, fun T5 hT5 => ?_⟩
        have q5 := Same.new (.tup [.int (-2), .int 1, .int 0]) (Same.refl H4) hT5
        refine ⟨sz2, fun T6 hT6 => ?_⟩
        have q6 := Same.new (.tup [.str "least", .ref T5]) (Same.refl (upd H4 T5 (.tup [.int (-2), .int 1, .int 0]))) hT6
        obtain ⟨H6', eH6'⟩ : ∃ L, L = upd (upd H4 T5 (.tup [.int (-2), .int 1, .int 0])) T6 (.tup [.str "least", .ref T5]) := ⟨_, rfl⟩
        have d6 : DT H6' (.ref T6) (gdD (.lea (-2) 1 0)) := by
          rw [eH6']
          exact .tup upd_same (.cons (.str _) (.cons (gd3 (q6 _ _ upd_same)) .nil))
        rw [← eH6'] at q6 ⊢
        refine ⟨sz3, fun T7 hT7 => ?_⟩
        have q7 := Same.new (.lst [.ref T2, .ref T4, .ref T6]) (Same.refl H6') hT7
        have qC : Same HC (upd H6' T7 (.lst [.ref T2, .ref T4, .ref T6])) := q3.trans (q4.trans (q5.trans (q6.trans q7)))
        have hP7 := hP2.same qC
        refine ⟨p, pc, T7, _, _, rfl, upd_same, (by show 0 < 3; decide), (by show 3 < 100; decide), by omega, hP7, fun HF x hx hPF kF => ?_⟩
        have kCF : Keep p HC HF := (Keep.of qC).trans kF
        have eGF := hP2.lst kCF eGC
        obtain ⟨g, gok, dg⟩ : ∃ g, GdOk g ∧ DT HF x (gdD g) := by
          simp only [List.mem_cons, List.not_mem_nil, or_false] at hx
          rcases hx with rfl | rfl | rfl
          · exact ⟨.rst 1 0 0 2 r, ⟨by unfold sm3; omega, by decide, by decide, r0, by omega⟩, d2.keepC hP2 kCF⟩
          · exact ⟨.lea 1 0 (-1), (by show sm3 1 0 (-1); unfold sm3; omega), (d4.same (q5.trans (q6.trans q7))).keepC hP7 kF⟩
          · exact ⟨.lea (-2) 1 0, (by show sm3 (-2) 1 0; unfold sm3; omega), (d6.same q7).keepC hP7 kF⟩
        refine ⟨G, _, _, rfl, rfl, eGF, by decide, ?_⟩
        have tsU : TSame HF (upd HF G (.lst ([] ++ [x]))) := .updL eGF
        refine key _ _ ⟨_, [x], [g], rfl, upd_same, .cons (dg.to tsU) .nil, (by show 1 ≤ 2; decide), (fun g' hg => by rw [List.mem_singleton.mp hg]; exact gok), ?_, ?_, ((TSame.keepC hPJ kJ2).trans (TSame.keepC hP2 kCF)).trans tsU, fun b o e nb => ?_⟩
        · rw [upd_ne nGR.symm]
          exact hP2.lst kCF (hPJ.lst kJ2 eR)
        · exact hPF.upd (hPF.ne eGF fun _ z => by cases z) hcG (by omega)
        · have nbG : b ≠ G := fun z => by
            rw [z] at e
            exact nHG o e
          rw [upd_ne nbG]
          exact kCF b o nb (kJ2 b o nb (kk b o e nb))
      · exact key _ _ ⟨none, [], [], rfl, hPJ.lst kA eG, .nil, by decide, (fun _ h => by cases h), hPJ.lst kA eR, hPA.mono (by omega), TSame.keepC hPJ kA, fun b o e nb => kA b o nb (kk b o e nb)⟩
    rintro σ HK ⟨v8, ws, gds, rfl, eG2, dG, lG, okG, eR2, hPK, tsK, kk2⟩
    refine ⟨_, rfl, _, rfl, _, rfl, p, 9, t + 35, pc, rfl, by decide, by decide, by omega, hPK, fun HL kc kc0 kc1 hPL kL => ⟨_, _, rfl, rfl, ?_⟩⟩
    have eR3 := hPK.lst kL eR2
    have eG3 := hPK.lst kL eG2
    refine ⟨_, rfl, R, _, rfl, .inl ⟨SqL.of eR3, fun TR hTR => ?_⟩⟩
    have sM := Same.new (.tup vs) (Same.refl HL) hTR
    refine ⟨_, rfl, G, _, rfl, .inl ⟨SqL.of (sM _ _ eG3), fun TG hTG => ?_⟩⟩
    have sN := Same.new (.tup ws) sM hTG
    refine ⟨sz5, fun TS hTS => ?_⟩
    have sO := Same.new (.tup [.str nm, .ref C, .int (kc - 2), .ref TR, .ref TG]) sN hTS
    have tsE : TSame HJ (upd (upd (upd HL TR (.tup vs)) TG (.tup ws)) TS (.tup [.str nm, .ref C, .int (kc - 2), .ref TR, .ref TG])) := tsK.trans ((TSame.keepC hPK kL).trans (.of sO))
    have eTG := Same.new (.tup [.str nm, .ref C, .int (kc - 2), .ref TR, .ref TG]) (Same.refl _) hTS _ _ (upd_same (H := upd HL TR (.tup vs)) (a := TG) (o := .tup ws))
    have eTR := Same.new (.tup [.str nm, .ref C, .int (kc - 2), .ref TR, .ref TG]) (Same.new (.tup ws) (Same.refl _) hTG) hTS _ _ (upd_same (H := HL) (a := TR) (o := .tup vs))
    refine k _ _ ⟨nm, a, b, c, kc - 2, rds, gds⟩ ⟨nx _ hnm, ?_, by show -9 ≤ kc - 2; omega, by show kc - 2 ≤ 99; omega, lR, lG, okR, okG⟩ ?_ ((hPL.same sO).mono (by omega)) ?_
    · show sm3 a b c
      unfold sm3
      omega
    · refine .tup upd_same (.cons (.str _) (.cons ((dC6.to tsJ).to tsE) (.cons (.int _) (.cons (.tup eTR (dR.to tsE)) (.cons (.tup eTG ((dG.to (.keepC hPK kL)).to (.of sO))) .nil)))))
    · exact fun b o nb e => sO _ _ (kL b o nb (kk2 b o e nb))
end
end K49
set_option maxHeartbeats 4000000
namespace K49
open PySem PySem.Spec PyProof.Rows L2 Z
theorem pe_PK {X : Cx} {K : PySem.W.Frag} {e : Expr} {es : List Expr} {t : TA} {p pos : Pos} {k : Nat} {E : L2.St → XK} (hK : X.K = K) (T : PlTx K X.mg) (M : MkP X.prog X.w K X.mg X.base) (hr : Room k X.A) (hx : ∀ σ, PassesAt (L2.CX X.prog X.w) X σ (E σ)) (ha : PA X (e :: es) t) (hk : 5 ≤ k := by decide) (hg : Gl X "Place" := by rfl)
    (he : starEach (e :: es) X.env = (false, eval e X.env) :: starEach es X.env := by rfl) (hpl : (backTo pos (starEach es X.env)).any (·.1) = false := by rfl) :
    PE X (.Call (.Name "Place" p) (e :: es) [] pos) (fun σ H Q => t σ H fun vs H1 => ∃ v d, vs = [v, .int d] ∧ rPlG K v d H1 Q (E σ)) := by
  subst hK
  exact pe_P T M hr hx ha hk hg he hpl
theorem ck_name {x : Str} (h : NmOk x) : ckA x = none := if_pos h.1
theorem ckn_ok {w : Str} {v lo hi : Int} (h1 : lo ≤ v) (h2 : v ≤ hi) : ckN w v lo hi = none := if_pos ⟨h1, h2⟩
theorem cks_ok {a b c : Int} (h1 : -12 ≤ a) (h2 : a ≤ 12) (h3 : -12 ≤ b) (h4 : b ≤ 12) (h5 : -999 ≤ c) (h6 : c ≤ 999) : ckS a b c = none := by
  unfold ckS
  rw [ckn_ok h1 h2, ckn_ok h3 h4, ckn_ok h5 h6]
  rfl
theorem dt_rd {H : Hp} {v : V} {r : RdM} (h : DT H v (rdD r)) : ∃ t q, v = .ref t ∧ H t = some (.tup [.str r.x, .ref q, .int r.f]) ∧ H q = some (.tup [.int r.a, .int r.b, .int r.c, .int r.d]) := by
  obtain ⟨t, xs, rfl, ht, ds⟩ := h.tup'
  cases ds with
  | cons d1 ds =>
    cases ds with
    | cons d2 ds =>
      cases ds with
      | cons d3 ds =>
        cases ds
        cases d1
        cases d3
        obtain ⟨q, rfl, hq⟩ := dt4' d2
        exact ⟨t, q, rfl, ht, hq⟩
theorem dt_st {H : Hp} {v : V} {s : StM} (h : DT H v (stD s)) : ∃ t q tr tg xs ys, v = .ref t ∧ H t = some (.tup [.str s.x, .ref q, .int s.k, .ref tr, .ref tg]) ∧ H q = some (.tup [.int s.a, .int s.b, .int s.c]) ∧
    H tr = some (.tup xs) ∧ DTs H xs (s.rds.map rdD) ∧ H tg = some (.tup ys) ∧ DTs H ys (s.gds.map gdD) := by
  obtain ⟨t, xs, rfl, ht, ds⟩ := h.tup'
  cases ds with
  | cons d1 ds =>
    cases ds with
    | cons d2 ds =>
      cases ds with
      | cons d3 ds =>
        cases ds with
        | cons d4 ds =>
          cases ds with
          | cons d5 ds =>
            cases ds
            cases d1
            cases d3
            obtain ⟨q, rfl, hq⟩ := dt3' d2
            obtain ⟨tr, xr, rfl, hr, dr⟩ := d4.tup'
            obtain ⟨tg, xg, rfl, hg, dg⟩ := d5.tup'
            exact ⟨t, q, tr, tg, xr, xg, rfl, ht, hq, hr, dr, hg, dg⟩
theorem dt_lp {H : Hp} {v : V} {l : LpM} (h : DT H v (lpD l)) : ∃ t q1 q2 ts xs, v = .ref t ∧ H t = some (.tup [.ref q1, .ref q2, .int l.S, .bl l.dn, .ref ts]) ∧ H q1 = some (.tup [.int l.l0, .int l.l1, .int l.l2]) ∧ H q2 = some (.tup [.int l.h0, .int l.h1, .int l.h2]) ∧
    H ts = some (.tup xs) ∧ DTs H xs (l.sts.map stD) := by
  obtain ⟨t, xs, rfl, ht, ds⟩ := h.tup'
  cases ds with
  | cons d1 ds =>
    cases ds with
    | cons d2 ds =>
      cases ds with
      | cons d3 ds =>
        cases ds with
        | cons d4 ds =>
          cases ds with
          | cons d5 ds =>
            cases ds
            cases d3
            cases d4
            obtain ⟨q1, rfl, h1⟩ := dt3' d1
            obtain ⟨q2, rfl, h2⟩ := dt3' d2
            obtain ⟨ts, xt, rfl, h5, d5⟩ := d5.tup'
            exact ⟨t, q1, q2, ts, xt, rfl, ht, h1, h2, h5, d5⟩
section
variable {P : Program} {w : World} {K : PySem.W.Frag} {mg : Str → Option Value} {base : Heap}
theorem sc_law_made_statement : FnScope ["_law_row", "_law_read", "_law_one", "_law_guards", "_law_guard"] ["_law_row"] (defScope s_law_made_statement) := ⟨rfl, rfl, rfl, by decide +kernel, rfl, by decide +kernel, by decide +kernel⟩
end
end K49
set_option maxHeartbeats 4000000
namespace K49
open PySem PySem.Spec PyProof.Rows L2 Z
def lf4 (a c d : Int) : P4 := ((0 : Int).fdiv (gg 0 a d), a.fdiv (gg 0 a d), c.fdiv (gg 0 a d), d.fdiv (gg 0 a d))
/-- a place of the size alone, in least form -/
theorem rg_least {a c d : Int} (a0 : 0 ≤ a) (a3 : a ≤ 3) (c0 : -999 ≤ c) (c1 : c ≤ 999) (d1 : 1 ≤ d) (d3 : d ≤ 3) : RgF (lf4 a c d) a c d := by
  have g0 := gg_pos (a := 0) (b := a) (d := d) (by omega)
  have ga := fdiv_bd (x := a) (M := 3) (g := (gg 0 a d : Int)) (by omega) (by decide) (by omega) (by omega)
  have gan := fdiv_nn (x := a) (m := (gg 0 a d : Int)) a0 (by omega)
  have gc := fdiv_bd (x := c) (M := 999) (g := (gg 0 a d : Int)) (by omega) (by decide) (by omega) (by omega)
  have gd := dv_bd (a := 0) (b := a) (d := d) (by omega)
  refine ⟨Int.zero_fdiv ((gg 0 a d : Nat) : Int), gan, ga.2, gc.1, gc.2, gd.1, Int.le_trans gd.2 d3, fun n => ?_⟩
  have e := val_least (a := 0) (b := a) (c := c) (d := d) (i := 0) (n := n) (by omega)
  simp only [Int.mul_zero, Int.zero_add] at e
  exact e
theorem rg_ck {t : P4} {a c d : Int} (h : RgF t a c d) : ckR t.1 t.2.1 t.2.2.1 t.2.2.2 = none := by
  obtain ⟨h1, h2, h3, h4, h5, h6, h7, _⟩ := h
  unfold ckR
  rw [ckn_ok (by omega) (by omega), ckn_ok h2 h3, ckn_ok h4 h5, ckn_ok h6 h7]
  rfl
section
variable {P : Program} {w : World} {K : PySem.W.Frag} {mg : Str → Option Value} {base : Heap}
theorem sc_law_made_loop : FnScope ["_law_row", "_law_low", "_law_high", "_law_one"] ["_law_row"] (defScope s_law_made_loop) := ⟨rfl, rfl, rfl, by decide +kernel, rfl, by decide +kernel, by decide +kernel⟩
end
theorem flat_bound {α β : Type} {f : α → List β} {n : Nat} : ∀ {l : List α}, (∀ a ∈ l, (f a).length ≤ n) → (l.map f).flatten.length ≤ l.length * n
  | [], _ => by simp
  | a :: l, h => by
    rw [List.map_cons, List.flatten_cons, List.length_append, List.length_cons]
    have h1 := h a (List.mem_cons_self ..)
    have h2 := flat_bound (l := l) fun b hb => h b (List.mem_cons_of_mem _ hb)
    rw [Nat.add_mul]
    omega
section
variable {P : Program} {w : World} {K : PySem.W.Frag} {mg : Str → Option Value} {base : Heap}
theorem sc_law_made : FnScope ["_law_rows", "_law_row"] ["_law_rows"] (defScope s_law_made) := ⟨rfl, rfl, rfl, by decide +kernel, rfl, by decide +kernel, by decide +kernel⟩
end
end K49
set_option maxHeartbeats 4000000
namespace K49
open PySem PySem.Spec PyProof.Rows L2 Z
/-- a number, or something else of a plain kind -/
inductive IntV (H : Hp) : V → Bool → Prop where
  | int (i : Int) : IntV H (.int i) true
  | bl (b : Bool) : IntV H (.bl b) false
  | str (x : Str) : IntV H (.str x) false
  | non : IntV H .non false
  | tup {t : Addr} {xs : List V} (h : H t = some (.tup xs)) : IntV H (.ref t) false
def spIsIntA : Sp := fun vs H Q _ => ∃ (v : V) (b : Bool), vs = [v] ∧ IntV H v b ∧ Q (.bl b) H
def spIntFromA : Sp := fun vs H Q _ => ∃ (v : V) (lo hi : Int), vs = [v, .int lo, .int hi] ∧ ((∃ i : Int, v = .int i ∧ Q (.bl (decide (lo ≤ i ∧ i ≤ hi))) H) ∨ (IntV H v false ∧ Q (.bl false) H))
def TOP : Int := 1000000000000000000000000000000
def spIsSize : Sp := fun vs H Q _ => ∃ v : V, vs = [v] ∧ ((∃ i : Int, v = .int i ∧ Q (.bl (decide (0 ≤ i ∧ i ≤ TOP))) H) ∨ (IntV H v false ∧ Q (.bl false) H))
/-- an own error, its fields in order, is raised; all else as it was -/
def RzV (K : PySem.W.Frag) (x : Str) (fs : List Str) (vs : List V) (H : Hp) (E : XK) : Prop := ∀ (d : Addr) (H' : Hp), Same H H' → H' d = some (.xd (fs.zip vs).reverse) → E (.ref (He.ga K x)) (some d) H'
theorem RzV.same {K : PySem.W.Frag} {x : Str} {fs : List Str} {vs : List V} {H H1 : Hp} {E : XK} (h : RzV K x fs vs H E) (s : Same H H1) : RzV K x fs vs H1 E := fun d H' s' hd => h d H' (s.trans s') hd
theorem kbi {K : PySem.W.Frag} : PySem.W.kitOne K (.type "bool") (.type "int") = some true := kit_ty (by decide +kernel)
theorem kbb {K : PySem.W.Frag} : PySem.W.kitOne K (.type "bool") (.type "bool") = some true := kit_ty (by decide +kernel)
theorem ksi {K : PySem.W.Frag} : PySem.W.kitOne K (.type "str") (.type "int") = some false := kit_ty (by decide +kernel)
theorem kni {K : PySem.W.Frag} : PySem.W.kitOne K (.type "NoneType") (.type "int") = some false := kit_ty (by decide +kernel)
theorem kti {K : PySem.W.Frag} : PySem.W.kitOne K (.type "tuple") (.type "int") = some false := kit_ty (by decide +kernel)
section
variable {P : Program} {w : World} {K : PySem.W.Frag} {mg : Str → Option Value} {base : Heap}
theorem ok_isIntA {f : Addr} {fd : FuncData} (F : FnP K "is_integer" s_is_integer f fd) (T : StTx K mg) : FnOk P w K mg base CX0 1 f fd ["value"] spIsIntA := by
  refine F.ok sc_is_integer (fun vs H Q E h => ?_) (fun cdv A outer s H vs Q E hr h => ?_)
  · obtain ⟨v, b, rfl, _⟩ := h
    rfl
  · obtain ⟨v, b, rfl, h, q⟩ := h
    refine ⟨_, PSs.nox (pss_one (ps_ret (pe_and (pe_callB call_isi (by rfl) T.isi (by decide +kernel) (pa_cons (pv 0) (pa_cons (pe_bltn (v := .ty "int") (by rfl) T.int (by decide +kernel) rfl) pa_nil))) (pe_one (pe_not (pe_callB call_isi (by rfl) T.isi (by decide +kernel) (pa_cons (pv 0) (pa_cons (pe_bltn (v := .ty "bool") (by rfl) T.bool (by decide +kernel) rfl) pa_nil)))))))), ?_⟩
    cases h with
    | int i =>
      refine ⟨_, rfl, _, _, _, _, _, rfl, .ty _, .base (.int i), kii, _, rfl, iteT ?_⟩
      exact ⟨_, rfl, _, _, _, _, _, rfl, .ty _, .base (.int i), kib, _, rfl, q⟩
    | bl b =>
      refine ⟨_, rfl, _, _, _, _, _, rfl, .ty _, .base (.bl b), kbi, _, rfl, iteT ?_⟩
      exact ⟨_, rfl, _, _, _, _, _, rfl, .ty _, .base (.bl b), kbb, _, rfl, q⟩
    | str x => exact ⟨_, rfl, _, _, _, _, _, rfl, .ty _, .base (.str x), ksi, _, rfl, iteF q⟩
    | non => exact ⟨_, rfl, _, _, _, _, _, rfl, .ty _, .base .non, kni, _, rfl, iteF q⟩
    | tup ht => exact ⟨_, rfl, _, _, _, _, _, rfl, .ty _, .base (.tup ht), kti, _, rfl, iteF q⟩
theorem ok_intFromA {f : Addr} {fd : FuncData} (F : FnP K "is_integer_from" s_is_integer_from f fd) (dIsInt : Dn P w K mg base 1 "is_integer" ["value"] spIsIntA) : FnOk P w K mg base CX0 2 f fd ["value", "low", "high"] spIntFromA := by
  refine F.ok sc_is_integer_from (fun vs H Q E h => ?_) (fun cdv A outer s H vs Q E hr h => ?_)
  · obtain ⟨v, lo, hi, rfl, _⟩ := h
    rfl
  · obtain ⟨v, lo, hi, rfl, k⟩ := h
    refine ⟨_, PSs.nox (pss_one (ps_ret (pe_and (pe_dn dIsInt hr (pa_cons (pv 0) pa_nil)) (pe_one (pe_chain op_le op_le (pv 1) (pv 0) (pv 2)))))), ?_⟩
    rcases k with ⟨i, rfl, k⟩ | ⟨iv, k⟩
    · refine ⟨_, rfl, _, _, rfl, .int _, _, rfl, iteT ?_⟩
      refine ⟨_, rfl, _, rfl, _, _, rfl, rfl, _, rfl, ite2 (fun h => ?_) (fun h => ?_)⟩
      · have h1 : lo ≤ i := of_decide_eq_true h
        refine ⟨_, rfl, _, _, rfl, rfl, ?_⟩
        rw [show decide (lo ≤ i ∧ i ≤ hi) = decide (i ≤ hi) from decide_eq_decide.mpr ⟨fun z => z.2, fun z => ⟨h1, z⟩⟩] at k
        exact k
      · have h1 : ¬ lo ≤ i := fun z => h (decide_eq_true z)
        rw [decide_eq_false (fun z => h1 z.1)] at k
        exact k
    · exact ⟨_, rfl, _, _, rfl, iv, _, rfl, iteF k⟩
theorem sc_is_size : FnScope ["value"] ["value"] (defScope s_is_size) := ⟨rfl, rfl, rfl, by decide +kernel, rfl, by decide +kernel, by decide +kernel⟩
theorem ok_isSize {f : Addr} {fd : FuncData} (F : FnP K "is_size" s_is_size f fd) (T : LwTx K mg) (hTOP_SIZE : ∃ t, mg "TOP_SIZE" = some (.int TOP t)) (dIsIntFrom : Dn P w K mg base 2 "is_integer_from" ["value", "low", "high"] spIntFromA) : FnOk P w K mg base CX0 3 f fd ["value"] spIsSize := by
  refine F.ok sc_is_size (fun vs H Q E h => ?_) (fun cdv A outer s H vs Q E hr h => ?_)
  · obtain ⟨v, rfl, _⟩ := h
    rfl
  · obtain ⟨v, rfl, k⟩ := h
    obtain ⟨tTOP_SIZE, hTOP_SIZE⟩ := hTOP_SIZE
    refine ⟨_, PSs.nox (pss_one (ps_ret (pe_dn dIsIntFrom hr (pa_cons (pv 0) (pa_cons pe_int (pa_cons (pe_glob (v := .int 1000000000000000000000000000000) rfl hTOP_SIZE ⟨tTOP_SIZE, rfl⟩) pa_nil)))))), ?_⟩
    exact ⟨_, rfl, _, _, _, rfl, k⟩
end
end K49
set_option maxHeartbeats 4000000
namespace K49
open PySem PySem.Spec PyProof.Rows L2 Z
structure RdX where
  x : Str
  a : Int
  b : Int
  c : Int
  d : Int
  f : Int
deriving Inhabited
inductive CdX where
  | atl (a b c : Int)
  | rst (a b m r : Int)
structure StX where
  x : Str
  a : Int
  b : Int
  c : Int
  k : Int
  rds : List RdX
  gds : List CdX
deriving Inhabited
structure LpX where
  t : P4
  u : P4
  S : Int
  dn : Bool
  sts : List StX
deriving Inhabited
section
variable (K : PySem.W.Frag)
def RdXo (H : Hp) (v : V) (r : RdX) : Prop := ∃ p, v = .ref p ∧ RdAt K H p r.x r.a r.b r.c r.d r.f
def CdXo (H : Hp) (v : V) : CdX → Prop
  | .atl a b c => ∃ p, v = .ref p ∧ AtlAt K H p a b c
  | .rst a b m r => ∃ p, v = .ref p ∧ RstAt K H p a b m r
def StXo (H : Hp) (v : V) (s : StX) : Prop := ∃ p rs cs, v = .ref p ∧ StmAt K H p s.x s.a s.b s.c s.k rs cs ∧ Fa (RdXo K H) rs s.rds ∧ Fa (CdXo K H) cs s.gds
def LpXo (H : Hp) (v : V) (l : LpX) : Prop := ∃ p xs, v = .ref p ∧ LpAt K H p l.t l.u l.S l.dn xs ∧ Fa (StXo K H) xs l.sts
def PrXo (H : Hp) (v : V) (ls : List LpX) : Prop := ∃ p xs ys, v = .ref p ∧ PrAt K H p xs ys ∧ Fa (LpXo K H) xs ls
end
section
variable {K : PySem.W.Frag} {H H' : Hp} {v : V}
theorem CdXo.ms {g : CdX} (h : CdXo K H v g) (s : MS H H') : CdXo K H' v g := by
  cases g with
  | atl a b c =>
    obtain ⟨p, e, dx, q, h1, h2⟩ := h
    exact ⟨p, e, dx, q, s _ _ h1 rfl, ms_str s h2⟩
  | rst a b m r =>
    obtain ⟨p, e, dx, q, h1, h2⟩ := h
    exact ⟨p, e, dx, q, s _ _ h1 rfl, ms_str s h2⟩
theorem RdXo.ms {r : RdX} (h : RdXo K H v r) (s : MS H H') : RdXo K H' v r := by
  obtain ⟨p, e, dx, q, h1, h2⟩ := h
  exact ⟨p, e, dx, q, s _ _ h1 rfl, ms_plc s h2⟩
theorem StXo.ms {m : StX} (h : StXo K H v m) (s : MS H H') : StXo K H' v m := by
  obtain ⟨p, rs, cs, e, ⟨dx, q, r, g, h1, h2, h3, h4⟩, h5, h6⟩ := h
  exact ⟨p, rs, cs, e, ⟨dx, q, r, g, s _ _ h1 rfl, ms_str s h2, s.sqT h3, s.sqT h4⟩, h5.imp fun _ _ z => z.ms s, h6.imp fun _ _ z => z.ms s⟩
theorem LpXo.ms {l : LpX} (h : LpXo K H v l) (s : MS H H') : LpXo K H' v l := by
  obtain ⟨p, xs, e, ⟨dx, lo, hi, st, h1, h2, h3, h4⟩, h7⟩ := h
  exact ⟨p, xs, e, ⟨dx, lo, hi, st, s _ _ h1 rfl, ms_plc s h2, ms_plc s h3, s.sqT h4⟩, h7.imp fun _ _ z => z.ms s⟩
theorem PrXo.ms {ls : List LpX} (h : PrXo K H v ls) (s : MS H H') : PrXo K H' v ls := by
  obtain ⟨p, xs, ys, e, ⟨dx, l, a, d, h1, h2, h3⟩, h4⟩ := h
  exact ⟨p, xs, ys, e, ⟨dx, l, a, d, s _ _ h1 rfl, s.sqT h2, s.sqT h3⟩, h4.imp fun _ _ z => z.ms s⟩
theorem CdXo.same {g : CdX} (h : CdXo K H v g) (s : Same H H') : CdXo K H' v g := h.ms (.of s)
theorem RdXo.same {r : RdX} (h : RdXo K H v r) (s : Same H H') : RdXo K H' v r := h.ms (.of s)
theorem StXo.same {m : StX} (h : StXo K H v m) (s : Same H H') : StXo K H' v m := h.ms (.of s)
theorem LpXo.same {l : LpX} (h : LpXo K H v l) (s : Same H H') : LpXo K H' v l := h.ms (.of s)
theorem PrXo.same {ls : List LpX} (h : PrXo K H v ls) (s : Same H H') : PrXo K H' v ls := h.ms (.of s)
end
def RdXk (r : RdX) : Prop := NmOk r.x ∧ -12 ≤ r.a ∧ r.a ≤ 12 ∧ -12 ≤ r.b ∧ r.b ≤ 12 ∧ -999 ≤ r.c ∧ r.c ≤ 999 ∧ 1 ≤ r.d ∧ r.d ≤ 3 ∧ r.f ≠ 0 ∧ -999 ≤ r.f ∧ r.f ≤ 999
def CdXk : CdX → Prop
  | .atl a b c => -12 ≤ a ∧ a ≤ 12 ∧ -12 ≤ b ∧ b ≤ 12 ∧ -999 ≤ c ∧ c ≤ 999
  | .rst a b m r => 2 ≤ m ∧ m ≤ 4 ∧ 0 ≤ a ∧ a < m ∧ 0 ≤ b ∧ b < m ∧ 0 ≤ r ∧ r < m
def StXk (s : StX) : Prop := NmOk s.x ∧ (-12 ≤ s.a ∧ s.a ≤ 12 ∧ -12 ≤ s.b ∧ s.b ≤ 12 ∧ -999 ≤ s.c ∧ s.c ≤ 999) ∧ -999 ≤ s.k ∧ s.k ≤ 999 ∧ s.rds.length ≤ 3 ∧ s.gds.length ≤ 3 ∧ (∀ r ∈ s.rds, RdXk r) ∧ ∀ g ∈ s.gds, CdXk g
def LpXk (l : LpX) : Prop := ckLp l.sts.length l.S l.t l.u = none ∧ ∀ s ∈ l.sts, StXk s
/-- i + g in the place of i -/
def mvR (g : Int) (r : RdX) : RdX := { r with a := r.a.fdiv (gg r.a r.b r.d), b := r.b.fdiv (gg r.a r.b r.d), c := (r.c + r.a * g).fdiv (gg r.a r.b r.d), d := r.d.fdiv (gg r.a r.b r.d) }
def mvC (g : Int) : CdX → CdX
  | .atl a b c => .atl (a.fdiv (g2 a b)) (b.fdiv (g2 a b)) (lf3 a b (c + a * g))
  | .rst a b m r => .rst (a.fmod m) (b.fmod m) m ((r - (0 + a * g)).fmod m)
def mvS (g : Int) (ck : List CdX) (s : StX) : StX := { s with c := s.c + s.a * g, rds := s.rds.map (mvR g), gds := ck ++ s.gds.map (mvC g) }
def cSum : CdX → Int × Int × Int
  | .atl a b c => (a, b, c)
  | .rst a b _ _ => (a, b, 0)
/-- the first error of all -/
def ckAll {α : Type} (f : α → Option Er) : List α → Option Er
  | [] => none
  | a :: l => (f a).or (ckAll f l)
theorem ckAll_append {α : Type} {f : α → Option Er} : ∀ {a b : List α}, ckAll f (a ++ b) = (ckAll f a).or (ckAll f b)
  | [], _ => rfl
  | x :: a, b => by
    show (f x).or (ckAll f (a ++ b)) = ((f x).or (ckAll f a)).or (ckAll f b)
    rw [ckAll_append]
    cases f x <;> rfl
theorem ckAll_hit {α : Type} {f : α → Option Er} {l : List α} {i : Nat} {a : α} {e : Er} (h1 : ckAll f (l.take i) = none) (h2 : l[i]? = some a) (h3 : f a = some e) : ckAll f l = some e := by
  have hi : i < l.length := (List.getElem?_eq_some_iff.mp h2).1
  have q : l = l.take (i + 1) ++ l.drop (i + 1) := (List.take_append_drop (i + 1) l).symm
  rw [q, List.take_add_one, h2, ckAll_append, ckAll_append, h1]
  show ((none : Option Er).or ((f a).or none)).or _ = _
  rw [h3]
  rfl
theorem ckAll_step {α : Type} {f : α → Option Er} {l : List α} {i : Nat} {a : α} (h1 : ckAll f (l.take i) = none) (h2 : l[i]? = some a) (h3 : f a = none) : ckAll f (l.take (i + 1)) = none := by
  rw [List.take_add_one, h2, ckAll_append, h1]
  show (none : Option Er).or ((f a).or none) = none
  rw [h3]
  rfl
def ckR1 (r : RdX) : Option Er := ckRead r.x r.f r.a r.b r.c r.d
def ckRs : List RdX → Option Er := ckAll ckR1
/-- what a statement that is made raises -/
def ckMv (s : StX) : Option Er := (ckRs s.rds).or (ckStm s.rds.length s.gds.length s.x (s.gds.map cSum) s.a s.b s.c s.k)
theorem bd12 {x : Int} (h1 : -12 ≤ x) (h2 : x ≤ 12) : Bd 400 x := Bd.of 12 (by decide) (by omega) (by omega)
theorem af_re (q : Addr) : (af q).lookup ("replaced" : Str) = none := af_no q (by decide +kernel)
theorem rf_re (q : Addr) (m r : Int) : (rf q m r).lookup ("replaced" : Str) = none := rf_no q m r (by decide +kernel) (by decide +kernel) (by decide +kernel)
theorem pf_re (q : Addr) (d : Int) : (pf q d).lookup ("replaced" : Str) = none := by
  unfold pf
  rw [lookup_putF, if_neg (by decide +kernel), lookup_putF, if_neg (by decide +kernel)]
  rfl
theorem sf_re (a b c : Int) : (sf a b c).lookup ("replaced" : Str) = none := by
  unfold sf
  rw [lookup_putF, if_neg (by decide +kernel), lookup_putF, if_neg (by decide +kernel), lookup_putF, if_neg (by decide +kernel)]
  rfl
def spPReplW (K : PySem.W.Frag) : Sp := fun vs H Q _ => ∃ (p : Addr) (a b c d g : Int), vs = [.ref p, .int 1, .int g] ∧ PlcAt K H p a b c d ∧ Bd 400 a ∧ Bd 400 g ∧ 1 ≤ d ∧ d < 1073741824 ∧ NewP K H a b (c + a * g) d Q
def spARepl (K : PySem.W.Frag) : Sp := fun vs H Q _ => ∃ (p : Addr) (a b c g : Int), vs = [.ref p, .int 1, .int g] ∧ AtlAt K H p a b c ∧ Bd 400 a ∧ Bd 400 g ∧ g2 a b < 1073741824 ∧ NewA K H (a.fdiv (g2 a b)) (b.fdiv (g2 a b)) (lf3 a b (c + a * g)) Q
def spRRepl (K : PySem.W.Frag) : Sp := fun vs H Q _ => ∃ (p : Addr) (a b m r g : Int), vs = [.ref p, .int 1, .int g] ∧ RstAt K H p a b m r ∧ Bd 400 a ∧ Bd 400 g ∧ 2 ≤ m ∧ m ≤ 4 ∧ 0 ≤ r ∧ r ≤ m - 1 ∧ NewR K H (a.fmod m) (b.fmod m) m ((r - (0 + a * g)).fmod m) Q
section
variable {P : Program} {w : World} {K : PySem.W.Frag} {mg : Str → Option Value} {base : Heap}
theorem sc_replaced_straight : FnScope ["straight", "factor", "shift"] ["straight", "factor", "shift"] (defScope s_replaced_straight) := ⟨rfl, rfl, rfl, by decide +kernel, rfl, by decide +kernel, by decide +kernel⟩
theorem ok_repl {f : Addr} {fd : FuncData} (F : FnP K "replaced_straight" s_replaced_straight f fd) (T : LwTx K mg) (M : MkS P w K mg base) : FnOk P w K mg base CX0 3 f fd ["straight", "factor", "shift"] (spReplW K) := by
  refine F.ok sc_replaced_straight (fun vs H Q E h => ?_) (fun cdv A outer s H vs Q E hr h => ?_)
  · obtain ⟨p, a, b, c, f, g, rfl, _⟩ := h
    rfl
  · obtain ⟨p, a, b, c, f, g, rfl, ⟨dx, hp⟩, ba, bf, bg, k⟩ := h
    refine ⟨_, PSs.nox (pss_one (ps_ret (pe_S T.toStTx M hr (pa_cons (pe_op op_mulW (pe_fld (pv 0) rfl) (pv 1)) (pa_cons (pe_fld (pv 0) rfl) (pa_cons (pe_op op_add (pe_fld (pv 0) rfl) (pe_op op_mulW (pe_fld (pv 0) rfl) (pv 2))) pa_nil)))))), ?_⟩
    refine ⟨_, rfl, p, _, dx, _, _, rfl, hp, T.clS, T.nI, sf_i _ _ _, _, rfl, _, _, rfl, rfl, bd_c ba bf, ?_⟩
    refine ⟨_, rfl, p, _, dx, _, _, rfl, hp, T.clS, T.nN, sf_n _ _ _, ?_⟩
    refine ⟨_, rfl, p, _, dx, _, _, rfl, hp, T.clS, T.nO, sf_one _ _ _, _, rfl, p, _, dx, _, _, rfl, hp, T.clS, T.nI, sf_i _ _ _, _, rfl, _, _, rfl, rfl, bd_c ba bg, _, _, rfl, rfl, ?_⟩
    exact ⟨_, _, _, rfl, k⟩
theorem scStraightreplaced : FnScope ["self", "factor", "shift"] ["self", "factor", "shift"] (defScope iStraightreplaced) := ⟨rfl, rfl, rfl, by decide +kernel, rfl, by decide +kernel, by decide +kernel⟩
theorem ok_SRepl {fd : FuncData} (F : FnM K "Straight" "replaced" "Straight.replaced" iStraightreplaced fd) (T : LwTx K mg) (dRepl : Dn P w K mg base 3 "replaced_straight" ["straight", "factor", "shift"] (spReplW K)) : FnOk P w K mg base CX0 4 (He.ma K (CS K) "replaced") fd ["self", "factor", "shift"] (spReplW K) := by
  refine F.ok scStraightreplaced (fun vs H Q E h => ?_) (fun cdv A outer s H vs Q E hr h => ?_)
  · obtain ⟨p, a, b, c, f, g, rfl, _⟩ := h
    rfl
  · obtain ⟨p, a, b, c, f, g, rfl, hS, ba, bf, bg, k⟩ := h
    exact ⟨_, PSs.nox (pss_one (ps_ret (pe_dn dRepl hr (pa_cons (pv 0) (pa_cons (pv 1) (pa_cons (pv 2) pa_nil)))))), _, rfl, _, rfl, _, rfl, p, a, b, c, f, g, rfl, hS, ba, bf, bg, k⟩
theorem scPlacereplaced : FnScope ["self", "factor", "shift"] ["self", "factor", "shift"] (defScope iPlacereplaced) := ⟨rfl, rfl, rfl, by decide +kernel, rfl, by decide +kernel, by decide +kernel⟩
theorem ok_PRepl {fd : FuncData} (F : FnM K "Place" "replaced" "Place.replaced" iPlacereplaced fd) (T : LwTx K mg) (MP : MkP P w K mg base) (dRepl : Dn P w K mg base 3 "replaced_straight" ["straight", "factor", "shift"] (spReplW K)) : FnOk P w K mg base CX0 6 (He.ma K (CP K) "replaced") fd ["self", "factor", "shift"] (spPReplW K) := by
  refine F.ok scPlacereplaced (fun vs H Q E h => ?_) (fun cdv A outer s H vs Q E hr h => ?_)
  · obtain ⟨p, a, b, c, d, g, rfl, _⟩ := h
    rfl
  · obtain ⟨p, a, b, c, d, g, rfl, ⟨dx, q, hp, hq⟩, ba, bg, d0, d1, k⟩ := h
    refine ⟨_, PSs.nox (pss_one (ps_ret (pe_P T.plc MP hr at_E0 (pa_cons (pe_dn dRepl hr (pa_cons (pe_fld (pv 0) rfl) (pa_cons (pv 1) (pa_cons (pv 2) pa_nil)))) (pa_cons (pe_fld (pv 0) rfl) pa_nil))))), ?_⟩
    have g1 : gg a b d < 1073741824 := by
      have := gg_le (a := a) (b := b) (d := d) (by omega)
      omega
    refine ⟨_, rfl, p, _, dx, _, _, rfl, hp, T.plc.clP, T.plc.nS, pf_s _ _, _, rfl, _, rfl, q, a, b, c, 1, g, rfl, hq, ba, Bd.of 1 (by decide) (by omega) (by omega), bg, fun r H1 s1 _ hr1 => ?_⟩
    rw [Int.mul_one] at hr1
    exact ⟨_, rfl, p, _, dx, _, _, rfl, s1 _ _ hp, T.plc.clP, T.plc.nD, pf_d _ _, _, d, rfl, _, _, _, .inl ⟨r, rfl, hr1⟩, fun z => absurd d0 (by omega), fun _ => ⟨g1, fun t H2 s2 ht => k t H2 (s1.trans s2) ht⟩⟩
theorem scAtLeastreplaced : FnScope ["self", "factor", "shift"] ["self", "factor", "shift"] (defScope iAtLeastreplaced) := ⟨rfl, rfl, rfl, by decide +kernel, rfl, by decide +kernel, by decide +kernel⟩
theorem ok_ARepl {fd : FuncData} (F : FnM K "AtLeast" "replaced" "AtLeast.replaced" iAtLeastreplaced fd) (T : LwTx K mg) (MA : MkA P w K mg base) (dRepl : Dn P w K mg base 3 "replaced_straight" ["straight", "factor", "shift"] (spReplW K)) : FnOk P w K mg base CX0 6 (He.ma K (CA K) "replaced") fd ["self", "factor", "shift"] (spARepl K) := by
  refine F.ok scAtLeastreplaced (fun vs H Q E h => ?_) (fun cdv A outer s H vs Q E hr h => ?_)
  · obtain ⟨p, a, b, c, g, rfl, _⟩ := h
    rfl
  · obtain ⟨p, a, b, c, g, rfl, ⟨dx, q, hp, hq⟩, ba, bg, hg, k⟩ := h
    refine ⟨_, PSs.nox (pss_one (ps_ret (pe_AK (K := K) rfl T.toAtTx MA hr (pa_cons (pe_dn dRepl hr (pa_cons (pe_fld (pv 0) rfl) (pa_cons (pv 1) (pa_cons (pv 2) pa_nil)))) pa_nil)))), ?_⟩
    refine ⟨_, rfl, p, _, dx, _, _, rfl, hp, T.clA, T.nAS, af_s _, _, rfl, _, rfl, q, a, b, c, 1, g, rfl, hq, ba, Bd.of 1 (by decide) (by omega) (by omega), bg, fun r H1 s1 _ hr1 => ?_⟩
    rw [Int.mul_one] at hr1
    exact ⟨_, _, _, _, rfl, .inl ⟨r, rfl, hr1⟩, hg, fun u H2 s2 hu => k u H2 (s1.trans s2) hu⟩
theorem scRestreplaced : FnScope ["self", "factor", "shift"] ["self", "factor", "shift"] (defScope iRestreplaced) := ⟨rfl, rfl, rfl, by decide +kernel, rfl, by decide +kernel, by decide +kernel⟩
theorem ok_RRepl {fd : FuncData} (F : FnM K "Rest" "replaced" "Rest.replaced" iRestreplaced fd) (T : LwTx K mg) (MR : MkR P w K mg base) (dRepl : Dn P w K mg base 3 "replaced_straight" ["straight", "factor", "shift"] (spReplW K)) : FnOk P w K mg base CX0 6 (He.ma K (CR K) "replaced") fd ["self", "factor", "shift"] (spRRepl K) := by
  refine F.ok scRestreplaced (fun vs H Q E h => ?_) (fun cdv A outer s H vs Q E hr h => ?_)
  · obtain ⟨p, a, b, m, r, g, rfl, _⟩ := h
    rfl
  · obtain ⟨p, a, b, m, r, g, rfl, ⟨dx, q, hp, hq⟩, ba, bg, m2, m4, r0, r1, k⟩ := h
    refine ⟨_, PSs.nox (pss_one (ps_ret (pe_RK (K := K) rfl T.toAtTx MR hr at_E0 (pa_cons (pe_dn dRepl hr (pa_cons (pe_fld (pv 0) rfl) (pa_cons (pv 1) (pa_cons (pv 2) pa_nil)))) (pa_cons (pe_fld (pv 0) rfl) (pa_cons (pe_fld (pv 0) rfl) pa_nil)))))), ?_⟩
    refine ⟨_, rfl, p, _, dx, _, _, rfl, hp, T.clQ, T.nRS, rf_s _ _ _, _, rfl, _, rfl, q, a, b, 0, 1, g, rfl, hq, ba, Bd.of 1 (by decide) (by omega) (by omega), bg, fun u H1 s1 _ hu => ?_⟩
    rw [Int.mul_one] at hu
    refine ⟨_, rfl, p, _, dx, _, _, rfl, s1 _ _ hp, T.clQ, T.nRM, rf_m _ _ _, _, rfl, p, _, dx, _, _, rfl, s1 _ _ hp, T.clQ, T.nRR, rf_r _ _ _, ?_⟩
    exact ⟨_, m, r, rfl, _, _, _, .inl ⟨u, rfl, hu⟩, fun z => absurd ⟨m2, m4⟩ z, fun _ _ z => absurd ⟨r0, r1⟩ z, fun _ _ _ _ y H2 s2 hy => k y H2 (s1.trans s2) hy⟩
end
end K49
set_option maxHeartbeats 4000000
namespace K49
open PySem PySem.Spec PyProof.Rows L2 Z
def GdMk : Gd → Prop
  | .lea a b c => -12 ≤ a ∧ a ≤ 12 ∧ -12 ≤ b ∧ b ≤ 12 ∧ -999 ≤ c ∧ c ≤ 999
  | .rst a b c m r => (-12 ≤ a ∧ a ≤ 12 ∧ -12 ≤ b ∧ b ≤ 12 ∧ -999 ≤ c ∧ c ≤ 999) ∧ 2 ≤ m ∧ m ≤ 4 ∧ 0 ≤ r ∧ r ≤ m - 1
def RdMk (r : RdM) : Prop := NmOk r.x ∧ (-12 ≤ r.a ∧ r.a ≤ 12 ∧ -12 ≤ r.b ∧ r.b ≤ 12 ∧ -999 ≤ r.c ∧ r.c ≤ 999) ∧ 1 ≤ r.d ∧ r.d ≤ 3 ∧ r.f ≠ 0 ∧ -999 ≤ r.f ∧ r.f ≤ 999
def StMk (s : StM) : Prop := NmOk s.x ∧ (-12 ≤ s.a ∧ s.a ≤ 12 ∧ -12 ≤ s.b ∧ s.b ≤ 12 ∧ -999 ≤ s.c ∧ s.c ≤ 999) ∧ -999 ≤ s.k ∧ s.k ≤ 999 ∧ s.rds.length ≤ 3 ∧ s.gds.length ≤ 3 ∧ (∀ r ∈ s.rds, RdMk r) ∧ ∀ g ∈ s.gds, GdMk g
def LpMk (l : LpM) : Prop := 0 ≤ l.l0 ∧ l.l0 ≤ 3 ∧ -999 ≤ l.l1 ∧ l.l1 ≤ 999 ∧ 1 ≤ l.l2 ∧ l.l2 ≤ 3 ∧ 0 ≤ l.h0 ∧ l.h0 ≤ 3 ∧ -999 ≤ l.h1 ∧ l.h1 ≤ 999 ∧ 1 ≤ l.h2 ∧ l.h2 ≤ 3 ∧ 1 ≤ l.S ∧ l.S ≤ 16 ∧ (1 < l.S → l.l2 = 1) ∧ 0 ≤ l.sts.length ∧ l.sts.length ≤ 16 ∧ ∀ s ∈ l.sts, StMk s
def oG : Gd → CdX
  | .lea a b c => .atl (a.fdiv (g2 a b)) (b.fdiv (g2 a b)) (lf3 a b c)
  | .rst a b c m r => .rst (a.fmod m) (b.fmod m) m ((r - c).fmod m)
def oR (r : RdM) : RdX := { x := r.x, a := r.a.fdiv (gg r.a r.b r.d), b := r.b.fdiv (gg r.a r.b r.d), c := r.c.fdiv (gg r.a r.b r.d), d := r.d.fdiv (gg r.a r.b r.d), f := r.f }
def oS (s : StM) : StX := { x := s.x, a := s.a, b := s.b, c := s.c, k := s.k, rds := s.rds.map oR, gds := s.gds.map oG }
def oL (l : LpM) : LpX := { t := lf4 l.l0 l.l1 l.l2, u := lf4 l.h0 l.h1 l.h2, S := l.S, dn := l.dn, sts := l.sts.map oS }
theorem cnds_x {K : PySem.W.Frag} {mg : Str → Option Value} (T : LwTx K mg) {H : Hp} {ws : List V} {gs : List CdX} (f : Fa (CdXo K H) ws gs) : Cnds K H ws (gs.map cSum) := by
  refine ⟨by rw [f.1, List.length_map], fun i v t h1 h2 => ?_⟩
  rw [List.getElem?_map] at h2
  obtain ⟨g, hg, rfl⟩ := Option.map_eq_some_iff.mp h2
  have h := f.2 i v g h1 hg
  cases g with
  | atl a b c =>
    obtain ⟨p, e, dx, q, h3, h4⟩ := h
    exact ⟨p, _, dx, _, q, e, h3, T.clA, T.nAS, af_s _, h4⟩
  | rst a b m r =>
    obtain ⟨p, e, dx, q, h3, h4⟩ := h
    exact ⟨p, _, dx, _, q, e, h3, T.clQ, T.nRS, rf_s _ _ _, h4⟩
theorem cks_x : ∀ {gs : List CdX}, (∀ g ∈ gs, CdXk g) → ckCs (gs.map cSum) = none
  | [], _ => rfl
  | g :: gs, ok => by
    have ih := cks_x fun g' h => ok g' (List.mem_cons_of_mem _ h)
    have ok := ok g (List.mem_cons_self ..)
    rw [List.map_cons]
    show (ckS _ _ _).or (ckCs _) = none
    rw [ih]
    cases g with
    | atl a b c =>
      obtain ⟨h1, h2, h3, h4, h5, h6⟩ := ok
      show (ckS a b c).or none = none
      rw [cks_ok h1 h2 h3 h4 h5 h6]
      rfl
    | rst a b m r =>
      obtain ⟨h1, h2, h3, h4, h5, h6, _⟩ := ok
      show (ckS a b 0).or none = none
      rw [cks_ok (by omega) (by omega) (by omega) (by omega) (by decide) (by decide)]
      rfl
theorem oG_ok {g : Gd} (h : GdMk g) : CdXk (oG g) := by
  cases g with
  | lea a b c =>
    obtain ⟨h1, h2, h3, h4, h5, h6⟩ := h
    show -12 ≤ a.fdiv (g2 a b) ∧ a.fdiv (g2 a b) ≤ 12 ∧ -12 ≤ b.fdiv (g2 a b) ∧ b.fdiv (g2 a b) ≤ 12 ∧ -999 ≤ lf3 a b c ∧ lf3 a b c ≤ 999
    unfold lf3
    by_cases z : g2 a b = 0
    · obtain ⟨rfl, rfl⟩ := g2_zero z
      rw [if_pos z, Int.zero_fdiv]
      split <;> decide
    · rw [if_neg z]
      have g0 : (0 : Int) < (g2 a b : Int) := by omega
      have ga := fdiv_bd (x := a) (M := 12) g0 (by decide) (by omega) (by omega)
      have gb := fdiv_bd (x := b) (M := 12) g0 (by decide) (by omega) (by omega)
      have gc := fdiv_bd (x := c) (M := 999) g0 (by decide) (by omega) (by omega)
      exact ⟨ga.1, ga.2, gb.1, gb.2, gc.1, gc.2⟩
  | rst a b c m r =>
    obtain ⟨_, m2, m4, _⟩ := h
    have fa := fmod_range (x := a) (show 0 < m by omega)
    have fb := fmod_range (x := b) (show 0 < m by omega)
    have fr := fmod_range (x := r - c) (show 0 < m by omega)
    exact ⟨m2, m4, fa.1, fa.2, fb.1, fb.2, fr.1, fr.2⟩
theorem oR_ok {r : RdM} (h : RdMk r) : RdXk (oR r) := by
  obtain ⟨rnm, ⟨ra0, ra1, rb0, rb1, rc0, rc1⟩, rd0, rd1, rf0, rf1, rf2⟩ := h
  have g0 := gg_pos (a := r.a) (b := r.b) (d := r.d) (by omega)
  have ga := fdiv_bd (x := r.a) (M := 12) (g := (gg r.a r.b r.d : Int)) (by omega) (by decide) (by omega) (by omega)
  have gb := fdiv_bd (x := r.b) (M := 12) (g := (gg r.a r.b r.d : Int)) (by omega) (by decide) (by omega) (by omega)
  have gc := fdiv_bd (x := r.c) (M := 999) (g := (gg r.a r.b r.d : Int)) (by omega) (by decide) (by omega) (by omega)
  have gd := dv_bd (a := r.a) (b := r.b) (d := r.d) (by omega)
  exact ⟨rnm, ga.1, ga.2, gb.1, gb.2, gc.1, gc.2, gd.1, Int.le_trans gd.2 rd1, rf0, rf1, rf2⟩
theorem oS_ok {s : StM} (h : StMk s) : StXk (oS s) := by
  obtain ⟨h1, h2, h3, h4, h5, h6, h7, h8⟩ := h
  refine ⟨h1, h2, h3, h4, by show (s.rds.map oR).length ≤ 3; rw [List.length_map]; exact h5, by show (s.gds.map oG).length ≤ 3; rw [List.length_map]; exact h6, fun r hr => ?_, fun g hg => ?_⟩
  · obtain ⟨m, hm, rfl⟩ := List.mem_map.mp hr
    exact oR_ok (h7 m hm)
  · obtain ⟨m, hm, rfl⟩ := List.mem_map.mp hg
    exact oG_ok (h8 m hm)
theorem ckRead_ok {r : RdX} (h : RdXk r) : ckRead r.x r.f r.a r.b r.c r.d = none := by
  obtain ⟨h1, h2, h3, h4, h5, h6, h7, h8, h9, h10, h11, h12⟩ := h
  unfold ckRead ckP
  rw [ck_name h1, if_neg h10, ckn_ok h11 h12, cks_ok h2 h3 h4 h5 h6 h7, ckn_ok h8 h9]
  rfl
theorem ckLp_ok {m S : Int} {l0 l1 l2 h0 h1 h2 : Int} (hm : m ≤ 16) (S1 : 1 ≤ S) (S16 : S ≤ 16) (hS : 1 < S → l2 = 1) (a0 : 0 ≤ l0) (a3 : l0 ≤ 3) (c0 : -999 ≤ l1) (c1 : l1 ≤ 999) (d1 : 1 ≤ l2) (d3 : l2 ≤ 3) (x0 : 0 ≤ h0) (x3 : h0 ≤ 3) (y0 : -999 ≤ h1) (y1 : h1 ≤ 999) (z1 : 1 ≤ h2) (z3 : h2 ≤ 3) : ckLp m S (lf4 l0 l1 l2) (lf4 h0 h1 h2) = none := by
  have f1 := rg_least (a := l0) (c := l1) (d := l2) a0 a3 c0 c1 d1 d3
  have f2 := rg_least (a := h0) (c := h1) (d := h2) x0 x3 y0 y1 z1 z3
  unfold ckLp ckLoop ckM
  rw [if_pos hm, ckn_ok S1 S16, rg_ck f1, rg_ck f2, if_neg ?_]
  · rfl
  rintro ⟨q1, q2⟩
  have e := hS q1
  have q3 : 1 < l2.fdiv (gg 0 l0 l2) := q2
  have := (dv_bd (a := 0) (b := l0) (d := l2) (by omega)).2
  omega
theorem oL_ok {l : LpM} (h : LpMk l) : LpXk (oL l) := by
  obtain ⟨a0, a1, b0, b1, c0, c1, x0, x1, y0, y1, z0, z1, S0, S1, hS, n0, n3, okS⟩ := h
  refine ⟨ckLp_ok (by show ((l.sts.map oS).length : Int) ≤ 16; rw [List.length_map]; omega) S0 S1 hS a0 a1 b0 b1 c0 c1 x0 x1 y0 y1 z0 z1, fun s hs => ?_⟩
  obtain ⟨m, hm, rfl⟩ := List.mem_map.mp hs
  exact oS_ok (okS m hm)
def spMGuardX (K : PySem.W.Frag) : Sp := fun vs H Q _ => ∃ (v : V) (g : Gd), vs = [v] ∧ DT H v (gdD g) ∧ GdMk g ∧ ∀ v' H', Same H H' → CdXo K H' v' (oG g) → Q v' H'
def spMStmX (K : PySem.W.Frag) : Sp := fun vs H Q _ => ∃ (v : V) (s : StM), vs = [v] ∧ DT H v (stD s) ∧ StMk s ∧ ∀ v' H', Same H H' → StXo K H' v' (oS s) → Q v' H'
def spMLoopX (K : PySem.W.Frag) : Sp := fun vs H Q _ => ∃ (v : V) (l : LpM), vs = [v] ∧ DT H v (lpD l) ∧ LpMk l ∧ ∀ v' H', Same H H' → LpXo K H' v' (oL l) → Q v' H'
def spMadeX (K : PySem.W.Frag) : Sp := fun vs H Q _ => ∃ (r : Addr) (xs : List V) (ls : List LpM), vs = [.ref r] ∧ H r = some (.lst xs) ∧ DTs H xs (ls.map lpD) ∧ ls.length ≤ 6 ∧ (∀ l ∈ ls, LpMk l) ∧ ∀ v' H', Same H H' → PrXo K H' v' (ls.map oL) → Q v' H'
section
variable {K : PySem.W.Frag} {H : Hp}
theorem rdNsX {rs : List V} {ms : List RdX} (h : Fa (RdXo K H) rs ms) : RdNs K H rs (ms.map (·.x)) := by
  refine ⟨by rw [List.length_map, h.1], fun i v y a b => ?_⟩
  rw [List.getElem?_map] at b
  obtain ⟨m, hm, rfl⟩ := Option.map_eq_some_iff.mp b
  obtain ⟨p, e, ⟨dx, q, h1, _⟩⟩ := h.2 i v m a hm
  exact ⟨p, dx, _, e, h1, rdf_a _ _ _⟩
theorem stNsX {xs : List V} {ms : List StX} (h : Fa (StXo K H) xs ms) : StNs K H xs (ms.map fun m => m.x :: m.rds.map (·.x)) := by
  refine ⟨by rw [List.length_map, h.1], fun i v y a b => ?_⟩
  rw [List.getElem?_map] at b
  obtain ⟨m, hm, rfl⟩ := Option.map_eq_some_iff.mp b
  obtain ⟨p, rs, cs, e, ⟨dx, q, r, g, h1, _, h3, _⟩, h5, _⟩ := h.2 i v m a hm
  exact ⟨p, dx, _, m.x, r, rs, _, e, h1, stf_a _ _ _ _ _, stf_r _ _ _ _ _, h3, rdNsX h5, rfl⟩
theorem lpNsX {xs : List V} {ls : List LpX} (h : Fa (LpXo K H) xs ls) : LpNs K H xs (ls.map fun l => (l.sts.map fun m => m.x :: m.rds.map (·.x)).flatten) := by
  refine ⟨by rw [List.length_map, h.1], fun i v y a b => ?_⟩
  rw [List.getElem?_map] at b
  obtain ⟨m, hm, rfl⟩ := Option.map_eq_some_iff.mp b
  obtain ⟨p, ws, e, ⟨dx, lo, hi, st, h1, _, _, h4⟩, h7⟩ := h.2 i v m a hm
  exact ⟨p, dx, _, st, ws, _, e, h1, lp_tt _ _ _ _ _, h4, stNsX h7, rfl⟩
end
section
variable {P : Program} {w : World} {K : PySem.W.Frag} {mg : Str → Option Value} {base : Heap}
theorem ok_mguardX {f : Addr} {fd : FuncData} (F : FnP K "_law_made_guard" s_law_made_guard f fd) (T : LwTx K mg) (MA : MkA P w K mg base) (MR : MkR P w K mg base) (dSum : Dn P w K mg base 3 "_law_sum" ["_law_row"] (spSum K)) : FnOk P w K mg base CX0 6 f fd ["_law_guard"] (spMGuardX K) := by
  refine F.ok sc_law_made_guard (fun vs H Q E h => ?_) (fun cdv A outer s H vs Q E hr h => ?_)
  · obtain ⟨v, g, rfl, _⟩ := h
    rfl
  · obtain ⟨v, g, rfl, hd, hok, k⟩ := h
    refine ⟨_, PSs.nox (pss_cons (ps_if (pt_cmpR op_eq (pe_ix (ix_tupK (K := K) rfl) (pv 0) pe_int (fun _ _ => rfl)) pe_str (nomark _)) (pss_one (ps_ret (pe_RK (K := K) rfl T.toAtTx MR hr at_E0 (pa_cons (pe_dn dSum hr (pa_cons (pe_ix (ix_tupK (K := K) rfl) (pv 0) pe_int (fun _ _ => rfl)) pa_nil)) (pa_cons (pe_ix (ix_tupK (K := K) rfl) (pv 0) pe_int (fun _ _ => rfl)) (pa_cons (pe_ix (ix_tupK (K := K) rfl) (pv 0) pe_int (fun _ _ => rfl)) pa_nil)))))) pss_nil)
      (pss_one (ps_ret (pe_AK (K := K) rfl T.toAtTx MA hr (pa_cons (pe_dn dSum hr (pa_cons (pe_ix (ix_tupK (K := K) rfl) (pv 0) pe_int (fun _ _ => rfl)) pa_nil)) pa_nil))))), ?_⟩
    cases g with
    | lea a b c =>
      obtain ⟨q, xs, rfl, hq, ds⟩ := hd.tup'
      cases ds with
      | cons r1 r =>
        cases r with
        | cons r2 r =>
          cases r
          cases r1
          obtain ⟨t3, rfl, h3⟩ := dt3' r2
          refine ⟨_, rfl, q, _, _, _, rfl, rfl, SqT.of hq, at0, rfl, _, rfl, if_no (by decide +kernel) ?_⟩
          refine ⟨_, rfl, q, _, _, _, rfl, rfl, SqT.of hq, at1, t3, a, b, c, [], rfl, h3, fun r1 H1 s1 hr1 => ?_⟩
          refine ⟨.ref r1, a, b, c, rfl, .inl ⟨r1, rfl, hr1⟩, ?_, fun p2 H2 s2 h2 => k _ _ (s1.trans s2) ⟨p2, rfl, h2⟩⟩
          unfold GdMk at hok
          exact Nat.lt_of_le_of_lt (g2_le (N := 12) (by omega) (by omega)) (by decide)
    | rst a b c m r =>
      obtain ⟨q, xs, rfl, hq, ds⟩ := hd.tup'
      obtain ⟨hok, m2, m4, r0, r1⟩ := hok
      cases ds with
      | cons d1 ds =>
        cases ds with
        | cons d2 ds =>
          cases ds with
          | cons d3 ds =>
            cases ds with
            | cons d4 ds =>
              cases ds
              cases d1
              cases d3
              cases d4
              obtain ⟨t3, rfl, h3⟩ := dt3' d2
              refine ⟨_, rfl, q, _, _, _, rfl, rfl, SqT.of hq, at0, rfl, _, rfl, if_yes (by decide +kernel) ?_⟩
              refine ⟨_, rfl, q, _, _, _, rfl, rfl, SqT.of hq, at1, t3, a, b, c, [], rfl, h3, fun r1 H1 s1 hr1 => ?_⟩
              have hq1 := s1 _ _ hq
              refine ⟨_, rfl, q, _, _, _, rfl, rfl, SqT.of hq1, at2, _, rfl, q, _, _, _, rfl, rfl, SqT.of hq1, at3, .ref r1, m, r, rfl, a, b, c, .inl ⟨r1, rfl, hr1⟩, fun z => absurd ⟨m2, m4⟩ z, fun _ _ z => absurd ⟨r0, by omega⟩ z, fun _ _ _ _ p2 H2 s2 h2 => k _ _ (s1.trans s2) ⟨p2, rfl, h2⟩⟩
theorem ok_mstmX {f : Addr} {fd : FuncData} (F : FnP K "_law_made_statement" s_law_made_statement f fd) (T : LwTx K mg) (MP : MkP P w K mg base) (MRd : MkRd P w K mg base) (MSt : MkSt P w K mg base) (dSum : Dn P w K mg base 3 "_law_sum" ["_law_row"] (spSum K))
    (dMGuard : Dn P w K mg base 6 "_law_made_guard" ["_law_guard"] (spMGuardX K)) : FnOk P w K mg base CX0 9 f fd ["_law_row"] (spMStmX K) := by
  refine F.ok sc_law_made_statement (fun vs H Q E h => ?_) (fun cdv A outer s H vs Q E hr h => ?_)
  · obtain ⟨v, m, rfl, _⟩ := h
    rfl
  · obtain ⟨v, m, rfl, hd, hok, k⟩ := h
    refine ⟨_, PSs.nox (pss_cons (ps_setLc (i := 1) (own := [("_law_one", 2)]) (g := gName 2) (tt := tYes) rfl sc_law_made_statement.nd rfl rfl (sw_true rfl rfl rfl (by decide +kernel)) (pi_tup (pe_ix (ix_tupK (K := K) rfl) (pv 0) pe_int (fun _ _ => rfl))) (blkOk_by (N := ["_law_row", "_law_read", "_law_one", "_law_guards", "_law_guard"]) (sc := defScope s_law_made_statement) (by decide +kernel)) (fun _ _ _ _ _ => (pg_name (i := 2) sc_law_made_statement.nd rfl (.inl rfl))) (fun _ _ _ _ _ => pts_nil) (fun _ _ _ _ _ => (pe_RdK (K := K) MRd rfl hr at_E0 (pa_cons (pe_ix (ix_tupK (K := K) rfl) (pv 2) pe_int (fun _ _ => rfl)) (pa_cons (pe_PK (K := K) rfl T.plc MP hr at_E0 (pa_cons (pe_dn dSum hr (pa_cons (pe_ix (ix_tupK (K := K) rfl) (pv 2) pe_int (fun _ _ => rfl)) pa_nil)) (pa_cons (pe_ix (ix_tupK (K := K) rfl) (pe_ix (ix_tupK (K := K) rfl) (pv 2) pe_int (fun _ _ => rfl)) pe_int (fun _ _ => rfl)) pa_nil))) pa_nil)) (pk_cons (pe_ix (ix_tupK (K := K) rfl) (pv 2) pe_int (fun _ _ => rfl)) pk_nil))))
      (pss_cons (ps_setLc (i := 3) (own := [("_law_guard", 4)]) (g := gName 4) (tt := tYes) rfl sc_law_made_statement.nd rfl rfl (sw_true rfl rfl rfl (by decide +kernel)) (pi_tup (pe_ix (ix_tupK (K := K) rfl) (pv 0) pe_int (fun _ _ => rfl))) (blkOk_by (N := ["_law_row", "_law_read", "_law_one", "_law_guards", "_law_guard"]) (sc := defScope s_law_made_statement) (by decide +kernel)) (fun _ _ _ _ _ => (pg_name (i := 4) sc_law_made_statement.nd rfl (.inl rfl))) (fun _ _ _ _ _ => pts_nil) (fun _ _ _ _ _ => (pe_dn dMGuard hr (pa_cons (pv 4) pa_nil))))
      (pss_one (ps_ret (pe_StK2 (K := K) MSt rfl hr at_E0 (pa_cons (pe_ix (ix_tupK (K := K) rfl) (pv 0) pe_int (fun _ _ => rfl)) (pa_cons (pe_dn dSum hr (pa_cons (pe_ix (ix_tupK (K := K) rfl) (pv 0) pe_int (fun _ _ => rfl)) pa_nil)) (pa_cons (pe_ix (ix_tupK (K := K) rfl) (pv 0) pe_int (fun _ _ => rfl)) pa_nil))) (pk_cons (pv 1) (pk_cons (pv 3) pk_nil))))))), ?_⟩
    obtain ⟨t, q, tr, tg, xr, xg, rfl, ht, hq, hr', dr, hg, dg⟩ := dt_st hd
    obtain ⟨nmx, ⟨sa0, sa1, sb0, sb1, sc0, sc1⟩, k0, k1, lr, lg, okr, okg⟩ := hok
    refine ⟨_, rfl, t, _, _, _, rfl, rfl, SqT.of ht, at3, tr, rfl, ⟨_, SqT.of hr'⟩, fun D hD => ?_⟩
    -- the reads
    refine lc_tup (K := K) (xs := xr) (fun i Hc => ∃ vs, Hc D = some (.lst vs) ∧ Fa (RdXo K Hc) vs ((m.rds.take i).map oR) ∧ Same H Hc) ⟨[], upd_same, .nil, Same.new _ (Same.refl H) hD⟩ (fun i Hc _ z => SqT.of (z.choose_spec.2.2 _ _ hr')) ?_ ?_
    · rintro i v Hc hv ⟨vs, eD, fa, sc⟩
      obtain ⟨r, er, dv⟩ := (dr.to (.of sc)).map' hv
      obtain ⟨t4, q4, rfl, h4, hq4⟩ := dt_rd dv
      obtain ⟨rnm, ⟨ra0, ra1, rb0, rb1, rc0, rc1⟩, rd0, rd1, rf0, rf1, rf2⟩ := okr r (List.mem_of_getElem? er)
      refine ⟨rfl, yes_of ?_⟩
      refine ⟨_, rfl, t4, _, _, _, rfl, rfl, SqT.of h4, at0, _, rfl, t4, _, _, _, rfl, rfl, SqT.of h4, at1, q4, r.a, r.b, r.c, _, rfl, hq4, fun r1 H1 s1 hr1 => ?_⟩
      have h4' := s1 _ _ h4
      refine ⟨_, rfl, t4, _, _, _, rfl, rfl, SqT.of h4', at1, _, _, _, _, rfl, rfl, SqT.of (s1 _ _ hq4), at3, .ref r1, r.d, rfl, r.a, r.b, r.c, .inl ⟨r1, rfl, hr1⟩, (fun z => absurd z (by omega)), fun d1 => ⟨?_, fun pp H2 s2 hpp => ?_⟩⟩
      · have := gg_le (a := r.a) (b := r.b) (d := r.d) (by omega)
        omega
      have g0 := gg_pos (a := r.a) (b := r.b) (d := r.d) (by omega)
      have ga := fdiv_bd (x := r.a) (M := 12) (g := (gg r.a r.b r.d : Int)) (by omega) (by decide) (by omega) (by omega)
      have gb := fdiv_bd (x := r.b) (M := 12) (g := (gg r.a r.b r.d : Int)) (by omega) (by decide) (by omega) (by omega)
      have gc := fdiv_bd (x := r.c) (M := 999) (g := (gg r.a r.b r.d : Int)) (by omega) (by decide) (by omega) (by omega)
      have gd := dv_bd (a := r.a) (b := r.b) (d := r.d) (by omega)
      refine ⟨_, rfl, t4, _, _, _, rfl, rfl, SqT.of (s2 _ _ h4'), at2, rfl, rfl, r.x, .ref pp, r.f, _, _, _, _, rfl, Nat.le_trans rnm.2.1 (by decide), .inl ⟨pp, rfl, hpp⟩, Out.ok ?_ fun p3 H3 s3 h3 => ?_⟩
      · unfold ckRead ckP
        rw [ck_name rnm, if_neg rf0, ckn_ok rf1 rf2, cks_ok ga.1 ga.2 gb.1 gb.2 gc.1 gc.2, ckn_ok gd.1 (by omega)]
        rfl
      have s13 := s1.trans (s2.trans s3)
      have eD3 := s13 _ _ eD
      refine ⟨vs, eD3, sz1l _ ?_, vs ++ [.ref p3], upd_same, ?_, fun b o e => ?_⟩
      · rw [fa.1, List.length_map, List.length_take]
        omega
      · rw [List.take_add_one, er, List.map_append]
        have msU : MS H3 (upd H3 D (.lst (vs ++ [.ref p3]))) := .updL eD3
        exact (fa.imp fun _ _ z => (z.same s13).ms msU).snoc (RdXo.ms (r := oR r) ⟨p3, rfl, h3⟩ msU)
      · rw [upd_ne (ne_of_none e hD)]
        exact s13 _ _ (sc b o e)
    rintro H1 ⟨vs, eD, fa, s1⟩
    have lxr : xr.length = m.rds.length := by rw [dr.len, List.length_map]
    rw [lxr, List.take_length] at fa
    refine normG (σ' := [some (.ref t), some (.ref D), none, none, none]) rfl ?_
    -- the conditions
    refine ⟨_, rfl, t, _, _, _, rfl, rfl, SqT.of (s1 _ _ ht), at4, tg, rfl, ⟨_, SqT.of (s1 _ _ hg)⟩, fun D2 hD2 => ?_⟩
    refine lc_tup (K := K) (xs := xg) (fun i Hc => ∃ ws, Hc D2 = some (.lst ws) ∧ Fa (CdXo K Hc) ws ((m.gds.take i).map oG) ∧ Same H1 Hc) ⟨[], upd_same, .nil, Same.new _ (Same.refl H1) hD2⟩ (fun i Hc _ z => SqT.of (z.choose_spec.2.2 _ _ (s1 _ _ hg))) ?_ ?_
    · rintro i v Hc hv ⟨ws, eD2, fg, sc⟩
      obtain ⟨g, eg, dv⟩ := (dg.to (.of (s1.trans sc))).map' hv
      refine ⟨rfl, yes_of ?_⟩
      refine ⟨_, rfl, v, g, rfl, dv, okg g (List.mem_of_getElem? eg), fun v' H' s' hv' => ?_⟩
      have eD3 := s' _ _ eD2
      refine ⟨ws, eD3, sz1l _ ?_, ws ++ [v'], upd_same, ?_, fun b o e => ?_⟩
      · rw [fg.1, List.length_map, List.length_take]
        omega
      · rw [List.take_add_one, eg, List.map_append]
        have msU : MS H' (upd H' D2 (.lst (ws ++ [v']))) := .updL eD3
        exact (fg.imp fun _ _ z => (z.same s').ms msU).snoc (hv'.ms msU)
      · rw [upd_ne (ne_of_none e hD2)]
        exact s' _ _ (sc b o e)
    rintro H2 ⟨ws, eD2, fg, s2⟩
    have lxg : xg.length = m.gds.length := by rw [dg.len, List.length_map]
    rw [lxg, List.take_length] at fg
    refine normG (σ' := [some (.ref t), some (.ref D), none, some (.ref D2), none]) rfl ?_
    have s12 := s1.trans s2
    refine ⟨_, rfl, t, _, _, _, rfl, rfl, SqT.of (s12 _ _ ht), at0, _, rfl, t, _, _, _, rfl, rfl, SqT.of (s12 _ _ ht), at1, q, m.a, m.b, m.c, [], rfl, s12 _ _ hq, fun r1 H3 s3 hr1 => ?_⟩
    refine ⟨_, rfl, t, _, _, _, rfl, rfl, SqT.of (s3 _ _ (s12 _ _ ht)), at2, _, rfl, _, rfl, rfl, rfl, ?_⟩
    have hcc := cnds_x T fg
    have hck : ckCs ((m.gds.map oG).map cSum) = none := cks_x fun g hg => by
      obtain ⟨m0, hm0, rfl⟩ := List.mem_map.mp hg
      exact oG_ok (okg m0 hm0)
    refine ⟨m.x, .ref r1, m.k, D, D2, vs, ws, (m.gds.map oG).map cSum, m.a, m.b, m.c, rfl, Nat.le_trans nmx.2.1 (by decide), .inl ⟨r1, rfl, hr1⟩, .inl (SqL.of (s3 _ _ (s2 _ _ eD))), .inl (SqL.of (s3 _ _ eD2)), hcc.same s3, Out.ok ?_ fun p4 H4 s4 h4 => ?_⟩
    · unfold ckStm ckM
      rw [fa.1, fg.1, List.length_map, List.length_map, if_pos (by omega), if_pos (by omega), ck_name nmx, hck, cks_ok (by omega) (by omega) (by omega) (by omega) (by omega) (by omega), ckn_ok (by omega) (by omega)]
      rfl
    · exact k _ _ (s12.trans (s3.trans s4)) ⟨p4, vs, ws, rfl, h4, fa.imp fun _ _ z => z.same (s2.trans (s3.trans s4)), fg.imp fun _ _ z => z.same (s3.trans s4)⟩
theorem ok_mloopX {f : Addr} {fd : FuncData} (F : FnP K "_law_made_loop" s_law_made_loop f fd) (T : LwTx K mg) (M : MkS P w K mg base) (MP : MkP P w K mg base) (MLp : MkLp P w K mg base) (dMStm : Dn P w K mg base 9 "_law_made_statement" ["_law_row"] (spMStmX K)) : FnOk P w K mg base CX0 10 f fd ["_law_row"] (spMLoopX K) := by
  refine F.ok sc_law_made_loop (fun vs H Q E h => ?_) (fun cdv A outer s H vs Q E hr h => ?_)
  · obtain ⟨v, m, rfl, _⟩ := h
    rfl
  · obtain ⟨v, m, rfl, hd, hok, k⟩ := h
    refine ⟨_, PSs.nox (pss_cons (ps_set (i := 1) sc_law_made_loop.nd rfl (Or.inl rfl) (pe_PK (K := K) rfl T.plc MP hr at_E0 (pa_cons (pe_SK (K := K) rfl T.toStTx M hr (pa_cons pe_int (pa_cons (pe_ix (ix_tupK (K := K) rfl) (pe_ix (ix_tupK (K := K) rfl) (pv 0) pe_int (fun _ _ => rfl)) pe_int (fun _ _ => rfl)) (pa_cons (pe_ix (ix_tupK (K := K) rfl) (pe_ix (ix_tupK (K := K) rfl) (pv 0) pe_int (fun _ _ => rfl)) pe_int (fun _ _ => rfl)) pa_nil)))) (pa_cons (pe_ix (ix_tupK (K := K) rfl) (pe_ix (ix_tupK (K := K) rfl) (pv 0) pe_int (fun _ _ => rfl)) pe_int (fun _ _ => rfl)) pa_nil))))
      (pss_cons (ps_set (i := 2) sc_law_made_loop.nd rfl (Or.inl rfl) (pe_PK (K := K) rfl T.plc MP hr at_E0 (pa_cons (pe_SK (K := K) rfl T.toStTx M hr (pa_cons pe_int (pa_cons (pe_ix (ix_tupK (K := K) rfl) (pe_ix (ix_tupK (K := K) rfl) (pv 0) pe_int (fun _ _ => rfl)) pe_int (fun _ _ => rfl)) (pa_cons (pe_ix (ix_tupK (K := K) rfl) (pe_ix (ix_tupK (K := K) rfl) (pv 0) pe_int (fun _ _ => rfl)) pe_int (fun _ _ => rfl)) pa_nil)))) (pa_cons (pe_ix (ix_tupK (K := K) rfl) (pe_ix (ix_tupK (K := K) rfl) (pv 0) pe_int (fun _ _ => rfl)) pe_int (fun _ _ => rfl)) pa_nil))))
      (pss_one (ps_ret (pe_LpK (K := K) MLp rfl hr at_E0 (pa_cons (pv 1) (pa_cons (pv 2) (pa_cons (pe_lc (own := [("_law_one", 3)]) (g := gName 3) (tt := tYes) rfl sc_law_made_loop.nd (pi_tup (pe_ix (ix_tupK (K := K) rfl) (pv 0) pe_int (fun _ _ => rfl))) (blkOk_by (N := ["_law_row", "_law_low", "_law_high", "_law_one"]) (sc := defScope s_law_made_loop) (by decide +kernel)) (fun _ _ _ _ _ => (pg_name (i := 3) sc_law_made_loop.nd rfl (.inl rfl))) (fun _ _ _ _ _ => pts_nil) (fun _ _ _ _ _ => (pe_dn dMStm hr (pa_cons (pv 3) pa_nil)))) pa_nil))) (pk_cons (pe_ix (ix_tupK (K := K) rfl) (pv 0) pe_int (fun _ _ => rfl)) (pk_cons (pe_ix (ix_tupK (K := K) rfl) (pv 0) pe_int (fun _ _ => rfl)) pk_nil))))))), ?_⟩
    obtain ⟨t, q1, q2, ts, xs, rfl, ht, h1, h2, hts, ds⟩ := dt_lp hd
    obtain ⟨a0, a1, b0, b1, c0, c1, x0, x1, y0, y1, z0, z1, S0, S1, hS, n0, n3, okS⟩ := hok
    refine ⟨_, rfl, t, _, _, _, rfl, rfl, SqT.of ht, at0, q1, _, _, _, rfl, rfl, SqT.of h1, at0, _, rfl, t, _, _, _, rfl, rfl, SqT.of ht, at0, q1, _, _, _, rfl, rfl, SqT.of h1, at1, 0, m.l0, m.l1, rfl, fun r1 H1 s1 _ hr1 => ?_⟩
    refine ⟨_, rfl, t, _, _, _, rfl, rfl, SqT.of (s1 _ _ ht), at0, q1, _, _, _, rfl, rfl, SqT.of (s1 _ _ h1), at2, .ref r1, m.l2, rfl, 0, m.l0, m.l1, .inl ⟨r1, rfl, hr1⟩, (fun z => absurd z (by omega)), fun _ => ⟨?_, fun p1 H2 s2 hp1 => ?_⟩⟩
    · have := gg_le (a := 0) (b := m.l0) (d := m.l2) (by omega)
      omega
    refine normG (σ' := [some (.ref t), some (.ref p1), none, none]) rfl ?_
    have s02 := s1.trans s2
    have ht2 := s02 _ _ ht
    have h22 := s02 _ _ h2
    refine ⟨_, rfl, t, _, _, _, rfl, rfl, SqT.of ht2, at1, q2, _, _, _, rfl, rfl, SqT.of h22, at0, _, rfl, t, _, _, _, rfl, rfl, SqT.of ht2, at1, q2, _, _, _, rfl, rfl, SqT.of h22, at1, 0, m.h0, m.h1, rfl, fun r2 H3 s3 _ hr2 => ?_⟩
    refine ⟨_, rfl, t, _, _, _, rfl, rfl, SqT.of (s3 _ _ ht2), at1, q2, _, _, _, rfl, rfl, SqT.of (s3 _ _ h22), at2, .ref r2, m.h2, rfl, 0, m.h0, m.h1, .inl ⟨r2, rfl, hr2⟩, (fun z => absurd z (by omega)), fun _ => ⟨?_, fun p2 H4 s4 hp2 => ?_⟩⟩
    · have := gg_le (a := 0) (b := m.h0) (d := m.h2) (by omega)
      omega
    refine normG (σ' := [some (.ref t), some (.ref p1), some (.ref p2), none]) rfl ?_
    have s04 := s02.trans (s3.trans s4)
    have ht4 := s04 _ _ ht
    have hts4 := s04 _ _ hts
    refine ⟨_, rfl, _, rfl, _, rfl, t, _, _, _, rfl, rfl, SqT.of ht4, at4, ts, rfl, ⟨_, SqT.of hts4⟩, fun D hD => ?_⟩
    refine lc_tup (K := K) (xs := xs) (fun i Hc => ∃ ws, Hc D = some (.lst ws) ∧ Fa (StXo K Hc) ws ((m.sts.take i).map oS) ∧ Same H4 Hc) ⟨[], upd_same, .nil, Same.new _ (Same.refl H4) hD⟩ (fun i Hc _ z => SqT.of (z.choose_spec.2.2 _ _ hts4)) ?_ ?_
    · rintro i v Hc hv ⟨ws, eD, fg, sc⟩
      obtain ⟨g, eg, dv⟩ := (ds.to (.of (s04.trans sc))).map' hv
      refine ⟨rfl, yes_of ?_⟩
      refine ⟨_, rfl, v, g, rfl, dv, okS g (List.mem_of_getElem? eg), fun v' H' s' hv' => ?_⟩
      have eD3 := s' _ _ eD
      refine ⟨ws, eD3, sz1l _ ?_, ws ++ [v'], upd_same, ?_, fun b o e => ?_⟩
      · rw [fg.1, List.length_map, List.length_take]
        omega
      · rw [List.take_add_one, eg, List.map_append]
        have msU : MS H' (upd H' D (.lst (ws ++ [v']))) := .updL eD3
        exact (fg.imp fun _ _ z => (z.same s').ms msU).snoc (hv'.ms msU)
      · rw [upd_ne (ne_of_none e hD)]
        exact s' _ _ (sc b o e)
    rintro H5 ⟨ws, eD, fg, s5⟩
    have lxs : xs.length = m.sts.length := by rw [ds.len, List.length_map]
    rw [lxs, List.take_length] at fg
    have ht5 := s5 _ _ ht4
    refine ⟨_, rfl, t, _, _, _, rfl, rfl, SqT.of ht5, at2, _, rfl, t, _, _, _, rfl, rfl, SqT.of ht5, at3, rfl, rfl, ?_⟩
    have f1 := rg_least (a := m.l0) (c := m.l1) (d := m.l2) a0 (by omega) (by omega) (by omega) c0 (by omega)
    have f2 := rg_least (a := m.h0) (c := m.h1) (d := m.h2) x0 (by omega) (by omega) (by omega) z0 z1
    have s25 := s3.trans (s4.trans s5)
    refine ⟨.ref p1, .ref p2, D, ws, lf4 m.l0 m.l1 m.l2, lf4 m.h0 m.h1 m.h2, m.S, m.dn, rfl, .inl ⟨p1, rfl, hp1.same s25⟩, .inl ⟨p2, rfl, hp2.same s5⟩, .inl (SqL.of eD), Out.ok ?_ fun p6 H6 s6 h6 => ?_⟩
    · rw [fg.1]
      exact (oL_ok (l := m) ⟨a0, a1, b0, b1, c0, c1, x0, x1, y0, y1, z0, z1, S0, S1, hS, n0, n3, okS⟩).1
    · exact k _ _ (s04.trans (s5.trans s6)) ⟨p6, ws, rfl, h6, fg.imp fun _ _ z => z.same s6⟩
theorem ok_madeX {f : Addr} {fd : FuncData} (F : FnP K "_law_made" s_law_made f fd) (T : LwTx K mg) (MPr : MkPr P w K mg base) (dMLoop : Dn P w K mg base 10 "_law_made_loop" ["_law_row"] (spMLoopX K)) : FnOk P w K mg base CX0 11 f fd ["_law_rows"] (spMadeX K) := by
  refine F.ok sc_law_made (fun vs H Q E h => ?_) (fun cdv A outer s H vs Q E hr h => ?_)
  · obtain ⟨r, xs, ls, rfl, _⟩ := h
    rfl
  · obtain ⟨r, xs, ls, rfl, hr0, ds, l3, ok, k⟩ := h
    refine ⟨_, PSs.nox (pss_one (ps_ret (pe_PrP (K := K) MPr rfl hr at_E0 (pa_cons (pe_lc (own := [("_law_row", 1)]) (g := gName 1) (tt := tYes) rfl sc_law_made.nd (pi_list (pv 0)) (blkOk_by (N := ["_law_rows", "_law_row"]) (sc := defScope s_law_made) (by decide +kernel)) (fun _ _ _ _ _ => (pg_name (i := 1) sc_law_made.nd rfl (.inl rfl))) (fun _ _ _ _ _ => pts_nil) (fun _ _ _ _ _ => (pe_dn dMLoop hr (pa_cons (pv 1) pa_nil)))) pa_nil)))), ?_⟩
    refine ⟨_, rfl, r, rfl, ⟨_, SqL.of hr0⟩, fun D hD => ?_⟩
    refine lc_list (K := K) (xs := xs) (fun i Hc => ∃ ws, Hc D = some (.lst ws) ∧ Fa (LpXo K Hc) ws ((ls.take i).map oL) ∧ Same H Hc) ⟨[], upd_same, .nil, Same.new _ (Same.refl H) hD⟩ (fun i Hc _ z => SqL.of (z.choose_spec.2.2 _ _ hr0)) ?_ ?_
    · rintro i v Hc hv ⟨ws, eD, fg, sc⟩
      obtain ⟨g, eg, dv⟩ := (ds.to (.of sc)).map' hv
      refine ⟨rfl, yes_of ?_⟩
      refine ⟨_, rfl, v, g, rfl, dv, ok g (List.mem_of_getElem? eg), fun v' H' s' hv' => ?_⟩
      have eD3 := s' _ _ eD
      refine ⟨ws, eD3, sz1l _ ?_, ws ++ [v'], upd_same, ?_, fun b o e => ?_⟩
      · rw [fg.1, List.length_map, List.length_take]
        omega
      · rw [List.take_add_one, eg, List.map_append]
        have msU : MS H' (upd H' D (.lst (ws ++ [v']))) := .updL eD3
        exact (fg.imp fun _ _ z => (z.same s').ms msU).snoc (hv'.ms msU)
      · rw [upd_ne (ne_of_none e hD)]
        exact s' _ _ (sc b o e)
    rintro H5 ⟨ws, eD, fg, s5⟩
    have lxs : xs.length = ls.length := by rw [ds.len, List.length_map]
    rw [lxs, List.take_length] at fg
    refine ⟨D, ws, _, rfl, .inl (SqL.of eD), lpNsX fg, ?_, Out.ok ?_ fun p ys H6 s6 h6 _ _ _ => ?_⟩
    · refine Nat.le_trans (flat_bound (n := 64) fun l0 hl => ?_) (by rw [List.length_map]; omega)
      obtain ⟨l, hl2, rfl⟩ := List.mem_map.mp hl
      obtain ⟨_, _, _, _, _, _, _, _, _, _, _, _, _, _, _, _, n3, okS⟩ := ok l hl2
      refine Nat.le_trans (flat_bound (n := 4) fun m0 hm => ?_) (by have q : (oL l).sts.length = l.sts.length := List.length_map ..; omega)
      obtain ⟨m, hm2, rfl⟩ := List.mem_map.mp hm
      obtain ⟨_, _, _, _, lr, _⟩ := okS m hm2
      rw [List.length_cons, List.length_map]
      have q : (oS m).rds.length = m.rds.length := List.length_map ..
      omega
    · unfold ckM
      rw [fg.1, List.length_map, if_pos (by omega)]
    · exact k _ _ (s5.trans s6) ⟨p, ws, ys, rfl, h6, fg.imp fun _ _ z => z.same s6⟩
end
end K49
set_option maxHeartbeats 4000000
namespace K49
open PySem PySem.Spec PyProof.Rows L2 Z
theorem sz1m (n : Nat) (h : n < 1000000) : n < sizeLine := Nat.lt_of_lt_of_le h (by show 1000000 ≤ sizeLine; decide)
theorem sz0 : 0 ≤ sizeLine := Nat.zero_le _
def tEither (t1 t2 : TE) : TE := fun σ H Q => t1 σ H Q ∨ t2 σ H Q
theorem pe_either {X : Cx} {e : Expr} {t1 t2 : TE} (h1 : PE X e t1) (h2 : PE X e t2) : PE X e (tEither t1 t2) := ⟨fun pins s σ H Q I h => h.elim (h1.run pins s σ H Q I) (h2.run pins s σ H Q I)⟩
structure EnM where
  j : Nat
  k : Nat
  g : Int
  ck : List CdX
structure PtM where
  t : P4
  u : P4
  S : Int
  dn : Bool
  es : List EnM
deriving Inhabited
theorem PlV.ms {K : PySem.W.Frag} {H H' : Hp} {v : V} {a b c d : Int} (h : PlV K H v a b c d) (s : MS H H') : PlV K H' v a b c d := by
  rcases h with ⟨q, e, h⟩ | ⟨⟨q, e, h⟩ | h, e2⟩
  · exact .inl ⟨q, e, ms_plc s h⟩
  · exact .inr ⟨.inl ⟨q, e, ms_str s h⟩, e2⟩
  · exact .inr ⟨.inr h, e2⟩
section
variable (K : PySem.W.Frag)
def EnV (P : Addr → Prop) (H : Hp) (v : V) (e : EnM) : Prop := ∃ t lc cs, v = .ref t ∧ H t = some (.tup [.int e.j, .int e.k, .int e.g, .ref lc]) ∧ P lc ∧ H lc = some (.lst cs) ∧ Fa (CdXo K H) cs e.ck
def PtV (P : Addr → Prop) (H : Hp) (v : V) (p : PtM) : Prop := ∃ t lo hi le xs, v = .ref t ∧ H t = some (.tup [lo, hi, .int p.S, .bl p.dn, .ref le]) ∧ PlV K H lo p.t.1 p.t.2.1 p.t.2.2.1 p.t.2.2.2 ∧ PlV K H hi p.u.1 p.u.2.1 p.u.2.2.1 p.u.2.2.2 ∧ P le ∧ H le = some (.lst xs) ∧ Fa (EnV K P H) xs p.es
end
section
variable {K : PySem.W.Frag} {P P' : Addr → Prop} {H H' : Hp} {v : V}
theorem EnV.to {e : EnM} (h : EnV K P H v e) (m : MS H H') (l : ∀ a xs, P a → H a = some (.lst xs) → H' a = some (.lst xs)) (i : ∀ a xs, H a = some (.lst xs) → P a → P' a) : EnV K P' H' v e := by
  obtain ⟨t, lc, cs, e, h1, h2, h3, h4⟩ := h
  exact ⟨t, lc, cs, e, m _ _ h1 rfl, i _ _ h3 h2, l _ _ h2 h3, h4.imp fun _ _ z => z.ms m⟩
theorem PtV.to {p : PtM} (h : PtV K P H v p) (m : MS H H') (l : ∀ a xs, P a → H a = some (.lst xs) → H' a = some (.lst xs)) (i : ∀ a xs, H a = some (.lst xs) → P a → P' a) : PtV K P' H' v p := by
  obtain ⟨t, lo, hi, le, xs, e, h1, h2, h3, h4, h5, h6⟩ := h
  exact ⟨t, lo, hi, le, xs, e, m _ _ h1 rfl, h2.ms m, h3.ms m, i _ _ h5 h4, l _ _ h4 h5, h6.imp fun _ _ z => z.to m l i⟩
theorem EnV.same {e : EnM} (h : EnV K P H v e) (s : Same H H') : EnV K P H' v e := h.to (.of s) (fun _ _ _ z => s _ _ z) fun _ _ _ z => z
theorem PtV.same {p : PtM} (h : PtV K P H v p) (s : Same H H') : PtV K P H' v p := h.to (.of s) (fun _ _ _ z => s _ _ z) fun _ _ _ z => z
theorem EnV.imp {e : EnM} (h : EnV K P H v e) (i : ∀ a xs, H a = some (.lst xs) → P a → P' a) : EnV K P' H v e := h.to (.refl _) (fun _ _ _ z => z) i
theorem PtV.imp {p : PtM} (h : PtV K P H v p) (i : ∀ a xs, H a = some (.lst xs) → P a → P' a) : PtV K P' H v p := h.to (.refl _) (fun _ _ _ z => z) i
end
def stAt (ls : List LpX) (j k : Nat) : StX := match ls[j]? with
  | some l => (match l.sts[k]? with
    | some s => s
    | none => default)
  | none => default
def EnK (ls : List LpX) (e : EnM) : Prop := (∃ l s, ls[e.j]? = some l ∧ l.sts[e.k]? = some s) ∧ Bd 400 e.g ∧ e.ck.length ≤ 10
theorem stAt_of {ls : List LpX} {j k : Nat} {l : LpX} {s : StX} (h1 : ls[j]? = some l) (h2 : l.sts[k]? = some s) : stAt ls j k = s := by
  unfold stAt
  rw [h1]
  show (match l.sts[k]? with | some s => s | none => default) = s
  rw [h2]
/-- the statement that an entry makes, and what making it raises -/
def enS (ls : List LpX) (e : EnM) : StX := if e.g = 0 ∧ e.ck = [] then stAt ls e.j e.k else mvS e.g e.ck (stAt ls e.j e.k)
def ckEn (ls : List LpX) (e : EnM) : Option Er := if e.g = 0 ∧ e.ck = [] then none else ckMv (mvS e.g e.ck (stAt ls e.j e.k))
def ckEs (ls : List LpX) : List EnM → Option Er := ckAll (ckEn ls)
def ckPt (ls : List LpX) (p : PtM) : Option Er := (ckEs ls p.es).or (ckLp p.es.length p.S p.t p.u)
def ckPl (ls : List LpX) : List PtM → Option Er := ckAll (ckPt ls)
def keptEs (l : LpX) (j : Nat) : List EnM := (List.range l.sts.length).map fun k => { j := j, k := k, g := 0, ck := [] }
def keptPt (l : LpX) (j : Nat) : PtM := { t := l.t, u := l.u, S := l.S, dn := l.dn, es := keptEs l j }
def spStAt (K : PySem.W.Frag) : Sp := fun vs H Q _ => ∃ (v : V) (ls : List LpX) (j k : Nat) (l : LpX) (s : StX), vs = [v, .int j, .int k] ∧ PrXo K H v ls ∧ ls[j]? = some l ∧ l.sts[k]? = some s ∧ ∀ v', StXo K H v' s → Q v' H
def spWiE (K : PySem.W.Frag) : Sp := fun vs H Q _ => ∃ (v : V) (l : LpX) (le : Addr), vs = [v, .ref le] ∧ LpXo K H v l ∧ ∀ t lo hi H', Same H H' → H' t = some (.tup [.ref lo, .ref hi, .int l.S, .bl l.dn, .ref le]) → Pl4 K H' lo l.t → Pl4 K H' hi l.u → Q (.ref t) H'
def spEnt (K : PySem.W.Frag) : Sp := fun vs H Q _ => ∃ (v : V) (ls : List LpX) (j : Nat) (l : LpX), vs = [v, .int j] ∧ PrXo K H v ls ∧ ls[j]? = some l ∧ l.sts.length ≤ 1000 ∧ ∀ le xs H', Same H H' → H le = none → H' le = some (.lst xs) → Fa (EnV K (fun a => H a = none ∧ a ≠ le) H') xs (keptEs l j) → Q (.ref le) H'
def spKept (K : PySem.W.Frag) : Sp := fun vs H Q _ => ∃ (v : V) (ls : List LpX) (j : Nat) (l : LpX), vs = [v, .int j] ∧ PrXo K H v ls ∧ ls[j]? = some l ∧ l.sts.length ≤ 1000 ∧ ∀ v' H', Same H H' → PtV K (fun a => H a = none) H' v' (keptPt l j) → Q v' H'
def spMdS (K : PySem.W.Frag) : Sp := fun vs H Q E => ∃ (P : Addr → Prop) (v ev : V) (ls : List LpX) (e : EnM), vs = [v, ev] ∧ PrXo K H v ls ∧ (∀ l ∈ ls, ∀ s ∈ l.sts, StXk s) ∧ EnV K P H ev e ∧ EnK ls e ∧ Out (ckEn ls e) (Rz K H E) (∀ v' H', Same H H' → StXo K H' v' (enS ls e) → Q v' H')
/-- the own `replaced` methods -/
structure HRp (P : Program) (w : World) (K : PySem.W.Frag) (mg : Str → Option Value) (base : Heap) : Prop where
  s : ∃ fd, FnOk P w K mg base CX0 4 (He.ma K (CS K) "replaced") fd ["self", "factor", "shift"] (spReplW K) ∧ Binds K fd ["self", "factor", "shift"] [] ∧ Meth K (CS K) "replaced" (He.ma K (CS K) "replaced")
  p : ∃ fd, FnOk P w K mg base CX0 6 (He.ma K (CP K) "replaced") fd ["self", "factor", "shift"] (spPReplW K) ∧ Binds K fd ["self", "factor", "shift"] [] ∧ Meth K (CP K) "replaced" (He.ma K (CP K) "replaced")
  a : ∃ fd, FnOk P w K mg base CX0 6 (He.ma K (CA K) "replaced") fd ["self", "factor", "shift"] (spARepl K) ∧ Binds K fd ["self", "factor", "shift"] [] ∧ Meth K (CA K) "replaced" (He.ma K (CA K) "replaced")
  r : ∃ fd, FnOk P w K mg base CX0 6 (He.ma K (CR K) "replaced") fd ["self", "factor", "shift"] (spRRepl K) ∧ Binds K fd ["self", "factor", "shift"] [] ∧ Meth K (CR K) "replaced" (He.ma K (CR K) "replaced")
theorem prf_l (l a d : Addr) : (prf l a d).lookup ("loops" : Str) = some (.ref l) := by
  unfold prf prf2
  rw [lookup_putF, if_neg (by decide +kernel), lookup_putF, if_neg (by decide +kernel), lookup_putF, if_pos rfl]
theorem call_len_seqK {X : Cx} {K : PySem.W.Frag} (hK : X.K = K) : CallR X (.builtin "len") (fun xs H Q => ∃ p ys, xs = [V.ref p] ∧ (SqL K H p ys ∨ SqT K H p ys) ∧ Q (V.int (ys.length : Nat)) H) := hK ▸ call_len_seq
section
variable {P : Program} {w : World} {K : PySem.W.Frag} {mg : Str → Option Value} {base : Heap}
theorem sc_statement_at : FnScope ["program", "loop", "statement"] ["program", "loop", "statement"] (defScope s_statement_at) := ⟨rfl, rfl, rfl, by decide +kernel, rfl, by decide +kernel, by decide +kernel⟩
theorem ok_stAt {f : Addr} {fd : FuncData} (F : FnP K "statement_at" s_statement_at f fd) (T : LwTx K mg) : FnOk P w K mg base CX0 1 f fd ["program", "loop", "statement"] (spStAt K) := by
  refine F.ok sc_statement_at (fun vs H Q E h => ?_) (fun cdv A outer s H vs Q E hr h => ?_)
  · obtain ⟨v, ls, j, k, l, s, rfl, _⟩ := h
    rfl
  · obtain ⟨v, ls, j, k, l, s, rfl, ⟨p, xs, ys, rfl, ⟨dx, lt, at_, dk, hp, hlt, hat⟩, fa⟩, hl, hs, kk⟩ := h
    refine ⟨_, PSs.nox (pss_one (ps_ret (pe_ix (ix_tupK (K := K) rfl) (pe_fldK (K := K) rfl (pe_ix (ix_tupK (K := K) rfl) (pe_fldK (K := K) rfl (pv 0)) (pv 1) (fun _ _ => rfl))) (pv 2) (fun _ _ => rfl)))), ?_⟩
    obtain ⟨u, hu, q, ss, rfl, ⟨dq, lo, hi, st, hq, _, _, hst⟩, fs⟩ := fa.at' hl
    obtain ⟨y, hy, oy⟩ := fs.at' hs
    exact ⟨_, rfl, p, _, dx, _, _, rfl, hp, T.clP, T.nPL, prf_l _ _ _, _, rfl, lt, _, _, _, rfl, rfl, hlt, atI_nat hu, q, _, dq, _, _, rfl, hq, T.clL, T.nSt, lp_tt _ _ _ _ _, _, rfl, st, _, _, _, rfl, rfl, hst, atI_nat hy, kk _ oy⟩
theorem sc_with_entries : FnScope ["loop", "entries"] ["loop", "entries"] (defScope s_with_entries) := ⟨rfl, rfl, rfl, by decide +kernel, rfl, by decide +kernel, by decide +kernel⟩
theorem ok_wiE {f : Addr} {fd : FuncData} (F : FnP K "with_entries" s_with_entries f fd) (T : LwTx K mg) : FnOk P w K mg base CX0 1 f fd ["loop", "entries"] (spWiE K) := by
  refine F.ok sc_with_entries (fun vs H Q E h => ?_) (fun cdv A outer s H vs Q E hr h => ?_)
  · obtain ⟨v, l, le, rfl, _⟩ := h
    rfl
  · obtain ⟨v, l, le, rfl, ⟨p, xs, rfl, ⟨dx, lo, hi, st, hp, hlo, hhi, hst⟩, fs⟩, k⟩ := h
    refine ⟨_, PSs.nox (pss_one (ps_ret (pe_tup (pa_cons (pe_fldK (K := K) rfl (pv 0)) (pa_cons (pe_fldK (K := K) rfl (pv 0)) (pa_cons (pe_fldK (K := K) rfl (pv 0)) (pa_cons (pe_fldK (K := K) rfl (pv 0)) (pa_cons (pv 1) pa_nil)))))))), ?_⟩
    refine ⟨_, rfl, p, _, dx, _, _, rfl, hp, T.clL, T.nLo, lp_lo _ _ _ _ _, ?_⟩
    refine ⟨_, rfl, p, _, dx, _, _, rfl, hp, T.clL, T.nHi, lp_hi _ _ _ _ _, ?_⟩
    refine ⟨_, rfl, p, _, dx, _, _, rfl, hp, T.clL, T.nSp, lp_st _ _ _ _ _, ?_⟩
    refine ⟨_, rfl, p, _, dx, _, _, rfl, hp, T.clL, T.nDn, lp_dn _ _ _ _ _, ?_⟩
    refine ⟨_, rfl, sz1l _ (by show 4 < 1000; decide), fun t ht => ?_⟩
    have s1 := Same.new (.tup [.ref lo, .ref hi, .int l.S, .bl l.dn, .ref le]) (Same.refl H) ht
    exact k t lo hi _ s1 upd_same (hlo.same s1) (hhi.same s1)
theorem sc_entries_of : FnScope ["program", "place", "number"] ["program", "place"] (defScope s_entries_of) := ⟨rfl, rfl, rfl, by decide +kernel, rfl, by decide +kernel, by decide +kernel⟩
theorem ok_ent {f : Addr} {fd : FuncData} (F : FnP K "entries_of" s_entries_of f fd) (T : LwTx K mg) : FnOk P w K mg base CX0 1 f fd ["program", "place"] (spEnt K) := by
  refine F.ok sc_entries_of (fun vs H Q E h => ?_) (fun cdv A outer s H vs Q E hr h => ?_)
  · obtain ⟨v, ls, j, l, rfl, _⟩ := h
    rfl
  · obtain ⟨v, ls, j, l, rfl, ⟨p, xs, ys, rfl, ⟨dx, lt, at_, dk, hp, hlt, hat⟩, fa⟩, hl, l9, k⟩ := h
    refine ⟨_, PSs.nox (pss_one (ps_ret (pe_lc (own := [("number", 2)]) (g := gName 2) (tt := tYes) rfl sc_entries_of.nd (pi_range1 (by rfl) T.range (pa_cons (pe_callB (call_len_seqK (K := K) rfl) (by rfl) T.len PySem.boot_len (pa_cons (pe_fldK (K := K) rfl (pe_ix (ix_tupK (K := K) rfl) (pe_fldK (K := K) rfl (pv 0)) (pv 1) (fun _ _ => rfl))) pa_nil)) pa_nil)) (blkOk_by (N := ["program", "place", "number"]) (sc := defScope s_entries_of) (by decide +kernel)) (fun _ _ _ _ _ => (pg_name (i := 2) sc_entries_of.nd rfl (.inl rfl))) (fun _ _ _ _ _ => pts_nil) (fun _ _ _ _ _ => (pe_tup (pa_cons (pv 1) (pa_cons (pv 2) (pa_cons pe_int (pa_cons (pe_lst pa_nil) pa_nil))))))))), ?_⟩
    obtain ⟨u, hu, q, ss, rfl, ⟨dq, lo, hi, st, hq, _, _, hst⟩, fs⟩ := fa.at' hl
    have hst' := hst
    have l9' : ss.length = l.sts.length := fs.1
    refine ⟨_, rfl, p, _, dx, _, _, rfl, hp, T.clP, T.nPL, prf_l _ _ _, ?_⟩
    refine ⟨_, rfl, lt, _, _, _, rfl, rfl, hlt, atI_nat hu, q, _, dq, _, _, rfl, hq, T.clL, T.nSt, lp_tt _ _ _ _ _, st, ss, rfl, .inr hst, _, rfl, by omega, by omega, fun D hD => ?_⟩
    rw [Int.toNat_natCast, l9']
    refine lc_range (lo := 0) (n := l.sts.length) (fun i Hc => ∃ xs, Hc D = some (.lst xs) ∧ Fa (EnV K (fun a => H a = none ∧ a ≠ D) Hc) xs ((keptEs l j).take i) ∧ Same H Hc) ⟨[], upd_same, by rw [List.take_zero]; exact .nil, Same.new _ (Same.refl H) hD⟩ ?_ ?_
    · rintro i Hc hi ⟨xs, eD, fe, sc⟩
      refine ⟨rfl, yes_of ?_⟩
      refine ⟨_, rfl, _, rfl, sz0, fun lc hlc => ?_⟩
      have s1 := Same.new (.lst []) (Same.refl Hc) hlc
      refine ⟨sz1l _ (by show 3 < 1000; decide), fun t ht => ?_⟩
      have s2 := Same.new (.tup [.int j, .int (0 + (i : Int)), .int 0, .ref lc]) s1 ht
      have eD2 := s2 _ _ eD
      have lk : (keptEs l j)[i]? = some { j := j, k := i, g := 0, ck := [] } := by
        unfold keptEs
        rw [List.getElem?_map, List.getElem?_range hi]
        rfl
      have nlc : lc ≠ D := fun z => by
        rw [z, eD] at hlc
        cases hlc
      have nH : H lc = none := by
        cases hh : H lc with
        | none => rfl
        | some o =>
          rw [sc _ _ hh] at hlc
          cases hlc
      have ntl : t ≠ lc := fun z => by
        rw [z, upd_same] at ht
        cases ht
      refine ⟨xs, eD2, sz1m _ (by rw [fe.1, List.length_take]; omega), xs ++ [.ref t], upd_same, ?_, fun b o e => ?_⟩
      · rw [List.take_add_one, lk]
        have ms : MS (upd (upd Hc lc (.lst [])) t (.tup [.int j, .int (0 + (i : Int)), .int 0, .ref lc])) (upd (upd (upd Hc lc (.lst [])) t (.tup [.int j, .int (0 + (i : Int)), .int 0, .ref lc])) D (.lst (xs ++ [.ref t]))) := .updL eD2
        have ls : ∀ a ys, (H a = none ∧ a ≠ D) → (upd (upd Hc lc (.lst [])) t (.tup [.int j, .int (0 + (i : Int)), .int 0, .ref lc])) a = some (.lst ys) → (upd (upd (upd Hc lc (.lst [])) t (.tup [.int j, .int (0 + (i : Int)), .int 0, .ref lc])) D (.lst (xs ++ [.ref t]))) a = some (.lst ys) := fun a ys n e => by
          rw [upd_ne n.2]
          exact e
        refine (fe.imp fun _ _ z => (z.same s2).to ms ls fun _ _ _ q => q).snoc (EnV.to (P := fun a => H a = none ∧ a ≠ D) ⟨t, lc, [], rfl, ?_, ⟨nH, nlc⟩, ?_, .nil⟩ ms ls fun _ _ _ q => q)
        · rw [upd_same, Int.zero_add]
        · rw [upd_ne ntl.symm, upd_same]
      · rw [upd_ne (ne_of_none e hD)]
        exact s2 _ _ (sc b o e)
    · rintro H3 ⟨xs, eD, fe, sc⟩
      have lk : (keptEs l j).length = l.sts.length := by
        unfold keptEs
        rw [List.length_map, List.length_range]
      rw [← lk, List.take_length] at fe
      exact k D xs H3 sc hD eD fe
theorem sc_kept_loop : FnScope ["program", "place"] ["program", "place"] (defScope s_kept_loop) := ⟨rfl, rfl, rfl, by decide +kernel, rfl, by decide +kernel, by decide +kernel⟩
theorem ok_kept {f : Addr} {fd : FuncData} (F : FnP K "kept_loop" s_kept_loop f fd) (T : LwTx K mg) (dWiE : Dn P w K mg base 1 "with_entries" ["loop", "entries"] (spWiE K)) (dEnt : Dn P w K mg base 1 "entries_of" ["program", "place"] (spEnt K)) : FnOk P w K mg base CX0 2 f fd ["program", "place"] (spKept K) := by
  refine F.ok sc_kept_loop (fun vs H Q E h => ?_) (fun cdv A outer s H vs Q E hr h => ?_)
  · obtain ⟨v, ls, j, l, rfl, _⟩ := h
    rfl
  · obtain ⟨v, ls, j, l, rfl, hP, hl, l9, k⟩ := h
    refine ⟨_, PSs.nox (pss_one (ps_ret (pe_dn dWiE hr (pa_cons (pe_ix (ix_tupK (K := K) rfl) (pe_fldK (K := K) rfl (pv 0)) (pv 1) (fun _ _ => rfl)) (pa_cons (pe_dn dEnt hr (pa_cons (pv 0) (pa_cons (pv 1) pa_nil))) pa_nil))))), ?_⟩
    obtain ⟨p, xs, ys, rfl, ⟨dx, lt, at_, dk, hp, hlt, hat⟩, fa⟩ := id hP
    obtain ⟨u, hu, ou⟩ := fa.at' hl
    refine ⟨_, rfl, p, _, dx, _, _, rfl, hp, T.clP, T.nPL, prf_l _ _ _, _, rfl, lt, _, _, _, rfl, rfl, hlt, atI_nat hu, ?_⟩
    refine ⟨_, rfl, _, rfl, _, ls, j, l, rfl, hP, hl, l9, fun le es H1 s1 n1 hle fe => ?_⟩
    refine ⟨u, l, le, rfl, ou.same s1, fun t lo hi H2 s2 ht h1 h2 => ?_⟩
    exact k _ H2 (s1.trans s2) ⟨t, .ref lo, .ref hi, le, es, rfl, ht, .inl ⟨lo, rfl, h1⟩, .inl ⟨hi, rfl, h2⟩, n1, s2 _ _ hle, fe.imp fun _ _ z => (z.same s2).imp fun _ _ _ q => q.1⟩
end
end K49
set_option maxHeartbeats 4000000
namespace K49
open PySem PySem.Spec PyProof.Rows L2 Z
theorem Fa.app {α : Type} {R : V → α → Prop} {vs ws : List V} {ms ns : List α} (h : Fa R vs ms) (k : Fa R ws ns) : Fa R (vs ++ ws) (ms ++ ns) := by
  refine ⟨by rw [List.length_append, List.length_append, h.1, k.1], fun i v m a b => ?_⟩
  by_cases hi : i < vs.length
  · rw [List.getElem?_append_left hi] at a
    rw [List.getElem?_append_left (by rw [← h.1]; exact hi)] at b
    exact h.2 i v m a b
  · rw [List.getElem?_append_right (by omega)] at a
    rw [List.getElem?_append_right (by rw [← h.1]; omega), ← h.1] at b
    exact k.2 _ v m a b
section
variable {P : Program} {w : World} {K : PySem.W.Frag} {mg : Str → Option Value} {base : Heap}
theorem sc_made_statement : FnScope ["program", "entry", "place", "number", "shift", "checks", "old", "reads", "read", "conditions", "condition"] ["program", "entry"] (defScope s_made_statement) := ⟨rfl, rfl, rfl, by decide +kernel, rfl, by decide +kernel, by decide +kernel⟩
theorem ok_mdS {f : Addr} {fd : FuncData} (F : FnP K "made_statement" s_made_statement f fd) (T : LwTx K mg) (R : HRp P w K mg base) (MRd : MkRd P w K mg base) (MSt : MkSt P w K mg base) (dStAt : Dn P w K mg base 1 "statement_at" ["program", "loop", "statement"] (spStAt K)) : FnOk P w K mg base (L2.CX P w) 9 f fd ["program", "entry"] (spMdS K) := by
  refine F.ok sc_made_statement (fun vs H Q E h => ?_) (fun cdv A outer s H vs Q E hr h => ?_)
  · obtain ⟨PP, v, ev, ls, e, rfl, _⟩ := h
    rfl
  · obtain ⟨PP, v, ev, ls, e, rfl, hP, hk, ⟨t, lc, cvs, rfl, ht, hPl, hlc, fc⟩, ⟨⟨l, m, hl, hm⟩, bg, ck9⟩, k⟩ := h
    obtain ⟨fds, Fs, hbs, cs⟩ := R.s
    obtain ⟨fdp, Fp, hbp, cp⟩ := R.p
    obtain ⟨fda, Fa, hba, ca⟩ := R.a
    obtain ⟨fdr, Fr, hbr, cr⟩ := R.r
    refine ⟨_, (pss_cons (ps_asg (pv 1) (pg_tup (by rfl) (pgs_cons (pg_name (i := 2) sc_made_statement.nd rfl (.inl rfl)) (pgs_cons (pg_name (i := 3) sc_made_statement.nd rfl (.inl rfl)) (pgs_cons (pg_name (i := 4) sc_made_statement.nd rfl (.inr rfl)) (pgs_cons (pg_name (i := 5) sc_made_statement.nd rfl (.inl rfl)) pgs_nil))))))
      (pss_cons (ps_set (i := 6) sc_made_statement.nd rfl (Or.inl rfl) (pe_dn dStAt hr (pa_cons (pv 0) (pa_cons (pv 2) (pa_cons (pv 3) pa_nil)))))
      (pss_cons (ps_if (PW.pt (pw_and (pt_cmpR op_eq (pv 4) pe_int (nomark _)) (pw_and1 (pt_not (pt_truth (pv 5) (by intro _; rfl)))))) (pss_one (ps_ret (pv 6))) pss_nil)
      (pss_cons (ps_setLcX (i := 7) (own := [("read", 8)]) (g := gName 8) rfl sc_made_statement.nd rfl rfl (takes_of rfl rfl rfl rfl) rfl rfl (sw_true rfl rfl rfl (by decide +kernel)) (pi_tup (pe_fldK (K := K) rfl (pv 6))) (blkOk_by (N := ["program", "entry", "place", "number", "shift", "checks", "old", "reads", "read", "conditions", "condition"]) (sc := defScope s_made_statement) (by decide +kernel)) (fun _ _ _ _ _ _ => (pg_name (i := 8) sc_made_statement.nd rfl (.inl rfl))) (fun _ _ _ _ _ _ px => (pe_RdK (K := K) MRd rfl hr px (pa_cons (pe_fldK (K := K) rfl (pv 8)) (pa_cons (pe_meth (pe_fldK (K := K) rfl (pv 8)) T.plc.clP cp Fp (hr.mono (by decide)) hbp .nil pass0 (pa_cons pe_int (pa_cons (pv 4) pa_nil))) pa_nil)) (pk_cons (pe_fldK (K := K) rfl (pv 8)) pk_nil))))
      (pss_cons (ps_set (i := 9) sc_made_statement.nd rfl (Or.inl rfl) (pe_op op_cat (pv 5) (pe_lc (own := [("condition", 10)]) (g := gName 10) (tt := tYes) rfl sc_made_statement.nd (pi_tup (pe_fldK (K := K) rfl (pv 6))) (blkOk_by (N := ["program", "entry", "place", "number", "shift", "checks", "old", "reads", "read", "conditions", "condition"]) (sc := defScope s_made_statement) (by decide +kernel)) (fun _ _ _ _ _ => (pg_name (i := 10) sc_made_statement.nd rfl (.inl rfl))) (fun _ _ _ _ _ => pts_nil) (fun _ _ _ _ _ => (pe_either (pe_meth (pv 10) T.clA ca Fa (hr.mono (by decide)) hba .nil pass0 (pa_cons pe_int (pa_cons (pv 4) pa_nil))) (pe_meth (pv 10) T.clQ cr Fr (hr.mono (by decide)) hbr .nil pass0 (pa_cons pe_int (pa_cons (pv 4) pa_nil))))))))
      (pss_one (ps_ret (pe_StK2 (K := K) MSt rfl hr (fun σ => passAt (takes_of rfl rfl rfl rfl) σ) (pa_cons (pe_fldK (K := K) rfl (pv 6)) (pa_cons (pe_meth (pe_fldK (K := K) rfl (pv 6)) T.clS cs Fs (hr.mono (by decide)) hbs .nil pass0 (pa_cons pe_int (pa_cons (pv 4) pa_nil))) (pa_cons (pe_fldK (K := K) rfl (pv 6)) pa_nil))) (pk_cons (pv 7) (pk_cons (pv 9) pk_nil)))))))))), ?_⟩
    have hm' := stAt_of hl hm
    refine ⟨_, rfl, t, _, rfl, SqT.of ht, rfl, _, _, rfl, _, _, rfl, _, _, rfl, _, _, rfl, rfl, ?_⟩
    refine norm (N := fun σ _ => _) (σ' := [some v, some (.ref t), some (.int e.j), some (.int e.k), some (.int e.g), some (.ref lc), none, none, none, none, none]) rfl ?_
    try dsimp only
    refine ⟨_, rfl, _, rfl, _, rfl, v, ls, e.j, e.k, l, m, rfl, hP, hl, hm, fun ov om => ?_⟩
    refine normG (σ' := [some v, some (.ref t), some (.int e.j), some (.int e.k), some (.int e.g), some (.ref lc), some ov, none, none, none, none]) rfl ?_
    try dsimp only
    obtain ⟨po, rs, cs0, rfl, hPo, fr, fg⟩ := id om
    obtain ⟨dx, q, r, g, hpo, hq, hrs, hcs⟩ := id hPo
    have okm : StXk m := hk l (List.mem_of_getElem? hl) m (List.mem_of_getElem? hm)
    obtain ⟨nmx, ⟨a0, a1, b0, b1, c0, c1⟩, k0, k1, lr, lg, okr, okg⟩ := okm
    refine mid (fun σ' H' => σ' = [some v, some (.ref t), some (.int e.j), some (.int e.k), some (.int e.g), some (.ref lc), some (.ref po), none, none, none, none] ∧ H' = H ∧ ¬ (e.g = 0 ∧ e.ck = [])) (fun key => ?_) ?_
    · refine ⟨_, rfl, rfl, _, rfl, ?_⟩
      by_cases h0 : e.g = 0
      · refine if_yes (decide_eq_true (by rw [h0])) ⟨_, rfl, _, .inl ⟨_, SqL.of hlc, rfl⟩, ?_⟩
        have lce := fc.1
        cases hck : e.ck with
        | nil =>
          rw [hck] at lce
          obtain rfl : cvs = [] := List.eq_nil_of_length_eq_zero lce
          refine if_yes rfl ⟨_, rfl, ?_⟩
          have kk := k.2 (by unfold ckEn; rw [if_pos ⟨h0, hck⟩])
          have oe := kk (.ref po) H (Same.refl H)
          unfold enS at oe
          rw [if_pos ⟨h0, hck⟩, hm'] at oe
          exact oe om
        | cons ch ct =>
          have nz : cvs ≠ [] := fun z => by
            rw [z, hck] at lce
            cases lce
          refine if_no (by cases cvs with | nil => exact absurd rfl nz | cons => rfl) (key _ _ ⟨rfl, rfl, fun z => by rw [hck] at z; cases z.2⟩)
      · exact if_no (decide_eq_false fun z => h0 (V.int.inj z)) (key _ _ ⟨rfl, rfl, fun z => h0 z.1⟩)
    rintro σ H0 ⟨rfl, rfl, ne⟩
    obtain ⟨mv, emv⟩ : ∃ mv, mv = mvS e.g e.ck m := ⟨_, rfl⟩
    have k : Out (ckMv mv) (Rz K H0 E) (∀ v' H', Same H0 H' → StXo K H' v' mv → Q v' H') := by
      unfold ckEn enS at k
      rw [if_neg ne, if_neg ne, hm', ← emv] at k
      exact k
    have lrd : mv.rds.length = m.rds.length := by rw [emv]; exact List.length_map ..
    -- the reads
    refine ⟨_, rfl, po, _, dx, _, _, rfl, hpo, T.clM, T.nMR, stf_r _ _ _ _ _, r, rfl, ⟨_, hrs⟩, fun D hD => ?_⟩
    refine lc_tup (K := K) (xs := rs) (fun i Hc => ∃ vs, Hc D = some (.lst vs) ∧ K49.Fa (RdXo K Hc) vs (mv.rds.take i) ∧ ckAll ckR1 (mv.rds.take i) = none ∧ Same H0 Hc) ⟨[], upd_same, by rw [List.take_zero]; exact .nil, rfl, Same.new _ (Same.refl H0) hD⟩ (fun i Hc _ z => SqT.same hrs z.choose_spec.2.2.2) ?_ ?_
    · rintro i u Hc hu ⟨vs, eD, fa, ca0, sc⟩
      obtain ⟨r0, er, p, rfl, ⟨dxr, q0, hr0, ⟨dxp, qs, hq0, hqs⟩⟩⟩ := (fr.imp fun _ _ z => z.same sc).at hu
      obtain ⟨rnm, ra0, ra1, rb0, rb1, rc0, rc1, rd0, rd1, rf0, rf1, rf2⟩ := okr r0 (List.mem_of_getElem? er)
      have er2 : mv.rds[i]? = some (mvR e.g r0) := by
        rw [emv]
        show (m.rds.map (mvR e.g))[i]? = _
        rw [List.getElem?_map, er]
        rfl
      refine ⟨rfl, yes_of ?_⟩
      refine ⟨_, rfl, p, _, dxr, _, _, rfl, hr0, T.clR, T.nRA, rdf_a _ _ _, _, rfl, p, _, dxr, _, _, rfl, hr0, T.clR, T.nRP, rdf_p _ _ _, q0, dxp, _, rfl, hq0, pf_re _ _, _, rfl, q0, r0.a, r0.b, r0.c, r0.d, e.g, rfl, ⟨dxp, qs, hq0, hqs⟩, bd12 ra0 ra1, bg, rd0, by omega, fun pp H1 s1 hpp => ?_⟩
      refine ⟨_, rfl, p, _, dxr, _, _, rfl, s1 _ _ hr0, T.clR, T.nRF, rdf_f _ _ _, rfl, rfl, r0.x, .ref pp, r0.f, _, _, _, _, rfl, Nat.le_trans rnm.2.1 (by decide), .inl ⟨pp, rfl, hpp⟩, ?_⟩
      refine ⟨fun er9 h9 => ?_, fun h9 p3 H3 s3 h3 => ?_⟩
      · have hh := ckAll_hit (f := ckR1) ca0 er2 (e := er9) h9
        exact (k.1 er9 (by unfold ckMv ckRs; rw [hh]; rfl)).same (sc.trans s1)
      · have s13 := s1.trans s3
        have eD3 := s13 _ _ eD
        refine ⟨vs, eD3, sz1l _ ?_, vs ++ [.ref p3], upd_same, ?_, ckAll_step (f := ckR1) ca0 er2 h9, fun b o e => ?_⟩
        · rw [fa.1, List.length_take]
          omega
        · rw [List.take_add_one, er2]
          have msU : MS H3 (upd H3 D (.lst (vs ++ [.ref p3]))) := .updL eD3
          exact (fa.imp fun _ _ z => (z.same s13).ms msU).snoc (RdXo.ms (r := mvR e.g r0) ⟨p3, rfl, h3⟩ msU)
        · rw [upd_ne (ne_of_none e hD)]
          exact s13 _ _ (sc b o e)
    rintro H1 ⟨vs, eD, fa, ca0, s1⟩
    have lrs : rs.length = mv.rds.length := by rw [lrd, fr.1]
    rw [lrs, List.take_length] at fa ca0
    refine normG (σ' := [some v, some (.ref t), some (.int e.j), some (.int e.k), some (.int e.g), some (.ref lc), some (.ref po), some (.ref D), none, none, none]) rfl ?_
    try dsimp only
    -- the conditions
    have hpo1 := s1 _ _ hpo
    refine ⟨_, rfl, _, rfl, po, _, dx, _, _, rfl, hpo1, T.clM, T.nMG, stf_g _ _ _ _ _, g, rfl, ⟨_, SqT.same hcs s1⟩, fun D2 hD2 => ?_⟩
    refine lc_tup (K := K) (xs := cs0) (fun i Hc => ∃ ws, Hc D2 = some (.lst ws) ∧ K49.Fa (CdXo K Hc) ws ((m.gds.take i).map (mvC e.g)) ∧ Same H1 Hc) ⟨[], upd_same, by rw [List.take_zero]; exact .nil, Same.new _ (Same.refl H1) hD2⟩ (fun i Hc _ z => SqT.same (SqT.same hcs s1) z.choose_spec.2.2) ?_ ?_
    · rintro i u Hc hu ⟨ws, eD2, fw, sc⟩
      obtain ⟨g0, eg, ob⟩ := (fg.imp fun _ _ z => z.same (s1.trans sc)).at hu
      have okg0 := okg g0 (List.mem_of_getElem? eg)
      have nxt : ∀ (u' : V) (H' : Hp), Same Hc H' → CdXo K H' u' (mvC e.g g0) → ∃ acc, H' D2 = some (.lst acc) ∧ acc.length < sizeLine ∧ ∃ ws, (upd H' D2 (.lst (acc ++ [u']))) D2 = some (.lst ws) ∧ K49.Fa (CdXo K (upd H' D2 (.lst (acc ++ [u'])))) ws ((m.gds.take (i + 1)).map (mvC e.g)) ∧ Same H1 (upd H' D2 (.lst (acc ++ [u']))) := fun u' H' s' hv' => by
        have eD3 := s' _ _ eD2
        refine ⟨ws, eD3, sz1l _ ?_, ws ++ [u'], upd_same, ?_, fun b o e => ?_⟩
        · rw [fw.1, List.length_map, List.length_take]
          omega
        · rw [List.take_add_one, eg, List.map_append]
          have msU : MS H' (upd H' D2 (.lst (ws ++ [u']))) := .updL eD3
          exact (fw.imp fun _ _ z => (z.same s').ms msU).snoc (hv'.ms msU)
        · rw [upd_ne (ne_of_none e hD2)]
          exact s' _ _ (sc b o e)
      refine ⟨rfl, yes_of ?_⟩
      cases g0 with
      | atl a b c =>
        obtain ⟨pa, rfl, dxa, qa, ha1, ha2⟩ := ob
        obtain ⟨h1, h2, h3, h4, h5, h6⟩ := okg0
        refine .inl ⟨_, rfl, pa, dxa, _, rfl, ha1, af_re _, _, rfl, pa, a, b, c, e.g, rfl, ⟨dxa, qa, ha1, ha2⟩, bd12 h1 h2, bg, Nat.lt_of_le_of_lt (g2_le (N := 12) (by omega) (by omega)) (by decide), fun y H' s' hy => nxt _ H' s' ⟨y, rfl, hy⟩⟩
      | rst a b mm r1 =>
        obtain ⟨pa, rfl, dxa, qa, ha1, ha2⟩ := ob
        obtain ⟨h1, h2, h3, h4, h5, h6, h7, h8⟩ := okg0
        refine .inr ⟨_, rfl, pa, dxa, _, rfl, ha1, rf_re _ _ _, _, rfl, pa, a, b, mm, r1, e.g, rfl, ⟨dxa, qa, ha1, ha2⟩, bd12 (by omega) (by omega), bg, h1, h2, h7, by omega, fun y H' s' hy => nxt _ H' s' ⟨y, rfl, hy⟩⟩
    rintro H2 ⟨ws, eD2, fw, s2⟩
    rw [fg.1, List.take_length] at fw
    have s12 := s1.trans s2
    refine ⟨lc, D2, cvs, ws, rfl, rfl, s12 _ _ hlc, eD2, Nat.le_of_lt (sz1l _ (by rw [fc.1, fw.1, List.length_map]; omega)), fun L hL => ?_⟩
    refine normG (σ' := [some v, some (.ref t), some (.int e.j), some (.int e.k), some (.int e.g), some (.ref lc), some (.ref po), some (.ref D), none, some (.ref L), none]) rfl ?_
    try dsimp only
    have s3 := Same.new (.lst (cvs ++ ws)) (Same.refl H2) hL
    have s13 := s12.trans s3
    have fz : K49.Fa (CdXo K (upd H2 L (.lst (cvs ++ ws)))) (cvs ++ ws) mv.gds := by
      rw [emv]
      exact (fc.imp fun _ _ z => z.same s13).app (fw.imp fun _ _ z => z.same s3)
    obtain ⟨H3, eH3⟩ : ∃ X, X = upd H2 L (.lst (cvs ++ ws)) := ⟨_, rfl⟩
    have hL3 : H3 L = some (.lst (cvs ++ ws)) := by rw [eH3]; exact upd_same
    have eD3 := s3 _ _ (s2 _ _ eD)
    have fa3 := fa.imp fun _ _ z => z.same (s2.trans s3)
    rw [← eH3] at s13 fz eD3 fa3 ⊢
    have hpo3 := s13 _ _ hpo
    obtain ⟨dxq, hq0⟩ := hq
    have hq3 := s13 _ _ hq0
    refine ⟨_, rfl, po, _, dx, _, _, rfl, hpo3, T.clM, T.nMA, stf_a _ _ _ _ _, _, rfl, po, _, dx, _, _, rfl, hpo3, T.clM, T.nMC, stf_c _ _ _ _ _, q, dxq, _, rfl, hq3, sf_re _ _ _, _, rfl, q, m.a, m.b, m.c, 1, e.g, rfl, ⟨dxq, hq3⟩, bd12 a0 a1, Bd.of 1 (by decide) (by omega) (by omega), bg, fun r1 H4 s4 _ hr1 => ?_⟩
    rw [Int.mul_one] at hr1
    refine ⟨_, rfl, po, _, dx, _, _, rfl, s4 _ _ hpo3, T.clM, T.nMK, stf_k _ _ _ _ _, _, rfl, _, rfl, rfl, rfl, ?_⟩
    have kS : Out (ckStm mv.rds.length mv.gds.length mv.x (mv.gds.map cSum) mv.a mv.b mv.c mv.k) (Rz K H0 E) (∀ v' H', Same H0 H' → StXo K H' v' mv → Q v' H') := by
      unfold ckMv ckRs at k
      rw [ca0] at k
      exact k
    refine ⟨mv.x, .ref r1, mv.k, D, L, vs, cvs ++ ws, mv.gds.map cSum, mv.a, mv.b, mv.c, by rw [emv]; rfl, by rw [emv]; exact Nat.le_trans nmx.2.1 (by decide), .inl ⟨r1, rfl, by rw [emv]; exact hr1⟩, .inl (SqL.of (s4 _ _ eD3)), .inl (SqL.of (s4 _ _ hL3)), (cnds_x T fz).same s4, ?_⟩
    rw [fa.1, fz.1]
    refine kS.end_ (fun er9 z => z.same (s13.trans s4)) fun kk p4 H5 s5 h5 => kk _ _ (s13.trans (s4.trans s5)) ⟨p4, vs, cvs ++ ws, rfl, h5, fa3.imp fun _ _ z => z.same (s4.trans s5), fz.imp fun _ _ z => z.same (s4.trans s5)⟩
end
end K49
set_option maxHeartbeats 4000000
namespace K49
open PySem PySem.Spec PyProof.Rows L2 Z
theorem un_next {D : Ends} {σ : L2.St} {H : Hp} (h : D.nx σ H) : tNext D σ H := h
theorem pi_listK {X : Cx} {K : PySem.W.Frag} {tg l : Expr} {tl : TE} (hK : X.K = K) (hl : PE X l tl) : PI X tg l (iList K tl) := hK ▸ pi_list hl
theorem pi_tupK {X : Cx} {K : PySem.W.Frag} {tg l : Expr} {tl : TE} (hK : X.K = K) (hl : PE X l tl) : PI X tg l (iTup K tl) := hK ▸ pi_tup hl
theorem call_tupK {X : Cx} {K : PySem.W.Frag} (hK : X.K = K) : CallR X (.type "tuple") (fun xs H Q => ∃ p ys, xs = [V.ref p] ∧ ((SqL K H p ys ∧ ∀ (l : Addr), H l = none → Q (V.ref l) (upd H l (.tup ys))) ∨ (SqT K H p ys ∧ Q (V.ref p) H))) := hK ▸ call_tuple_of
theorem sl_tupK {X : Cx} {K : PySem.W.Frag} (hK : X.K = K) : SlR X (rSlT K) := hK ▸ sl_tup
abbrev CRw (K : PySem.W.Frag) : Addr := He.ga K "Rewriting"
structure RwTx (K : PySem.W.Frag) (mg : Str → Option Value) : Prop extends LwTx K mg where
  clW : Cls K (CRw K)
  nWB : NoAttr K (CRw K) "before"
  nWA : NoAttr K (CRw K) "after"
  nWO : NoAttr K (CRw K) "origins"
  nWK : NoAttr K (CRw K) "known"
def rw1 (b : V) : List (Str × V) := putF "before" b []
def rw2 (b a : V) : List (Str × V) := putF "after" a (rw1 b)
def rw3 (b a o : V) : List (Str × V) := putF "origins" o (rw2 b a)
def rwf (b a o : V) (d : Addr) : List (Str × V) := putF "known" (.ref d) (rw3 b a o)
theorem rwf_b (b a o : V) (d : Addr) : (rwf b a o d).lookup ("before" : Str) = some b := by
  unfold rwf rw3 rw2 rw1
  rw [lookup_putF, if_neg (by decide +kernel), lookup_putF, if_neg (by decide +kernel), lookup_putF, if_neg (by decide +kernel), lookup_putF, if_pos rfl]
theorem rwf_a (b a o : V) (d : Addr) : (rwf b a o d).lookup ("after" : Str) = some a := by
  unfold rwf rw3 rw2 rw1
  rw [lookup_putF, if_neg (by decide +kernel), lookup_putF, if_neg (by decide +kernel), lookup_putF, if_pos rfl]
theorem rwf_no (b a o : V) (d : Addr) {m : Str} (h1 : ¬ m = "before") (h2 : ¬ m = "after") (h3 : ¬ m = "origins") (h4 : ¬ m = "known") : (rwf b a o d).lookup m = none := by
  unfold rwf rw3 rw2 rw1
  rw [lookup_putF, if_neg h4, lookup_putF, if_neg h3, lookup_putF, if_neg h2, lookup_putF, if_neg h1]
  rfl
section
variable (K : PySem.W.Frag)
def RwAt (H : Hp) (p : Addr) (b a o : V) : Prop := ∃ dx d, H p = some (.ins (CRw K) dx (rwf b a o d))
def spRwI : Sp := fun vs H Q _ => ∃ (p dx : Addr) (b a o : V), vs = [.ref p, b, a, o] ∧ H p = some (.ins (CRw K) dx []) ∧ ∀ d H', H' p = some (.ins (CRw K) dx (rwf b a o d)) → Keep p H H' → Q .non H'
def rRw (ws : List V) (H : Hp) (Q : VK) : Prop := ∃ b a o : V, ws = [b, a, o] ∧ ∀ p H', Same H H' → H p = none → RwAt K H' p b a o → Q (.ref p) H'
end
theorem RwAt.same {K : PySem.W.Frag} {H H' : Hp} {p : Addr} {b a o : V} (h : RwAt K H p b a o) (s : Same H H') : RwAt K H' p b a o := by
  obtain ⟨dx, d, h⟩ := h
  exact ⟨dx, d, s _ _ h⟩
section
variable (P : Program) (w : World) (K : PySem.W.Frag) (mg : Str → Option Value) (base : Heap)
def MkRw : Prop := ∃ f fd, Mc P w K mg base 1 "Rewriting" f fd ["self", "before", "after", "origins"] (spRwI K) ∧ Binds K fd ["self", "before", "after", "origins"] []
end
section
variable {P : Program} {w : World} {K : PySem.W.Frag} {mg : Str → Option Value} {base : Heap}
theorem scRewriting__init__ : FnScope ["self", "before", "after", "origins"] ["self", "before", "after", "origins"] (defScope iRewriting__init__) := ⟨rfl, rfl, rfl, by decide +kernel, rfl, by decide +kernel, by decide +kernel⟩
theorem ok_RwI {fd : FuncData} (F : FnM K "Rewriting" "__init__" "Rewriting.__init__" iRewriting__init__ fd) (T : RwTx K mg) : FnOk P w K mg base (L2.CX P w) 1 (He.ma K (CRw K) "__init__") fd ["self", "before", "after", "origins"] (spRwI K) := by
  refine F.ok scRewriting__init__ (fun vs H Q E h => ?_) (fun cdv A outer s H vs Q E hr h => ?_)
  · obtain ⟨p, dx, b, a, o, rfl, _⟩ := h
    rfl
  · obtain ⟨p, dx, b, a, o, rfl, hp, k⟩ := h
    refine ⟨_, (pss_cons (ps_fld (pv 0) (pv 1) rfl)
      (pss_cons (ps_fld (pv 0) (pv 2) rfl)
      (pss_cons (ps_fld (pv 0) (pv 3) rfl)
      (pss_one (ps_fld (pv 0) pe_dnewK rfl))))), ?_⟩
    refine ⟨_, rfl, _, rfl, p, _, dx, [], rfl, hp, T.clW, T.nWB, pl0, ?_⟩
    refine ⟨_, rfl, _, rfl, p, _, dx, _, rfl, upd_same, T.clW, T.nWA, pl pl0, ?_⟩
    refine ⟨_, rfl, _, rfl, p, _, dx, _, rfl, upd_same, T.clW, T.nWO, pl (pl pl0), ?_⟩
    intro d hd
    have ndp : d ≠ p := fun z => by
      rw [z, upd_same] at hd
      cases hd
    refine ⟨_, rfl, p, _, dx, _, rfl, by rw [upd_ne ndp.symm, upd_same], T.clW, T.nWK, pl (pl (pl pl0)), ?_⟩
    refine k d _ upd_same fun c u nc e => ?_
    have hc : d ≠ c := fun z => by
      subst z
      rw [upd_ne nc, upd_ne nc, upd_ne nc] at hd
      rw [hd] at e
      cases e
    rw [upd_ne nc, upd_ne hc.symm, upd_ne nc, upd_ne nc, upd_ne nc]
    exact e
end
section
variable {X : Cx} {K : PySem.W.Frag} {k : Nat} {E : L2.St → XK} {p pos : Pos} {e : Expr} {es : List Expr} {t : TA}
theorem pe_Rw (M : MkRw X.prog X.w K X.mg X.base) (hK : X.K = K) (hr : Room k X.A) (hx : ∀ σ, PassesAt (L2.CX X.prog X.w) X σ (E σ)) (ha : PA X (e :: es) t) (hjk : 2 ≤ k := by decide) (hg : Gl X "Rewriting" := by rfl) (he : starEach (e :: es) X.env = (false, eval e X.env) :: starEach es X.env := by rfl) (hpl : (backTo pos (starEach es X.env)).any (·.1) = false := by rfl) :
    PE X (.Call (.Name "Rewriting" p) (e :: es) [] pos) (fun σ H Q => t σ H fun vs H1 => rRw K vs H1 Q) := by
  obtain ⟨f, fd, M, b⟩ := M
  exact pe_mkR (R := fun vs H1 Q E => rRw K vs H1 Q) M hK b .nil (fun {vs H Q E y dx} q nx nd ne => by
    rw [List.append_nil]
    obtain ⟨b, a, o, rfl, kk⟩ := q
    exact ⟨y, dx, b, a, o, rfl, upd_same, fun d H' hp kp => ⟨rfl, kk y H' (Same.made (Same.refl H) nx nd kp) nx ⟨dx, d, hp⟩⟩⟩) hr hx ha hjk hg (by decide) he hpl
end
def keptAt (ls : List LpX) (j : Nat) : PtM := match ls[j]? with
  | some l => keptPt l j
  | none => default
def kepts (ls : List LpX) (a b : Nat) : List PtM := (List.range (b - a)).map fun i => keptAt ls (a + i)
def planOf (ls : List LpX) (j many : Nat) (pts : List PtM) : List PtM := kepts ls 0 j ++ pts ++ kepts ls (j + many) ls.length
def ckRw (ls : List LpX) (plan : List PtM) : Option Er := (ckPl ls plan).or (ckM "loops" plan.length 6)
def spRw (K : PySem.W.Frag) : Sp := fun vs H Q E => ∃ (v : V) (ls : List LpX) (j many : Nat) (lp : Addr) (parts : List V) (pts : List PtM) (er : Er), vs = [v, .int j, .int many, .ref lp] ∧ PrXo K H v ls ∧ ls.length ≤ 6 ∧ (∀ l ∈ ls, l.sts.length ≤ 16 ∧ ∀ s ∈ l.sts, StXk s) ∧ j + many ≤ ls.length ∧
  H lp = some (.lst parts) ∧ Fa (PtV K (fun _ => True) H) parts pts ∧ pts.length ≤ 6 ∧ (∀ p ∈ pts, p.es.length ≤ 300 ∧ ∀ e ∈ p.es, EnK ls e) ∧ ckRw ls (planOf ls j many pts) = some er ∧ Rz K H E er
theorem keptAt_of {ls : List LpX} {j : Nat} {l : LpX} (h : ls[j]? = some l) : keptAt ls j = keptPt l j := by
  unfold keptAt
  rw [h]
theorem kepts_at {ls : List LpX} {a b i : Nat} {l : LpX} (hi : i < b - a) (h : ls[a + i]? = some l) : (kepts ls a b)[i]? = some (keptPt l (a + i)) := by
  unfold kepts
  rw [List.getElem?_map, List.getElem?_range hi]
  show some (keptAt ls (a + i)) = _
  rw [keptAt_of h]
theorem kepts_len {ls : List LpX} {a b : Nat} : (kepts ls a b).length = b - a := by
  unfold kepts
  rw [List.length_map, List.length_range]
theorem bd0 : Bd 400 0 := Bd.of 0 (by decide) (by omega) (by omega)
theorem kept_es {l : LpX} {j : Nat} {ls : List LpX} (h : ls[j]? = some l) : ∀ e ∈ (keptPt l j).es, EnK ls e := fun e he => by
  obtain ⟨k, hk, rfl⟩ := List.mem_map.mp (show e ∈ (List.range l.sts.length).map _ from he)
  have hk := List.mem_range.mp hk
  exact ⟨⟨l, _, h, List.getElem?_eq_getElem hk⟩, bd0, by show (0 : Nat) ≤ 10; omega⟩
theorem kepts_mem {ls : List LpX} {a b : Nat} {p : PtM} (hb : b ≤ ls.length) (h : p ∈ kepts ls a b) : ∃ j l, ls[j]? = some l ∧ p = keptPt l j := by
  obtain ⟨i, hi, rfl⟩ := List.mem_map.mp h
  have hi := List.mem_range.mp hi
  exact ⟨a + i, _, List.getElem?_eq_getElem (by omega), keptAt_of (List.getElem?_eq_getElem (by omega))⟩
theorem ckAll_none {α : Type} {f : α → Option Er} : ∀ {l : List α}, ckAll f l = none → ∀ a ∈ l, f a = none
  | x :: l, h, a, ha => by
    have h : (f x).or (ckAll f l) = none := h
    cases e : f x with
    | some y => rw [e] at h; cases h
    | none =>
      rw [e] at h
      rcases List.mem_cons.mp ha with rfl | ha
      · exact e
      · exact ckAll_none h a ha
theorem ckLp_len {m S : Int} {t u : P4} (h : ckLp m S t u = none) : m ≤ 16 := by
  unfold ckLp ckLoop ckM at h
  by_cases q : m ≤ 16
  · exact q
  · rw [if_neg q] at h
    cases h
/-- the loop that a part makes -/
def lpOf (ls : List LpX) (p : PtM) : LpX := { t := p.t, u := p.u, S := p.S, dn := p.dn, sts := p.es.map (enS ls) }
theorem cut4 {a b c d : V} : ¬ (HT.sIx [a, b, c, d].length 0 none = 0 ∧ HT.sIx [a, b, c, d].length [a, b, c, d].length (some 3) = [a, b, c, d].length) := fun z => absurd z.2 (show ¬ HT.sIx 4 4 (some 3) = 4 by decide)
theorem enS_rds {ls : List LpX} {e : EnM} (hk : ∀ l ∈ ls, ∀ s ∈ l.sts, StXk s) (h : EnK ls e) : (enS ls e).rds.length ≤ 3 := by
  obtain ⟨⟨l, m, h1, h2⟩, _⟩ := h
  have q := (hk l (List.mem_of_getElem? h1) m (List.mem_of_getElem? h2)).2.2.2.2.1
  have e1 := stAt_of h1 h2
  unfold enS
  rw [e1]
  split
  · exact q
  · show (m.rds.map _).length ≤ 3
    rw [List.length_map]
    exact q
section
variable {P : Program} {w : World} {K : PySem.W.Frag} {mg : Str → Option Value} {base : Heap}
theorem sc_rewritten : FnScope ["program", "place", "many", "parts", "plan", "at", "loops", "low", "high", "step", "down", "entries", "statements", "entry", "origins", "part"] ["program", "place", "many", "parts"] (defScope s_rewritten) := ⟨rfl, rfl, rfl, by decide +kernel, rfl, by decide +kernel, by decide +kernel⟩
theorem ok_rw {f : Addr} {fd : FuncData} (F : FnP K "rewritten" s_rewritten f fd) (T : RwTx K mg) (MRw : MkRw P w K mg base) (MLp : MkLp P w K mg base) (MPr : MkPr P w K mg base) (dKept : Dn P w K mg base 2 "kept_loop" ["program", "place"] (spKept K)) (dMdS : Dx P w K mg base 9 "made_statement" ["program", "entry"] (spMdS K)) : FnOk P w K mg base (L2.CX P w) 10 f fd ["program", "place", "many", "parts"] (spRw K) := by
  refine F.ok sc_rewritten (fun vs H Q E h => ?_) (fun cdv A outer s H vs Q E hr h => ?_)
  · obtain ⟨v, ls, j, many, lp, parts, pts, er, rfl, _⟩ := h
    rfl
  · obtain ⟨v, ls, j, many, lp, parts, pts, er, rfl, hP, l6, hk, hjm, hlp, fp, lp6, ek, hck, rz⟩ := h
    refine ⟨_, (pss_cons (ps_set (i := 4) sc_rewritten.nd rfl (Or.inl rfl) (pe_op op_cat (pe_lc (own := [("at", 5)]) (g := gName 5) (tt := tYes) rfl sc_rewritten.nd (pi_range1 (by rfl) T.range (pa_cons (pv 1) pa_nil)) (blkOk_by (N := ["program", "place", "many", "parts", "plan", "at", "loops", "low", "high", "step", "down", "entries", "statements", "entry", "origins", "part"]) (sc := defScope s_rewritten) (by decide +kernel)) (fun _ _ _ _ _ => (pg_name (i := 5) sc_rewritten.nd rfl (.inl rfl))) (fun _ _ _ _ _ => pts_nil) (fun _ _ _ _ _ => (pe_dn dKept hr (pa_cons (pv 0) (pa_cons (pv 5) pa_nil))))) (pv 3)))
      (pss_cons (ps_expr (pe_bm PySem.F.plainAttrs_list PySem.F.slot_list_extend PySem.F.type_list_extend mt_extend (pv 4) (pa_cons (pe_lc (own := [("at", 5)]) (g := gName 5) (tt := tYes) rfl sc_rewritten.nd (pi_range2 (by rfl) T.range (pa_cons (pe_op op_add (pv 1) (pv 2)) (pa_cons (pe_callB (call_len_seqK (K := K) rfl) (by rfl) T.len PySem.boot_len (pa_cons (pe_fldK (K := K) rfl (pv 0)) pa_nil)) pa_nil))) (blkOk_by (N := ["program", "place", "many", "parts", "plan", "at", "loops", "low", "high", "step", "down", "entries", "statements", "entry", "origins", "part"]) (sc := defScope s_rewritten) (by decide +kernel)) (fun _ _ _ _ _ => (pg_name (i := 5) sc_rewritten.nd rfl (.inl rfl))) (fun _ _ _ _ _ => pts_nil) (fun _ _ _ _ _ => (pe_dn dKept hr (pa_cons (pv 0) (pa_cons (pv 5) pa_nil))))) pa_nil)))
      (pss_cons (ps_set (i := 6) sc_rewritten.nd rfl (Or.inl rfl) (pe_lst pa_nil))
      (pss_cons (ps_for (passes_of rfl) rfl (pi_list (pv 4)) (pg_tup (by rfl) (pgs_cons (pg_name (i := 7) sc_rewritten.nd rfl (.inl rfl)) (pgs_cons (pg_name (i := 8) sc_rewritten.nd rfl (.inl rfl)) (pgs_cons (pg_name (i := 9) sc_rewritten.nd rfl (.inl rfl)) (pgs_cons (pg_name (i := 10) sc_rewritten.nd rfl (.inl rfl)) (pgs_cons (pg_name (i := 11) sc_rewritten.nd rfl (.inl rfl)) pgs_nil)))))) (pss_cons (ps_setLcX (i := 12) (own := [("entry", 13)]) (g := gName 13) rfl sc_rewritten.nd rfl rfl (takes_of rfl rfl rfl rfl) rfl rfl (sw_true rfl rfl rfl (by decide +kernel)) (pi_list (pv 11)) (blkOk_by (N := ["program", "place", "many", "parts", "plan", "at", "loops", "low", "high", "step", "down", "entries", "statements", "entry", "origins", "part"]) (sc := defScope s_rewritten) (by decide +kernel)) (fun _ _ _ _ _ _ => (pg_name (i := 13) sc_rewritten.nd rfl (.inl rfl))) (fun _ _ _ _ _ _ px => (pe_dx (K := K) dMdS rfl hr px (pa_cons (pv 0) (pa_cons (pv 13) pa_nil)))))
      (pss_one (ps_expr (pe_bm PySem.F.plainAttrs_list PySem.F.slot_list_append PySem.F.type_list_append mt_append (pv 6) (pa_cons (pe_LpK (K := K) MLp rfl hr (fun σ => passAt (takes_of rfl rfl rfl rfl) σ) (pa_cons (pv 7) (pa_cons (pv 8) (pa_cons (pv 12) pa_nil))) (pk_cons (pv 9) (pk_cons (pv 10) pk_nil))) pa_nil))))))
      (pss_cons (ps_setLc (i := 14) (own := [("part", 15)]) (g := gName 15) (tt := tYes) rfl sc_rewritten.nd rfl rfl (sw_true rfl rfl rfl (by decide +kernel)) (pi_list (pv 4)) (blkOk_by (N := ["program", "place", "many", "parts", "plan", "at", "loops", "low", "high", "step", "down", "entries", "statements", "entry", "origins", "part"]) (sc := defScope s_rewritten) (by decide +kernel)) (fun _ _ _ _ _ => (pg_name (i := 15) sc_rewritten.nd rfl (.inl rfl))) (fun _ _ _ _ _ => pts_nil) (fun _ _ _ _ _ => (pe_callTy (call_tupK (K := K) rfl) (by rfl) T.tuple (by decide +kernel) (pa_cons (by exact (pe_lc (own := [("entry", 13)]) (g := gName 13) (tt := tYes) rfl sc_rewritten.nd (pi_listK (K := K) rfl (pe_ix (ix_tupK (K := K) rfl) (pv 15) pe_int (fun _ _ => rfl))) (blkOk_by (N := ["program", "place", "many", "parts", "plan", "at", "loops", "low", "high", "step", "down", "entries", "statements", "entry", "origins", "part"]) (by rfl)) (fun _ _ _ _ _ => (pg_name (i := 13) sc_rewritten.nd rfl (.inl rfl))) (fun _ _ _ _ _ => pts_nil) (fun _ _ _ _ _ => (pe_slice (sl_tupK (K := K) rfl) (pv 13) po_none (po_some pe_int))))) pa_nil))))
      (pss_one (ps_ret (pe_Rw (K := K) MRw rfl hr (fun σ => passAt (takes_of rfl rfl rfl rfl) σ) (pa_cons (pv 0) (pa_cons (pe_PrP (K := K) MPr rfl hr (fun σ => passAt (takes_of rfl rfl rfl rfl) σ) (pa_cons (pv 6) pa_nil)) (pa_cons (pe_callTy (call_tupK (K := K) rfl) (by rfl) T.tuple (by decide +kernel) (pa_cons (pv 14) pa_nil)) pa_nil))))))))))), ?_⟩
    obtain ⟨p, xs, ys, rfl, ⟨dx, lt, at_, dk, hp, hlt, hat⟩, fa⟩ := id hP
    have lxs : xs.length = ls.length := fa.1
    have hk2 : ∀ l ∈ ls, ∀ s ∈ l.sts, StXk s := fun l hl => (hk l hl).2
    refine ⟨_, rfl, _, rfl, by omega, by omega, fun D hD => ?_⟩
    rw [Int.toNat_natCast]
    refine lc_range (lo := 0) (n := j) (fun i Hc => ∃ xs, Hc D = some (.lst xs) ∧ K49.Fa (PtV K (fun a => a ≠ D) Hc) xs ((kepts ls 0 j).take i) ∧ Same H Hc) ⟨[], upd_same, by rw [List.take_zero]; exact .nil, Same.new _ (Same.refl H) hD⟩ ?_ ?_
    · rintro i Hc hi ⟨us, eD, fe, sc⟩
      obtain ⟨l, hl⟩ : ∃ l, ls[i]? = some l := ⟨_, List.getElem?_eq_getElem (by omega)⟩
      refine ⟨rfl, yes_of ?_⟩
      refine ⟨_, rfl, _, rfl, .ref p, ls, i, l, (by rw [Int.zero_add]; rfl), hP.same sc, hl, by have := (hk l (List.mem_of_getElem? hl)).1; omega, fun v' H' s' pv => ?_⟩
      have eD2 := s' _ _ eD
      have lk := kepts_at (ls := ls) (a := 0) (b := j) (i := i) (l := l) (by omega) (by rw [Nat.zero_add]; exact hl)
      rw [Nat.zero_add] at lk
      refine ⟨us, eD2, sz1l _ (by rw [fe.1, List.length_take, kepts_len]; omega), us ++ [v'], upd_same, ?_, fun b o e => ?_⟩
      · rw [List.take_add_one, lk]
        have keepL : ∀ a ys, a ≠ D → H' a = some (.lst ys) → (upd H' D (.lst (us ++ [v']))) a = some (.lst ys) := fun a ys n e => by
          rw [upd_ne n]
          exact e
        have pv2 : PtV K (fun a => a ≠ D) H' v' (keptPt l i) := pv.imp fun a ys _ q z => by
          rw [z, eD] at q
          cases q
        exact (fe.imp fun _ _ z => (z.same s').to (.updL eD2) keepL fun _ _ _ q => q).snoc (pv2.to (.updL eD2) keepL fun _ _ _ q => q)
      · rw [upd_ne (ne_of_none e hD)]
        exact s' _ _ (sc b o e)
    rintro H1 ⟨us, eD, f1, s1⟩
    rw [List.take_of_length_le (by rw [kepts_len]; omega)] at f1
    refine ⟨_, rfl, D, lp, us, parts, rfl, rfl, eD, s1 _ _ hlp, Nat.le_of_lt (sz1l _ (by rw [f1.1, fp.1, kepts_len]; omega)), fun pl hpl => ?_⟩
    refine normG (σ' := [some (.ref p), some (.int j), some (.int many), some (.ref lp), some (.ref pl), none, none, none, none, none, none, none, none, none, none, none]) rfl ?_
    try dsimp only
    have s2 := Same.new (.lst (us ++ parts)) (Same.refl H1) hpl
    have f12 : K49.Fa (PtV K (fun a => a ≠ pl) (upd H1 pl (.lst (us ++ parts)))) (us ++ parts) (kepts ls 0 j ++ pts) := by
      have ip : ∀ a ys, H1 a = some (.lst ys) → a ≠ pl := fun a ys e => ne_of_none e hpl
      have i1 : ∀ v q, PtV K (fun a => a ≠ D) H1 v q → PtV K (fun a => a ≠ pl) H1 v q := fun v q z => z.imp fun a ys e _ => ip a ys e
      have i2 : ∀ v q, PtV K (fun _ => True) H1 v q → PtV K (fun a => a ≠ pl) H1 v q := fun v q z => z.imp fun a ys e _ => ip a ys e
      exact (f1.imp fun _ _ z => (i1 _ _ z).same s2).app (fp.imp fun _ _ z => (i2 _ _ (z.same s1)).same s2)
    obtain ⟨H2, eH2⟩ : ∃ X, X = upd H1 pl (.lst (us ++ parts)) := ⟨_, rfl⟩
    have ePl : H2 pl = some (.lst (us ++ parts)) := by rw [eH2]; exact upd_same
    rw [← eH2] at s2 f12 ⊢
    have s02 := s1.trans s2
    refine ⟨_, rfl, .inl ⟨rfl, _, SqL.of ePl⟩, _, rfl, _, rfl, _, _, rfl, rfl, _, rfl, p, _, dx, _, _, rfl, s02 _ _ hp, T.clP, T.nPL, prf_l _ _ _, lt, xs, rfl, .inr (SqT.same hlt s02), _, _, rfl, ⟨by omega, by omega, by omega, by omega⟩, fun D2 hD2 => ?_⟩
    rw [lxs, show ((ls.length : Int) - ((j : Int) + (many : Int))).toNat = ls.length - (j + many) by omega]
    refine lc_range (lo := (j : Int) + (many : Int)) (n := ls.length - (j + many)) (fun i Hc => ∃ xs, Hc D2 = some (.lst xs) ∧ K49.Fa (PtV K (fun a => a ≠ D2 ∧ a ≠ pl) Hc) xs ((kepts ls (j + many) ls.length).take i) ∧ Same H2 Hc) ⟨[], upd_same, by rw [List.take_zero]; exact .nil, Same.new _ (Same.refl H2) hD2⟩ ?_ ?_
    · rintro i Hc hi ⟨vs, eD2, fe, sc⟩
      obtain ⟨l, hl⟩ : ∃ l, ls[j + many + i]? = some l := ⟨_, List.getElem?_eq_getElem (by omega)⟩
      refine ⟨rfl, yes_of ?_⟩
      refine ⟨_, rfl, _, rfl, .ref p, ls, j + many + i, l, (by rw [show ((j : Int) + (many : Int) + (i : Int)) = ((j + many + i : Nat) : Int) by omega]; rfl), hP.same (s02.trans sc), hl, by have := (hk l (List.mem_of_getElem? hl)).1; omega, fun v' H' s' pv => ?_⟩
      have eD3 := s' _ _ eD2
      have lk := kepts_at (ls := ls) (a := j + many) (b := ls.length) (i := i) (l := l) hi hl
      refine ⟨vs, eD3, sz1l _ (by rw [fe.1, List.length_take, kepts_len]; omega), vs ++ [v'], upd_same, ?_, fun b o e => ?_⟩
      · rw [List.take_add_one, lk]
        have keepL : ∀ a ys, (a ≠ D2 ∧ a ≠ pl) → H' a = some (.lst ys) → (upd H' D2 (.lst (vs ++ [v']))) a = some (.lst ys) := fun a ys n e => by
          rw [upd_ne n.1]
          exact e
        have ePc := sc _ _ ePl
        have pv2 : PtV K (fun a => a ≠ D2 ∧ a ≠ pl) H' v' (keptPt l (j + many + i)) := pv.imp fun a ys _ q => by
          refine ⟨fun z => ?_, fun z => ?_⟩
          · rw [z, eD2] at q
            cases q
          · rw [z, ePc] at q
            cases q
        exact (fe.imp fun _ _ z => (z.same s').to (.updL eD3) keepL fun _ _ _ q => q).snoc (pv2.to (.updL eD3) keepL fun _ _ _ q => q)
      · rw [upd_ne (ne_of_none e hD2)]
        exact s' _ _ (sc b o e)
    rintro H3 ⟨vs, eD2, f3, s3⟩
    rw [List.take_of_length_le (by rw [kepts_len]; omega)] at f3
    have ePl3 := s3 _ _ ePl
    refine ⟨pl, D2, us ++ parts, vs, rfl, rfl, ePl3, eD2, Nat.le_of_lt (sz1l _ (by rw [f12.1, f3.1, List.length_append, kepts_len, kepts_len]; omega)), ?_⟩
    have fpl : K49.Fa (PtV K (fun _ => True) (upd H3 pl (.lst (us ++ parts ++ vs)))) (us ++ parts ++ vs) (planOf ls j many pts) := by
      have keepL : ∀ a ys, a ≠ pl → H3 a = some (.lst ys) → (upd H3 pl (.lst (us ++ parts ++ vs))) a = some (.lst ys) := fun a ys n e => by
        rw [upd_ne n]
        exact e
      exact (f12.imp fun _ _ z => (z.same s3).to (.updL ePl3) keepL fun _ _ _ _ => trivial).app (f3.imp fun _ _ z => z.to (.updL ePl3) (fun a ys n e => keepL a ys n.2 e) fun _ _ _ _ => trivial)
    have npl : H pl = none := by
      cases hh : H pl with
      | none => rfl
      | some o =>
        rw [s1 _ _ hh] at hpl
        cases hpl
    have s04 : Same H (upd H3 pl (.lst (us ++ parts ++ vs))) := fun b o e => by
      rw [upd_ne (ne_of_none e npl)]
      exact s3 _ _ (s02 _ _ e)
    obtain ⟨H4, eH4⟩ : ∃ X, X = upd H3 pl (.lst (us ++ parts ++ vs)) := ⟨_, rfl⟩
    have ePl4 : H4 pl = some (.lst (us ++ parts ++ vs)) := by rw [eH4]; exact upd_same
    rw [← eH4] at fpl s04 ⊢
    obtain ⟨plan, epl⟩ : ∃ X, X = planOf ls j many pts := ⟨_, rfl⟩
    have plen : plan.length ≤ 12 := by
      rw [epl]
      unfold planOf
      rw [List.length_append, List.length_append, kepts_len, kepts_len]
      omega
    have pok : ∀ q ∈ plan, q.es.length ≤ 300 ∧ ∀ e ∈ q.es, EnK ls e := by
      rw [epl]
      intro q hq
      rcases List.mem_append.mp hq with hq | hq
      · rcases List.mem_append.mp hq with hq | hq
        · obtain ⟨j0, l0, h0, rfl⟩ := kepts_mem (by omega) hq
          have := (hk l0 (List.mem_of_getElem? h0)).1
          exact ⟨by show (List.map _ (List.range l0.sts.length)).length ≤ 300; rw [List.length_map, List.length_range]; omega, kept_es h0⟩
        · exact ek q hq
      · obtain ⟨j0, l0, h0, rfl⟩ := kepts_mem (Nat.le_refl _) hq
        have := (hk l0 (List.mem_of_getElem? h0)).1
        exact ⟨by show (List.map _ (List.range l0.sts.length)).length ≤ 300; rw [List.length_map, List.length_range]; omega, kept_es h0⟩
    rw [← epl] at fpl hck
    refine un_next ?_
    try dsimp only
    refine ⟨sz0, fun lo hlo => ?_⟩
    refine normG (σ' := [some (.ref p), some (.int j), some (.int many), some (.ref lp), some (.ref pl), none, some (.ref lo), none, none, none, none, none, none, none, none, none]) rfl ?_
    try dsimp only
    refine ⟨_, rfl, pl, rfl, ⟨_, SqL.of ((Same.new (.lst []) (Same.refl H4) hlo) _ _ ePl4)⟩, ?_⟩
    refine for_list (K := K) (xs := us ++ parts ++ vs) (fun i σ Hc => ∃ (v7 v8 v9 v10 v11 v12 v13 : Option V) (ws : List V), σ = [some (.ref p), some (.int j), some (.int many), some (.ref lp), some (.ref pl), none, some (.ref lo), v7, v8, v9, v10, v11, v12, v13, none, none] ∧ Hc lo = some (.lst ws) ∧
      K49.Fa (LpXo K Hc) ws ((plan.take i).map (lpOf ls)) ∧ ckAll (ckPt ls) (plan.take i) = none ∧ Same H4 Hc) ⟨_, _, _, _, _, _, _, [], rfl, upd_same, by rw [List.take_zero]; exact .nil, rfl, Same.new _ (Same.refl H4) hlo⟩ (fun _ _ H' _ ⟨_, _, _, _, _, _, _, _, _, _, _, _, z⟩ => SqL.of (z _ _ ePl4)) ?_ ?_
    · rintro i x σ Hc hx ⟨v7, v8, v9, v10, v11, v12, v13, ws, rfl, eLo, fw, ca, sc⟩
      obtain ⟨q, eq, tt, low, high, le, xs3, rfl, htt, p1, p2, _, hle, fes⟩ := (fpl.imp fun _ _ z => z.same sc).at hx
      obtain ⟨qlen, qok⟩ := pok q (List.mem_of_getElem? eq)
      refine ⟨tt, _, rfl, SqT.of htt, rfl, _, _, rfl, _, _, rfl, _, _, rfl, _, _, rfl, _, _, rfl, rfl, ?_⟩
      refine norm (N := fun σ _ => _) (σ' := [some (.ref p), some (.int j), some (.int many), some (.ref lp), some (.ref pl), none, some (.ref lo), some low, some high, some (.int q.S), some (.bl q.dn), some (.ref le), v12, v13, none, none]) rfl ?_
      try dsimp only
      refine ⟨_, rfl, le, rfl, ⟨_, SqL.of hle⟩, fun D3 hD3 => ?_⟩
      refine lc_list (K := K) (xs := xs3) (fun b Hb => ∃ ss, Hb D3 = some (.lst ss) ∧ K49.Fa (StXo K Hb) ss ((q.es.map (enS ls)).take b) ∧ ckAll (ckEn ls) (q.es.take b) = none ∧ Same Hc Hb) ⟨[], upd_same, by rw [List.take_zero]; exact .nil, rfl, Same.new _ (Same.refl Hc) hD3⟩ (fun b Hb _ z => SqL.of (z.choose_spec.2.2.2 _ _ hle)) ?_ ?_
      · rintro b u Hb hu ⟨ss, eD3, fs, ce, sb⟩
        obtain ⟨e0, ee, ev⟩ := (fes.imp fun _ _ z => z.same sb).at hu
        have ek0 := qok e0 (List.mem_of_getElem? ee)
        have ee2 : (q.es.map (enS ls))[b]? = some (enS ls e0) := by
          rw [List.getElem?_map, ee]
          rfl
        refine ⟨rfl, yes_of ?_⟩
        refine ⟨_, rfl, _, rfl, fun _ => True, .ref p, u, ls, e0, rfl, hP.same (s04.trans (sc.trans sb)), hk2, ev, ek0, fun er9 h9 => ?_, fun h9 v' H' s' ov => ?_⟩
        · have h1 := ckAll_hit (f := ckEn ls) ce ee h9
          have h2 : ckPt ls q = some er9 := by
            unfold ckPt ckEs
            rw [h1]
            rfl
          have h3 := ckAll_hit (f := ckPt ls) ca eq h2
          have h4 : ckRw ls plan = some er9 := by
            unfold ckRw ckPl
            rw [h3]
            rfl
          rw [hck] at h4
          cases h4
          exact rz.same (s04.trans (sc.trans sb))
        · have eD4 := s' _ _ eD3
          refine ⟨ss, eD4, sz1l _ (by rw [fs.1, List.length_take, List.length_map]; omega), ss ++ [v'], upd_same, ?_, ckAll_step (f := ckEn ls) ce ee h9, fun b o e => ?_⟩
          · rw [List.take_add_one, ee2]
            have msU : MS H' (upd H' D3 (.lst (ss ++ [v']))) := .updL eD4
            exact (fs.imp fun _ _ z => (z.same s').ms msU).snoc (ov.ms msU)
          · rw [upd_ne (ne_of_none e hD3)]
            exact s' _ _ (sb b o e)
      rintro H5 ⟨ss, eD3, fs, ce, s5⟩
      rw [fes.1, List.take_length] at ce
      rw [show xs3.length = (q.es.map (enS ls)).length by rw [fes.1, List.length_map], List.take_length] at fs
      refine normG (σ' := [some (.ref p), some (.int j), some (.int many), some (.ref lp), some (.ref pl), none, some (.ref lo), some low, some high, some (.int q.S), some (.bl q.dn), some (.ref le), some (.ref D3), v13, none, none]) rfl ?_
      try dsimp only
      have eLo5 := s5 _ _ eLo
      refine ⟨_, rfl, .inl ⟨rfl, _, SqL.of eLo5⟩, _, rfl, _, rfl, _, rfl, _, rfl, _, rfl, rfl, rfl, low, high, D3, ss, q.t, q.u, q.S, q.dn, rfl, p1.same s5, p2.same s5, .inl (SqL.of eD3), ?_⟩
      have lss : ss.length = q.es.length := by rw [fs.1, List.length_map]
      rw [lss]
      have hpt : ckPt ls q = ckLp q.es.length q.S q.t q.u := by
        unfold ckPt ckEs
        rw [ce]
        rfl
      refine ⟨fun er9 h9 => ?_, fun h9 p3 H6 s6 h6 => ?_⟩
      · have h3 := ckAll_hit (f := ckPt ls) ca eq (hpt.trans h9)
        have h4 : ckRw ls plan = some er9 := by
          unfold ckRw ckPl
          rw [h3]
          rfl
        rw [hck] at h4
        cases h4
        exact rz.same (s04.trans (sc.trans s5))
      · have eLo6 := s6 _ _ eLo5
        refine ⟨lo, ws, _, rfl, rfl, eLo6, sz1l _ (by rw [fw.1, List.length_map, List.length_take]; omega), some low, some high, some (.int q.S), some (.bl q.dn), some (.ref le), some (.ref D3), v13, ws ++ [.ref p3], rfl, upd_same, ?_, ckAll_step (f := ckPt ls) ca eq (hpt.trans h9), fun b o e => ?_⟩
        · rw [List.take_add_one, eq, List.map_append]
          have msU : MS H6 (upd H6 lo (.lst (ws ++ [.ref p3]))) := .updL eLo6
          exact (fw.imp fun _ _ z => (z.same (s5.trans s6)).ms msU).snoc (LpXo.ms (l := lpOf ls q) ⟨p3, ss, rfl, h6, fs.imp fun _ _ z => z.same s6⟩ msU)
        · rw [upd_ne (ne_of_none e hlo)]
          exact s6 _ _ (s5 _ _ (sc b o e))
    rintro σ H7 ⟨v7, v8, v9, v10, v11, v12, v13, ws, rfl, eLo, fw, ca, s7⟩
    have lpl : (us ++ parts ++ vs).length = plan.length := fpl.1
    rw [lpl, List.take_length] at fw ca
    have hmany : ckM "loops" plan.length 6 = some er := by
      have h := hck
      unfold ckRw ckPl at h
      rw [ca] at h
      exact h
    have ePl7 := s7 _ _ ePl4
    try dsimp only
    refine ⟨_, rfl, pl, rfl, ⟨_, SqL.of ePl7⟩, fun D5 hD5 => ?_⟩
    refine lc_list (K := K) (xs := us ++ parts ++ vs) (fun i Hc => ∃ acc, Hc D5 = some (.lst acc) ∧ acc.length = i ∧ Same H7 Hc) ⟨[], upd_same, rfl, Same.new _ (Same.refl H7) hD5⟩ (fun i Hc _ z => SqL.of (z.choose_spec.2.2 _ _ ePl7)) ?_ ?_
    · rintro i x Hc hx ⟨acc, eD5, la, sc⟩
      have hi := (List.getElem?_eq_some_iff.mp hx).1
      obtain ⟨q, eq, tt, low, high, le, xs3, rfl, htt, p1, p2, _, hle, fes⟩ := (fpl.imp fun _ _ z => z.same (s7.trans sc)).at hx
      obtain ⟨qlen, qok⟩ := pok q (List.mem_of_getElem? eq)
      refine ⟨rfl, yes_of ?_⟩
      refine ⟨_, rfl, tt, _, _, _, rfl, rfl, SqT.of htt, at4, le, rfl, ⟨_, SqL.of hle⟩, fun D6 hD6 => ?_⟩
      refine lc_list (K := K) (xs := xs3) (fun b Hb => ∃ acc2, Hb D6 = some (.lst acc2) ∧ acc2.length = b ∧ Same Hc Hb) ⟨[], upd_same, rfl, Same.new _ (Same.refl Hc) hD6⟩ (fun b Hb _ z => SqL.of (z.choose_spec.2.2 _ _ hle)) ?_ ?_
      · rintro b u Hb hu ⟨acc2, eD6, la2, sb⟩
        have hb := (List.getElem?_eq_some_iff.mp hu).1
        have lx3 := fes.1
        obtain ⟨e0, ee, te, lc, cs, rfl, hte, _⟩ := (fes.imp fun _ _ z => z.same sb).at hu
        refine ⟨rfl, yes_of ?_⟩
        refine ⟨_, rfl, _, rfl, te, _, rfl, SqT.of hte, cut4, fun V3 hV3 => ?_⟩
        have s9 := Same.new (.tup (cutV [V.int e0.j, .int e0.k, .int e0.g, .ref lc] none (some 3))) (Same.refl Hb) hV3
        refine ⟨acc2, s9 _ _ eD6, sz1l _ (by omega), _, upd_same, by rw [List.length_append, la2]; rfl, fun b' o e => ?_⟩
        rw [upd_ne (ne_of_none e hD6)]
        exact s9 _ _ (sb _ _ e)
      rintro H8 ⟨acc2, eD6, la2, s8⟩
      refine ⟨D6, acc2, rfl, .inl ⟨SqL.of eD6, fun tl htl => ?_⟩⟩
      have s9 := Same.new (.tup acc2) s8 htl
      refine ⟨acc, s9 _ _ eD5, sz1l _ (by omega), _, upd_same, by rw [List.length_append, la]; rfl, fun b' o e => ?_⟩
      rw [upd_ne (ne_of_none e hD5)]
      exact s9 _ _ (sc _ _ e)
    rintro H8 ⟨acc, eD5, la, s8⟩
    refine normG (σ' := [some (.ref p), some (.int j), some (.int many), some (.ref lp), some (.ref pl), none, some (.ref lo), v7, v8, v9, v10, v11, v12, v13, some (.ref D5), none]) rfl ?_
    try dsimp only
    have lws : ws.length = plan.length := by rw [fw.1, List.length_map]
    refine ⟨_, rfl, _, rfl, lo, ws, _, rfl, .inl (SqL.of (s8 _ _ eLo)), lpNsX (fw.imp fun _ _ z => z.same s8), ?_, ?_⟩
    · refine Nat.le_trans (flat_bound (n := 64) fun l0 hl => ?_) (by rw [List.length_map]; omega)
      obtain ⟨q, hq, rfl⟩ := List.mem_map.mp hl
      have h0 := ckAll_none ca q hq
      have hes : ckAll (ckEn ls) q.es = none := by
        unfold ckPt ckEs at h0
        cases z : ckAll (ckEn ls) q.es with
        | none => rfl
        | some y =>
          rw [z] at h0
          cases h0
      have hlp0 : ckLp q.es.length q.S q.t q.u = none := by
        unfold ckPt ckEs at h0
        rw [hes] at h0
        exact h0
      have l16 := ckLp_len hlp0
      refine Nat.le_trans (flat_bound (n := 4) fun m0 hm => ?_) (by have q0 : (lpOf ls q).sts.length = q.es.length := List.length_map ..; omega)
      obtain ⟨e0, he0, rfl⟩ := List.mem_map.mp (show m0 ∈ q.es.map (enS ls) from hm)
      have := enS_rds hk2 ((pok q hq).2 e0 he0)
      rw [List.length_cons, List.length_map]
      omega
    · rw [lws]
      exact Out.bad hmany (rz.same (s04.trans (s7.trans s8)))
end
end K49
set_option maxHeartbeats 4000000
namespace K49
open PySem PySem.Spec PyProof.Rows L2 Z
/-- the number of a loop, or what is none -/
def LpArg (K : PySem.W.Frag) (H : Hp) (E : XK) (av : V) (n : Nat) (G : Nat → Prop) : Prop := (IntV H av false ∧ RzV K "NoLoop" ["loop"] [av] H E) ∨ ∃ a : Int, av = .int a ∧ (¬ (0 ≤ a ∧ a ≤ (n : Int) - 1) → RzV K "NoLoop" ["loop"] [.int a] H E) ∧ ∀ j : Nat, a = (j : Int) → j < n → G j
def StArg (K : PySem.W.Frag) (H : Hp) (E : XK) (j : Nat) (sv : V) (n : Nat) (G : Nat → Prop) : Prop := (IntV H sv false ∧ RzV K "NoStatement" ["loop", "statement"] [.int j, sv] H E) ∨ ∃ a : Int, sv = .int a ∧ (¬ (0 ≤ a ∧ a ≤ (n : Int) - 1) → RzV K "NoStatement" ["loop", "statement"] [.int j, .int a] H E) ∧ ∀ k : Nat, a = (k : Int) → k < n → G k
def MyArg (K : PySem.W.Frag) (H : Hp) (E : XK) (mv : V) (top : Int) (G : Nat → Prop) : Prop := (IntV H mv false ∧ RzV K "BadMany" ["many"] [mv] H E) ∨ ∃ a : Int, mv = .int a ∧ (¬ (2 ≤ a ∧ a ≤ top) → RzV K "BadMany" ["many"] [.int a] H E) ∧ ∀ m : Nat, a = (m : Int) → 2 ≤ m → a ≤ top → G m
theorem LpArg.to {K : PySem.W.Frag} {H : Hp} {E : XK} {av : V} {n : Nat} {G G' : Nat → Prop} (h : LpArg K H E av n G) (k : ∀ j : Nat, av = .int j → j < n → G j → G' j) : LpArg K H E av n G' := by
  rcases h with h | ⟨a, e, h1, h2⟩
  · exact .inl h
  · exact .inr ⟨a, e, h1, fun j ej hj => k j (by rw [e, ej]) hj (h2 j ej hj)⟩
theorem StArg.to {K : PySem.W.Frag} {H : Hp} {E : XK} {j : Nat} {av : V} {n : Nat} {G G' : Nat → Prop} (h : StArg K H E j av n G) (k : ∀ k : Nat, av = .int k → k < n → G k → G' k) : StArg K H E j av n G' := by
  rcases h with h | ⟨a, e, h1, h2⟩
  · exact .inl h
  · exact .inr ⟨a, e, h1, fun j ej hj => k j (by rw [e, ej]) hj (h2 j ej hj)⟩
def spCkZ (K : PySem.W.Frag) : Sp := fun vs H Q E => ∃ nv : V, vs = [nv] ∧ ((IntV H nv false ∧ RzV K "BadSize" ["n"] [nv] H E) ∨ ∃ n : Int, nv = .int n ∧ (¬ (0 ≤ n ∧ n ≤ TOP) → RzV K "BadSize" ["n"] [.int n] H E) ∧ (0 ≤ n ∧ n ≤ TOP → Q .non H))
def spCkL (K : PySem.W.Frag) : Sp := fun vs H Q E => ∃ (v av : V) (ls : List LpX), vs = [v, av] ∧ PrXo K H v ls ∧ LpArg K H E av ls.length fun _ => Q .non H
def spCkNx (K : PySem.W.Frag) : Sp := fun vs H Q E => ∃ (v av : V) (ls : List LpX), vs = [v, av] ∧ PrXo K H v ls ∧ LpArg K H E av ls.length fun j => (j + 1 = ls.length → RzV K "NoLoop" ["loop"] [.int j] H E) ∧ (j + 1 < ls.length → Q .non H)
def spCkSt (K : PySem.W.Frag) : Sp := fun vs H Q E => ∃ (v av sv : V) (ls : List LpX), vs = [v, av, sv] ∧ PrXo K H v ls ∧ LpArg K H E av ls.length fun j => ∀ l, ls[j]? = some l → StArg K H E j sv l.sts.length fun _ => Q .non H
section
variable {P : Program} {w : World} {K : PySem.W.Frag} {mg : Str → Option Value} {base : Heap}
theorem sc_check_size : FnScope ["n"] ["n"] (defScope s_check_size) := ⟨rfl, rfl, rfl, by decide +kernel, rfl, by decide +kernel, by decide +kernel⟩
theorem ok_ckZ {f : Addr} {fd : FuncData} (F : FnP K "check_size" s_check_size f fd) (MZ : Mx P w K mg base "BadSize" ["self", "n"] ["n"]) (dIsSize : Dn P w K mg base 3 "is_size" ["value"] spIsSize) : FnOk P w K mg base (L2.CX P w) 4 f fd ["n"] (spCkZ K) := by
  refine F.ok sc_check_size (fun vs H Q E h => ?_) (fun cdv A outer s H vs Q E hr h => ?_)
  · obtain ⟨nv, rfl, _⟩ := h
    rfl
  · obtain ⟨nv, rfl, k⟩ := h
    refine ⟨_, (pss_one (ps_if (pt_not (pt_val (pe_dn dIsSize hr (pa_cons (pv 0) pa_nil)))) (pss_one (ps_raise rfl (takes_of rfl rfl rfl rfl) (pmk_err MZ hr (pa_cons (pv 0) pa_nil)))) pss_nil)), ?_⟩
    have bad : ∀ nv : V, RzV K "BadSize" ["n"] [nv] H E → _ := fun nv z => err_go (K := K) (x := "BadSize") (fs := ["n"]) (vs := [nv]) (H1 := H) (Q := E) (by show 1 ≤ 1000; decide) rfl z
    rcases k with ⟨iv, k⟩ | ⟨n, rfl, k1, k2⟩
    · exact ⟨_, rfl, _, rfl, .inr ⟨iv, _, rfl, iteT ⟨_, rfl, bad _ k⟩⟩⟩
    · refine ⟨_, rfl, _, rfl, .inl ⟨n, rfl, _, rfl, ?_⟩⟩
      by_cases hn : 0 ≤ n ∧ n ≤ TOP
      · rw [decide_eq_true hn]
        exact iteF (k2 hn)
      · rw [decide_eq_false hn]
        exact iteT ⟨_, rfl, bad _ (k1 hn)⟩
theorem sc_check_loop : FnScope ["program", "loop"] ["program", "loop"] (defScope s_check_loop) := ⟨rfl, rfl, rfl, by decide +kernel, rfl, by decide +kernel, by decide +kernel⟩
theorem ok_ckL {f : Addr} {fd : FuncData} (F : FnP K "check_loop" s_check_loop f fd) (T : LwTx K mg) (ML : Mx P w K mg base "NoLoop" ["self", "loop"] ["loop"]) (dIsIntFrom : Dn P w K mg base 2 "is_integer_from" ["value", "low", "high"] spIntFromA) : FnOk P w K mg base (L2.CX P w) 4 f fd ["program", "loop"] (spCkL K) := by
  refine F.ok sc_check_loop (fun vs H Q E h => ?_) (fun cdv A outer s H vs Q E hr h => ?_)
  · obtain ⟨v, av, ls, rfl, _⟩ := h
    rfl
  · obtain ⟨v, av, ls, rfl, ⟨p, xs, ys, rfl, ⟨dx, lt, at_, dk, hp, hlt, hat⟩, fa⟩, k⟩ := h
    refine ⟨_, (pss_one (ps_if (pt_not (pt_val (pe_dn dIsIntFrom hr (pa_cons (pv 1) (pa_cons pe_int (pa_cons (pe_op op_sub (pe_callB (call_len_seqK (K := K) rfl) (by rfl) T.len PySem.boot_len (pa_cons (pe_fld (pv 0) rfl) pa_nil)) pe_int) pa_nil)))))) (pss_one (ps_raise rfl (takes_of rfl rfl rfl rfl) (pmk_err ML hr (pa_cons (pv 1) pa_nil)))) pss_nil)), ?_⟩
    have bad : ∀ av : V, RzV K "NoLoop" ["loop"] [av] H E → _ := fun av z => err_go (K := K) (x := "NoLoop") (fs := ["loop"]) (vs := [av]) (H1 := H) (Q := E) (by show 1 ≤ 1000; decide) rfl z
    have lx : xs.length = ls.length := fa.1
    refine ⟨_, rfl, _, rfl, p, _, dx, _, _, rfl, hp, T.clP, T.nPL, prf_l _ _ _, lt, xs, rfl, .inr hlt, _, _, rfl, rfl, ?_⟩
    rw [lx]
    rcases k with ⟨iv, k⟩ | ⟨a, rfl, k1, k2⟩
    · exact ⟨_, _, _, rfl, .inr ⟨iv, _, rfl, iteT ⟨_, rfl, bad _ k⟩⟩⟩
    · refine ⟨_, _, _, rfl, .inl ⟨a, rfl, _, rfl, ?_⟩⟩
      by_cases hn : 0 ≤ a ∧ a ≤ (ls.length : Int) - 1
      · rw [decide_eq_true hn]
        exact iteF (k2 a.toNat (by omega) (by omega))
      · rw [decide_eq_false hn]
        exact iteT ⟨_, rfl, bad _ (k1 hn)⟩
theorem sc_check_statement : FnScope ["program", "loop", "statement"] ["program", "loop", "statement"] (defScope s_check_statement) := ⟨rfl, rfl, rfl, by decide +kernel, rfl, by decide +kernel, by decide +kernel⟩
theorem ok_ckSt {f : Addr} {fd : FuncData} (F : FnP K "check_statement" s_check_statement f fd) (T : LwTx K mg) (MS : Mx P w K mg base "NoStatement" ["self", "loop", "statement"] ["loop", "statement"]) (dCkL : Dx P w K mg base 4 "check_loop" ["program", "loop"] (spCkL K)) (dIsIntFrom : Dn P w K mg base 2 "is_integer_from" ["value", "low", "high"] spIntFromA) : FnOk P w K mg base (L2.CX P w) 5 f fd ["program", "loop", "statement"] (spCkSt K) := by
  refine F.ok sc_check_statement (fun vs H Q E h => ?_) (fun cdv A outer s H vs Q E hr h => ?_)
  · obtain ⟨v, av, sv, ls, rfl, _⟩ := h
    rfl
  · obtain ⟨v, av, sv, ls, rfl, hP, k⟩ := h
    refine ⟨_, (pss_cons (ps_expr (pe_dx (K := K) dCkL rfl hr (fun σ => passAt (takes_of rfl rfl rfl rfl) σ) (pa_cons (pv 0) (pa_cons (pv 1) pa_nil))))
      (pss_one (ps_if (pt_not (pt_val (pe_dn dIsIntFrom hr (pa_cons (pv 2) (pa_cons pe_int (pa_cons (pe_op op_sub (pe_callB (call_len_seqK (K := K) rfl) (by rfl) T.len PySem.boot_len (pa_cons (pe_fld (pe_ix (ix_tupK (K := K) rfl) (pe_fld (pv 0) rfl) (pv 1) (fun _ _ => rfl)) rfl) pa_nil)) pe_int) pa_nil)))))) (pss_one (ps_raise rfl (takes_of rfl rfl rfl rfl) (pmk_err MS hr (pa_cons (pv 1) (pa_cons (pv 2) pa_nil))))) pss_nil))), ?_⟩
    refine ⟨_, rfl, _, rfl, v, av, ls, rfl, hP, k.to fun j ej hj k2 => ?_⟩
    subst ej
    obtain ⟨l, hl⟩ : ∃ l, ls[j]? = some l := ⟨_, List.getElem?_eq_getElem (by omega)⟩
    obtain ⟨p, xs, ys, rfl, ⟨dx, lt, at_, dk, hp, hlt, hat⟩, fa⟩ := hP
    obtain ⟨u, hu, q, ss, rfl, ⟨dq, lo, hi, st, hq, _, _, hst⟩, fs⟩ := fa.at' hl
    have ls' : ss.length = l.sts.length := fs.1
    have bad : ∀ sv : V, RzV K "NoStatement" ["loop", "statement"] [.int j, sv] H E → _ := fun sv z => err_go (K := K) (x := "NoStatement") (fs := ["loop", "statement"]) (vs := [.int j, sv]) (H1 := H) (Q := E) (by show 2 ≤ 1000; decide) rfl z
    refine ⟨_, rfl, _, rfl, p, _, dx, _, _, rfl, hp, T.clP, T.nPL, prf_l _ _ _, ?_⟩
    refine ⟨_, rfl, lt, _, _, _, rfl, rfl, hlt, atI_nat hu, q, _, dq, _, _, rfl, hq, T.clL, T.nSt, lp_tt _ _ _ _ _, st, ss, rfl, .inr hst, _, _, rfl, rfl, ?_⟩
    rw [ls']
    rcases k2 l hl with ⟨iv, k9⟩ | ⟨k9, rfl, k3, k4⟩
    · exact ⟨_, _, _, rfl, .inr ⟨iv, _, rfl, iteT ⟨_, rfl, _, rfl, bad _ k9⟩⟩⟩
    · refine ⟨_, _, _, rfl, .inl ⟨k9, rfl, _, rfl, ?_⟩⟩
      by_cases hn : 0 ≤ k9 ∧ k9 ≤ (l.sts.length : Int) - 1
      · rw [decide_eq_true hn]
        exact iteF (k4 k9.toNat (by omega) (by omega))
      · rw [decide_eq_false hn]
        exact iteT ⟨_, rfl, _, rfl, bad _ (k3 hn)⟩
theorem sc_check_next_loop : FnScope ["program", "loop"] ["program", "loop"] (defScope s_check_next_loop) := ⟨rfl, rfl, rfl, by decide +kernel, rfl, by decide +kernel, by decide +kernel⟩
theorem ok_ckNx {f : Addr} {fd : FuncData} (F : FnP K "check_next_loop" s_check_next_loop f fd) (T : LwTx K mg) (ML : Mx P w K mg base "NoLoop" ["self", "loop"] ["loop"]) (dCkL : Dx P w K mg base 4 "check_loop" ["program", "loop"] (spCkL K)) : FnOk P w K mg base (L2.CX P w) 5 f fd ["program", "loop"] (spCkNx K) := by
  refine F.ok sc_check_next_loop (fun vs H Q E h => ?_) (fun cdv A outer s H vs Q E hr h => ?_)
  · obtain ⟨v, av, ls, rfl, _⟩ := h
    rfl
  · obtain ⟨v, av, ls, rfl, hP, k⟩ := h
    refine ⟨_, (pss_cons (ps_expr (pe_dx (K := K) dCkL rfl hr (fun σ => passAt (takes_of rfl rfl rfl rfl) σ) (pa_cons (pv 0) (pa_cons (pv 1) pa_nil))))
      (pss_one (ps_if (pt_cmpR op_eq (pe_op op_add (pv 1) pe_int) (pe_callB (call_len_seqK (K := K) rfl) (by rfl) T.len PySem.boot_len (pa_cons (pe_fldK (K := K) rfl (pv 0)) pa_nil)) (nomark _)) (pss_one (ps_raise rfl (takes_of rfl rfl rfl rfl) (pmk_err ML hr (pa_cons (pv 1) pa_nil)))) pss_nil))), ?_⟩
    refine ⟨_, rfl, _, rfl, v, av, ls, rfl, hP, k.to fun j ej hj k2 => ?_⟩
    subst ej
    obtain ⟨p, xs, ys, rfl, ⟨dx, lt, at_, dk, hp, hlt, hat⟩, fa⟩ := hP
    have lx : xs.length = ls.length := fa.1
    refine ⟨_, rfl, _, _, rfl, rfl, _, rfl, p, _, dx, _, _, rfl, hp, T.clP, T.nPL, prf_l _ _ _, lt, xs, rfl, .inr hlt, rfl, _, rfl, ?_⟩
    rw [lx]
    by_cases hn : j + 1 = ls.length
    · exact if_yes (decide_eq_true (by show V.int ((j : Int) + 1) = V.int (ls.length : Int); rw [← hn]; rfl)) ⟨_, rfl, err_go (K := K) (x := "NoLoop") (fs := ["loop"]) (vs := [.int j]) (H1 := H) (Q := E) (by show 1 ≤ 1000; decide) rfl (k2.1 hn)⟩
    · exact if_no (decide_eq_false fun z => hn (by have := V.int.inj z; omega)) (k2.2 (by omega))
end
end K49
set_option maxHeartbeats 4000000
namespace K49
open PySem PySem.Spec PyProof.Rows L2 Z
theorem Fa.one {α : Type} {R : V → α → Prop} {v : V} {m : α} (h : R v m) : Fa R [v] [m] := Fa.nil.snoc h
def PO (ls : List LpX) : Prop := ls.length ≤ 6 ∧ ∀ l ∈ ls, l.sts.length ≤ 16 ∧ ∀ s ∈ l.sts, StXk s
def spSwL (K : PySem.W.Frag) : Sp := fun vs H Q E => ∃ (v av : V) (ls : List LpX), vs = [v, av] ∧ PrXo K H v ls ∧ LpArg K H E av ls.length fun j => j + 1 = ls.length ∧ RzV K "NoLoop" ["loop"] [.int j] H E
def spTurn (K : PySem.W.Frag) : Sp := fun vs H Q E => ∃ (v av : V) (ls : List LpX), vs = [v, av] ∧ PrXo K H v ls ∧ LpArg K H E av ls.length fun _ => False
def spSwS (K : PySem.W.Frag) : Sp := fun vs H Q E => ∃ (v av sv : V) (ls : List LpX), vs = [v, av, sv] ∧ PrXo K H v ls ∧ PO ls ∧ LpArg K H E av ls.length fun j => ∀ l, ls[j]? = some l → StArg K H E j sv l.sts.length fun k => k + 1 = l.sts.length ∧ RzV K "NoStatement" ["loop", "statement"] [.int j, .int k] H E
def joinPt (l1 l2 : LpX) (j : Nat) : PtM := { t := l1.t, u := l1.u, S := l1.S, dn := l1.dn, es := keptEs l1 j ++ keptEs l2 (j + 1) }
def spJoin (K : PySem.W.Frag) : Sp := fun vs H Q E => ∃ (v av : V) (ls : List LpX), vs = [v, av] ∧ PrXo K H v ls ∧ PO ls ∧ LpArg K H E av ls.length fun j => (j + 1 = ls.length → RzV K "NoLoop" ["loop"] [.int j] H E) ∧ ∀ l1 l2, ls[j]? = some l1 → ls[j + 1]? = some l2 →
  (¬ (l1.S = l2.S ∧ l1.dn = l2.dn) → RzV K "Unlike" ["loop"] [.int j] H E) ∧ (l1.S = l2.S ∧ l1.dn = l2.dn → ∃ er, ckRw ls (planOf ls j 2 [joinPt l1 l2 j]) = some er ∧ Rz K H E er)
theorem keptEs_len {l : LpX} {j : Nat} : (keptEs l j).length = l.sts.length := by
  unfold keptEs
  rw [List.length_map, List.length_range]
section
variable {P : Program} {w : World} {K : PySem.W.Frag} {mg : Str → Option Value} {base : Heap}
theorem sc_swap_loops : FnScope ["program", "loop"] ["program", "loop"] (defScope s_swap_loops) := ⟨rfl, rfl, rfl, by decide +kernel, rfl, by decide +kernel, by decide +kernel⟩
theorem ok_swL {f : Addr} {fd : FuncData} (F : FnP K "swap_loops" s_swap_loops f fd) (T : RwTx K mg) (dCkNx : Dx P w K mg base 5 "check_next_loop" ["program", "loop"] (spCkNx K)) (dKept : Dn P w K mg base 2 "kept_loop" ["program", "place"] (spKept K)) (dRw : Dx P w K mg base 10 "rewritten" ["program", "place", "many", "parts"] (spRw K)) : FnOk P w K mg base (L2.CX P w) 11 f fd ["program", "loop"] (spSwL K) := by
  refine F.ok sc_swap_loops (fun vs H Q E h => ?_) (fun cdv A outer s H vs Q E hr h => ?_)
  · obtain ⟨v, av, ls, rfl, _⟩ := h
    rfl
  · obtain ⟨v, av, ls, rfl, hP, k⟩ := h
    refine ⟨_, (pss_cons (ps_expr (pe_dx (K := K) dCkNx rfl hr (fun σ => passAt (takes_of rfl rfl rfl rfl) σ) (pa_cons (pv 0) (pa_cons (pv 1) pa_nil))))
      (pss_one (ps_ret (pe_dx (K := K) dRw rfl hr (fun σ => passAt (takes_of rfl rfl rfl rfl) σ) (pa_cons (pv 0) (pa_cons (pv 1) (pa_cons pe_int (pa_cons (pe_lst (pa_cons (pe_dn dKept hr (pa_cons (pv 0) (pa_cons (pe_op op_add (pv 1) pe_int) pa_nil))) (pa_cons (pe_dn dKept hr (pa_cons (pv 0) (pa_cons (pv 1) pa_nil))) pa_nil))) pa_nil)))))))), ?_⟩
    exact ⟨_, rfl, _, rfl, v, av, ls, rfl, hP, k.to fun j ej hj k2 => ⟨fun _ => k2.2, fun z => absurd k2.1 (by omega)⟩⟩
theorem sc_turn_loop : FnScope ["program", "loop", "low", "high", "step", "down", "entries"] ["program", "loop"] (defScope s_turn_loop) := ⟨rfl, rfl, rfl, by decide +kernel, rfl, by decide +kernel, by decide +kernel⟩
theorem ok_turnL {f : Addr} {fd : FuncData} (F : FnP K "turn_loop" s_turn_loop f fd) (T : RwTx K mg) (dCkL : Dx P w K mg base 4 "check_loop" ["program", "loop"] (spCkL K)) (dKept : Dn P w K mg base 2 "kept_loop" ["program", "place"] (spKept K)) (dRw : Dx P w K mg base 10 "rewritten" ["program", "place", "many", "parts"] (spRw K)) : FnOk P w K mg base (L2.CX P w) 11 f fd ["program", "loop"] (spTurn K) := by
  refine F.ok sc_turn_loop (fun vs H Q E h => ?_) (fun cdv A outer s H vs Q E hr h => ?_)
  · obtain ⟨v, av, ls, rfl, _⟩ := h
    rfl
  · obtain ⟨v, av, ls, rfl, hP, k⟩ := h
    refine ⟨_, (pss_cons (ps_expr (pe_dx (K := K) dCkL rfl hr (fun σ => passAt (takes_of rfl rfl rfl rfl) σ) (pa_cons (pv 0) (pa_cons (pv 1) pa_nil))))
      (pss_cons (ps_asg (pe_dn dKept hr (pa_cons (pv 0) (pa_cons (pv 1) pa_nil))) (pg_tup (by rfl) (pgs_cons (pg_name (i := 2) sc_turn_loop.nd rfl (.inl rfl)) (pgs_cons (pg_name (i := 3) sc_turn_loop.nd rfl (.inl rfl)) (pgs_cons (pg_name (i := 4) sc_turn_loop.nd rfl (.inl rfl)) (pgs_cons (pg_name (i := 5) sc_turn_loop.nd rfl (.inl rfl)) (pgs_cons (pg_name (i := 6) sc_turn_loop.nd rfl (.inl rfl)) pgs_nil)))))))
      (pss_one (ps_ret (pe_dx (K := K) dRw rfl hr (fun σ => passAt (takes_of rfl rfl rfl rfl) σ) (pa_cons (pv 0) (pa_cons (pv 1) (pa_cons pe_int (pa_cons (pe_lst (pa_cons (pe_tup (pa_cons (pv 2) (pa_cons (pv 3) (pa_cons (pv 4) (pa_cons (pe_not (pv 5)) (pa_cons (pv 6) pa_nil)))))) pa_nil)) pa_nil))))))))), ?_⟩
    exact ⟨_, rfl, _, rfl, v, av, ls, rfl, hP, k.to fun j ej hj k2 => k2.elim⟩
theorem sc_swap_statements : FnScope ["program", "loop", "statement", "entries"] ["program", "loop", "statement"] (defScope s_swap_statements) := ⟨rfl, rfl, rfl, by decide +kernel, rfl, by decide +kernel, by decide +kernel⟩
theorem ok_swS {f : Addr} {fd : FuncData} (F : FnP K "swap_statements" s_swap_statements f fd) (T : RwTx K mg) (MS : Mx P w K mg base "NoStatement" ["self", "loop", "statement"] ["loop", "statement"]) (dCkSt : Dx P w K mg base 5 "check_statement" ["program", "loop", "statement"] (spCkSt K)) (dEnt : Dn P w K mg base 1 "entries_of" ["program", "place"] (spEnt K)) : FnOk P w K mg base (L2.CX P w) 11 f fd ["program", "loop", "statement"] (spSwS K) := by
  refine F.ok sc_swap_statements (fun vs H Q E h => ?_) (fun cdv A outer s H vs Q E hr h => ?_)
  · obtain ⟨v, av, sv, ls, rfl, _⟩ := h
    rfl
  · obtain ⟨v, av, sv, ls, rfl, hP, po, k⟩ := h
    refine ⟨_, (pss_cons (ps_expr (pe_dx (K := K) dCkSt rfl hr (fun σ => passAt (takes_of rfl rfl rfl rfl) σ) (pa_cons (pv 0) (pa_cons (pv 1) (pa_cons (pv 2) pa_nil)))))
      (pss_cons (ps_set (i := 3) sc_swap_statements.nd rfl (Or.inl rfl) (pe_dn dEnt hr (pa_cons (pv 0) (pa_cons (pv 1) pa_nil))))
      (pss_cons (ps_if (pt_cmpR op_eq (pe_op op_add (pv 2) pe_int) (pe_callB (call_len_seqK (K := K) rfl) (by rfl) T.len PySem.boot_len (pa_cons (pv 3) pa_nil)) (nomark _)) (pss_one (ps_raise rfl (takes_of rfl rfl rfl rfl) (pmk_err MS hr (pa_cons (pv 1) (pa_cons (pv 2) pa_nil))))) pss_nil)
      (pss_cons ps_never
      (pss_one ps_never))))), ?_⟩
    refine ⟨_, rfl, _, rfl, _, rfl, v, av, sv, ls, rfl, hP, k.to fun j ej hj k2 l hl => (k2 l hl).to fun kk es hk k3 => ?_⟩
    subst ej es
    refine ⟨_, rfl, _, rfl, v, ls, j, l, rfl, hP, hl, by have := (po.2 l (List.mem_of_getElem? hl)).1; omega, fun le xs H1 s1 n1 hle fe => ?_⟩
    refine normG (σ' := [some v, some (.int j), some (.int kk), some (.ref le)]) rfl ?_
    try dsimp only
    have lx : xs.length = l.sts.length := by rw [fe.1, keptEs_len]
    refine ⟨_, rfl, _, _, rfl, rfl, _, rfl, le, xs, rfl, .inl (SqL.of hle), rfl, _, rfl, ?_⟩
    rw [lx]
    refine if_yes (decide_eq_true (by show V.int ((kk : Int) + 1) = V.int (l.sts.length : Int); rw [← k3.1]; rfl)) ⟨_, rfl, _, rfl, err_go (K := K) (x := "NoStatement") (fs := ["loop", "statement"]) (vs := [.int j, .int kk]) (H1 := H1) (Q := E) (by show 2 ≤ 1000; decide) rfl (k3.2.same s1)⟩
theorem sc_join_loops : FnScope ["program", "loop", "one", "other", "entries"] ["program", "loop"] (defScope s_join_loops) := ⟨rfl, rfl, rfl, by decide +kernel, rfl, by decide +kernel, by decide +kernel⟩
theorem ok_join {f : Addr} {fd : FuncData} (F : FnP K "join_loops" s_join_loops f fd) (T : RwTx K mg) (MU : Mx P w K mg base "Unlike" ["self", "loop"] ["loop"]) (dCkNx : Dx P w K mg base 5 "check_next_loop" ["program", "loop"] (spCkNx K)) (dEnt : Dn P w K mg base 1 "entries_of" ["program", "place"] (spEnt K)) (dWiE : Dn P w K mg base 1 "with_entries" ["loop", "entries"] (spWiE K)) (dRw : Dx P w K mg base 10 "rewritten" ["program", "place", "many", "parts"] (spRw K)) : FnOk P w K mg base (L2.CX P w) 11 f fd ["program", "loop"] (spJoin K) := by
  refine F.ok sc_join_loops (fun vs H Q E h => ?_) (fun cdv A outer s H vs Q E hr h => ?_)
  · obtain ⟨v, av, ls, rfl, _⟩ := h
    rfl
  · obtain ⟨v, av, ls, rfl, hP, po, k⟩ := h
    refine ⟨_, (pss_cons (ps_expr (pe_dx (K := K) dCkNx rfl hr (fun σ => passAt (takes_of rfl rfl rfl rfl) σ) (pa_cons (pv 0) (pa_cons (pv 1) pa_nil))))
      (pss_cons (ps_set (i := 2) sc_join_loops.nd rfl (Or.inl rfl) (pe_ix (ix_tupK (K := K) rfl) (pe_fldK (K := K) rfl (pv 0)) (pv 1) (fun _ _ => rfl)))
      (pss_cons (ps_set (i := 3) sc_join_loops.nd rfl (Or.inl rfl) (pe_ix (ix_tupK (K := K) rfl) (pe_fldK (K := K) rfl (pv 0)) (pe_op op_add (pv 1) pe_int) (fun _ _ => rfl)))
      (pss_cons (ps_if (PW.pt (pw_or (pt_cmpR op_ne (pe_fldK (K := K) rfl (pv 2)) (pe_fldK (K := K) rfl (pv 3)) (nomark _)) (pw_or1 (pt_cmpR op_ne (pe_fldK (K := K) rfl (pv 2)) (pe_fldK (K := K) rfl (pv 3)) (nomark _))))) (pss_one (ps_raise rfl (takes_of rfl rfl rfl rfl) (pmk_err MU hr (pa_cons (pv 1) pa_nil)))) pss_nil)
      (pss_cons (ps_set (i := 4) sc_join_loops.nd rfl (Or.inl rfl) (pe_op op_cat (pe_dn dEnt hr (pa_cons (pv 0) (pa_cons (pv 1) pa_nil))) (pe_dn dEnt hr (pa_cons (pv 0) (pa_cons (pe_op op_add (pv 1) pe_int) pa_nil)))))
      (pss_one (ps_ret (pe_dx (K := K) dRw rfl hr (fun σ => passAt (takes_of rfl rfl rfl rfl) σ) (pa_cons (pv 0) (pa_cons (pv 1) (pa_cons pe_int (pa_cons (pe_lst (pa_cons (pe_dn dWiE hr (pa_cons (pv 2) (pa_cons (pv 4) pa_nil))) pa_nil)) pa_nil)))))))))))), ?_⟩
    refine ⟨_, rfl, _, rfl, v, av, ls, rfl, hP, k.to fun j ej hj k2 => ⟨k2.1, fun hj2 => ?_⟩⟩
    subst ej
    obtain ⟨l1, h1⟩ : ∃ l, ls[j]? = some l := ⟨_, List.getElem?_eq_getElem (by omega)⟩
    obtain ⟨l2, h2⟩ : ∃ l, ls[j + 1]? = some l := ⟨_, List.getElem?_eq_getElem hj2⟩
    have k3 := k2.2 l1 l2 h1 h2
    obtain ⟨p, xs, ys, rfl, ⟨dx, lt, at_, dk, hp, hlt, hat⟩, fa⟩ := id hP
    obtain ⟨u1, hu1, o1⟩ := fa.at' h1
    obtain ⟨u2, hu2, o2⟩ := fa.at' h2
    obtain ⟨q1, ss1, rfl, ⟨d1, lo1, hi1, st1, hq1, _, _, _⟩, _⟩ := id o1
    obtain ⟨q2, ss2, rfl, ⟨d2, lo2, hi2, st2, hq2, _, _, _⟩, _⟩ := id o2
    refine ⟨_, rfl, p, _, dx, _, _, rfl, hp, T.clP, T.nPL, prf_l _ _ _, _, rfl, lt, _, _, _, rfl, rfl, hlt, atI_nat hu1, ?_⟩
    refine normG (σ' := [some (.ref p), some (.int j), some (.ref q1), none, none]) rfl ?_
    try dsimp only
    refine ⟨_, rfl, p, _, dx, _, _, rfl, hp, T.clP, T.nPL, prf_l _ _ _, _, rfl, _, _, rfl, rfl, lt, _, _, _, rfl, rfl, hlt, atI_nat (j := j + 1) hu2, ?_⟩
    refine normG (σ' := [some (.ref p), some (.int j), some (.ref q1), some (.ref q2), none]) rfl ?_
    try dsimp only
    refine mid (fun σ' H' => σ' = [some (.ref p), some (.int j), some (.ref q1), some (.ref q2), none] ∧ H' = H ∧ (l1.S = l2.S ∧ l1.dn = l2.dn)) (fun key => ?_) ?_
    · have raise : ¬ (l1.S = l2.S ∧ l1.dn = l2.dn) → _ := fun z => err_go (K := K) (x := "Unlike") (fs := ["loop"]) (vs := [.int j]) (H1 := H) (Q := E) (by show 1 ≤ 1000; decide) rfl (k3.1 z)
      refine ⟨_, rfl, q1, _, d1, _, _, rfl, hq1, T.clL, T.nSp, lp_st _ _ _ _ _, _, rfl, q2, _, d2, _, _, rfl, hq2, T.clL, T.nSp, lp_st _ _ _ _ _, rfl, _, rfl, ?_⟩
      by_cases hS : l1.S = l2.S
      · refine if_no (by rw [hS]; simp) ?_
        refine ⟨_, rfl, q1, _, d1, _, _, rfl, hq1, T.clL, T.nDn, lp_dn _ _ _ _ _, _, rfl, q2, _, d2, _, _, rfl, hq2, T.clL, T.nDn, lp_dn _ _ _ _ _, rfl, _, rfl, ?_⟩
        by_cases hd : l1.dn = l2.dn
        · exact if_no (by rw [hd]; simp) (key _ _ ⟨rfl, rfl, hS, hd⟩)
        · exact if_yes (by simpa using hd) ⟨_, rfl, raise fun z => hd z.2⟩
      · exact if_yes (by simpa using hS) ⟨_, rfl, raise fun z => hS z.1⟩
    rintro σ H0 ⟨rfl, rfl, same⟩
    obtain ⟨er, hck, rz⟩ := k3.2 same
    have b1 := (po.2 l1 (List.mem_of_getElem? h1)).1
    have b2 := (po.2 l2 (List.mem_of_getElem? h2)).1
    refine ⟨_, rfl, _, rfl, .ref p, ls, j, l1, rfl, hP, h1, by omega, fun le1 xs1 H1 s1 n1 hle1 fe1 => ?_⟩
    refine ⟨_, rfl, _, rfl, _, _, rfl, rfl, .ref p, ls, j + 1, l2, rfl, hP.same s1, h2, by omega, fun le2 xs2 H2 s2 n2 hle2 fe2 => ?_⟩
    refine ⟨le1, le2, xs1, xs2, rfl, rfl, s2 _ _ hle1, hle2, Nat.le_of_lt (sz1l _ (by rw [fe1.1, fe2.1, keptEs_len, keptEs_len]; omega)), fun L hL => ?_⟩
    refine normG (σ' := [some (.ref p), some (.int j), some (.ref q1), some (.ref q2), some (.ref L)]) rfl ?_
    try dsimp only
    have s3 := Same.new (.lst (xs1 ++ xs2)) (Same.refl H2) hL
    have fL : Fa (EnV K (fun _ => True) (upd H2 L (.lst (xs1 ++ xs2)))) (xs1 ++ xs2) (keptEs l1 j ++ keptEs l2 (j + 1)) := (fe1.imp fun _ _ z => (z.imp fun _ _ _ _ => trivial).same (s2.trans s3)).app (fe2.imp fun _ _ z => (z.imp fun _ _ _ _ => trivial).same s3)
    obtain ⟨H3, eH3⟩ : ∃ X, X = upd H2 L (.lst (xs1 ++ xs2)) := ⟨_, rfl⟩
    have eL : H3 L = some (.lst (xs1 ++ xs2)) := by rw [eH3]; exact upd_same
    rw [← eH3] at s3 fL ⊢
    have s03 := s1.trans (s2.trans s3)
    refine ⟨_, rfl, _, rfl, _, rfl, _, rfl, .ref q1, l1, L, rfl, o1.same s03, fun t lo hi H4 s4 ht hlo hhi => ⟨sz1l _ (by show 0 < 1000; decide), fun lp hlp => ?_⟩⟩
    have s5 := Same.new (.lst [.ref t]) (Same.refl H4) hlp
    have s05 := s03.trans (s4.trans s5)
    refine ⟨.ref p, ls, j, 2, lp, [.ref t], [joinPt l1 l2 j], er, rfl, hP.same s05, po.1, po.2, by omega, upd_same, Fa.one ⟨t, .ref lo, .ref hi, L, xs1 ++ xs2, rfl, s5 _ _ ht, .inl ⟨lo, rfl, hlo.same s5⟩, .inl ⟨hi, rfl, hhi.same s5⟩, trivial, s5 _ _ (s4 _ _ eL), fL.imp fun _ _ z => z.same (s4.trans s5)⟩, by show 1 ≤ 6; decide, fun q hq => ?_, hck, rz.same s05⟩
    obtain rfl := List.mem_singleton.mp hq
    refine ⟨by show (keptEs l1 j ++ keptEs l2 (j + 1)).length ≤ 300; rw [List.length_append, keptEs_len, keptEs_len]; omega, fun e he => ?_⟩
    rcases List.mem_append.mp (show e ∈ keptEs l1 j ++ keptEs l2 (j + 1) from he) with he | he
    · exact kept_es h1 e he
    · exact kept_es h2 e he
end
end K49
set_option maxHeartbeats 4000000
namespace K49
open PySem PySem.Spec PyProof.Rows L2 Z
theorem cut_to {xs : List V} {c : Nat} : cutV xs none (some (c : Int)) = xs.take c := by
  unfold cutV
  rw [HT.sIx_nat, HT.sIx_none, List.drop_zero, Nat.sub_zero]
  by_cases h : c ≤ xs.length
  · rw [Nat.min_eq_left h]
  · rw [Nat.min_eq_right (by omega), List.take_of_length_le (Nat.le_refl _), List.take_of_length_le (by omega)]
theorem cut_from {xs : List V} {c : Nat} : cutV xs (some (c : Int)) none = xs.drop c := by
  unfold cutV
  rw [HT.sIx_nat, HT.sIx_none]
  by_cases h : c ≤ xs.length
  · rw [Nat.min_eq_left h, List.take_of_length_le (by rw [List.length_drop]; omega)]
  · rw [Nat.min_eq_right (by omega), List.drop_of_length_le (Nat.le_refl _), List.drop_of_length_le (by omega), List.take_nil]
theorem Fa.take {α : Type} {R : V → α → Prop} {vs : List V} {ms : List α} (h : Fa R vs ms) (c : Nat) : Fa R (vs.take c) (ms.take c) := by
  refine ⟨by rw [List.length_take, List.length_take, h.1], fun i v m a b => ?_⟩
  rw [List.getElem?_take] at a b
  by_cases q : i < c
  · rw [if_pos q] at a b
    exact h.2 i v m a b
  · rw [if_neg q] at a
    cases a
theorem Fa.drop {α : Type} {R : V → α → Prop} {vs : List V} {ms : List α} (h : Fa R vs ms) (c : Nat) : Fa R (vs.drop c) (ms.drop c) := by
  refine ⟨by rw [List.length_drop, List.length_drop, h.1], fun i v m a b => ?_⟩
  rw [List.getElem?_drop] at a b
  exact h.2 _ v m a b
theorem Fa.two {α : Type} {R : V → α → Prop} {v w : V} {m n : α} (h : R v m) (k : R w n) : Fa R [v, w] [m, n] := (Fa.one h).snoc k
def partL (l : LpX) (es : List EnM) : PtM := { t := l.t, u := l.u, S := l.S, dn := l.dn, es := es }
def spSplit (K : PySem.W.Frag) : Sp := fun vs H Q E => ∃ (v av sv : V) (ls : List LpX), vs = [v, av, sv] ∧ PrXo K H v ls ∧ PO ls ∧ LpArg K H E av ls.length fun j => ∀ l, ls[j]? = some l → StArg K H E j sv l.sts.length fun k => (k = 0 → RzV K "NoStatement" ["loop", "statement"] [.int j, .int 0] H E) ∧
  (k ≠ 0 → ∃ er, ckRw ls (planOf ls j 1 [partL l ((keptEs l j).take k), partL l ((keptEs l j).drop k)]) = some er ∧ Rz K H E er)
def cutP (l : LpX) (j : Nat) (c : P4) : List PtM := if l.dn = true then [{ t := c, u := l.u, S := l.S, dn := l.dn, es := keptEs l j }, { t := l.t, u := c, S := l.S, dn := l.dn, es := keptEs l j }] else [{ t := l.t, u := c, S := l.S, dn := l.dn, es := keptEs l j }, { t := c, u := l.u, S := l.S, dn := l.dn, es := keptEs l j }]
def spCut (K : PySem.W.Frag) : Sp := fun vs H Q E => ∃ (v av pv0 : V) (ls : List LpX), vs = [v, av, pv0] ∧ PrXo K H v ls ∧ PO ls ∧ LpArg K H E av ls.length fun j => ∀ l, ls[j]? = some l → ∃ (c : P4) (er : Er), PlV K H pv0 c.1 c.2.1 c.2.2.1 c.2.2.2 ∧ ckRw ls (planOf ls j 1 (cutP l j c)) = some er ∧ Rz K H E er
section
variable {P : Program} {w : World} {K : PySem.W.Frag} {mg : Str → Option Value} {base : Heap}
theorem sc_split_loop : FnScope ["program", "loop", "statement", "entries", "old"] ["program", "loop", "statement"] (defScope s_split_loop) := ⟨rfl, rfl, rfl, by decide +kernel, rfl, by decide +kernel, by decide +kernel⟩
theorem ok_split {f : Addr} {fd : FuncData} (F : FnP K "split_loop" s_split_loop f fd) (T : RwTx K mg) (MS : Mx P w K mg base "NoStatement" ["self", "loop", "statement"] ["loop", "statement"]) (dCkSt : Dx P w K mg base 5 "check_statement" ["program", "loop", "statement"] (spCkSt K)) (dEnt : Dn P w K mg base 1 "entries_of" ["program", "place"] (spEnt K)) (dWiE : Dn P w K mg base 1 "with_entries" ["loop", "entries"] (spWiE K)) (dRw : Dx P w K mg base 10 "rewritten" ["program", "place", "many", "parts"] (spRw K)) : FnOk P w K mg base (L2.CX P w) 11 f fd ["program", "loop", "statement"] (spSplit K) := by
  refine F.ok sc_split_loop (fun vs H Q E h => ?_) (fun cdv A outer s H vs Q E hr h => ?_)
  · obtain ⟨v, av, sv, ls, rfl, _⟩ := h
    rfl
  · obtain ⟨v, av, sv, ls, rfl, hP, po, k⟩ := h
    refine ⟨_, (pss_cons (ps_expr (pe_dx (K := K) dCkSt rfl hr (fun σ => passAt (takes_of rfl rfl rfl rfl) σ) (pa_cons (pv 0) (pa_cons (pv 1) (pa_cons (pv 2) pa_nil)))))
      (pss_cons (ps_if (pt_cmpR op_eq (pv 2) pe_int (nomark _)) (pss_one (ps_raise rfl (takes_of rfl rfl rfl rfl) (pmk_err MS hr (pa_cons (pv 1) (pa_cons (pv 2) pa_nil))))) pss_nil)
      (pss_cons (ps_set (i := 3) sc_split_loop.nd rfl (Or.inl rfl) (pe_dn dEnt hr (pa_cons (pv 0) (pa_cons (pv 1) pa_nil))))
      (pss_cons (ps_set (i := 4) sc_split_loop.nd rfl (Or.inl rfl) (pe_ix (ix_tupK (K := K) rfl) (pe_fldK (K := K) rfl (pv 0)) (pv 1) (fun _ _ => rfl)))
      (pss_one (ps_ret (pe_dx (K := K) dRw rfl hr (fun σ => passAt (takes_of rfl rfl rfl rfl) σ) (pa_cons (pv 0) (pa_cons (pv 1) (pa_cons pe_int (pa_cons (pe_lst (pa_cons (pe_dn dWiE hr (pa_cons (pv 4) (pa_cons (pe_slice sl_list (pv 3) po_none (po_some (pv 2))) pa_nil))) (pa_cons (pe_dn dWiE hr (pa_cons (pv 4) (pa_cons (pe_slice sl_list (pv 3) (po_some (pv 2)) po_none) pa_nil))) pa_nil))) pa_nil))))))))))), ?_⟩
    refine ⟨_, rfl, _, rfl, _, rfl, v, av, sv, ls, rfl, hP, k.to fun j ej hj k2 l hl => (k2 l hl).to fun kk es hk k3 => ?_⟩
    subst ej es
    refine ⟨_, rfl, rfl, _, rfl, ?_⟩
    by_cases h0 : kk = 0
    · subst h0
      exact if_yes (decide_eq_true rfl) ⟨_, rfl, _, rfl, err_go (K := K) (x := "NoStatement") (fs := ["loop", "statement"]) (vs := [.int j, .int 0]) (H1 := H) (Q := E) (by show 2 ≤ 1000; decide) rfl (k3.1 rfl)⟩
    obtain ⟨er, hck, rz⟩ := k3.2 h0
    refine if_no (decide_eq_false fun z => h0 (by have := V.int.inj z; omega)) ?_
    refine un_next ?_
    try dsimp only
    have b1 := (po.2 l (List.mem_of_getElem? hl)).1
    obtain ⟨p, xs, ys, rfl, ⟨dx, lt, at_, dk, hp, hlt, hat⟩, fa⟩ := id hP
    obtain ⟨u1, hu1, o1⟩ := fa.at' hl
    refine ⟨_, rfl, _, rfl, .ref p, ls, j, l, rfl, hP, hl, by omega, fun le es H1 s1 n1 hle fe => ?_⟩
    refine normG (σ' := [some (.ref p), some (.int j), some (.int kk), some (.ref le), none]) rfl ?_
    try dsimp only
    refine ⟨_, rfl, p, _, dx, _, _, rfl, s1 _ _ hp, T.clP, T.nPL, prf_l _ _ _, _, rfl, lt, _, _, _, rfl, rfl, SqT.same hlt s1, atI_nat hu1, ?_⟩
    refine normG (σ' := [some (.ref p), some (.int j), some (.int kk), some (.ref le), some u1]) rfl ?_
    try dsimp only
    refine ⟨_, rfl, _, rfl, _, rfl, _, rfl, _, rfl, _, rfl, le, es, rfl, SqL.of hle, fun L1 hL1 => ?_⟩
    rw [cut_to]
    have s2 := Same.new (.lst (es.take kk)) (Same.refl H1) hL1
    refine ⟨u1, l, L1, rfl, o1.same (s1.trans s2), fun t1 lo1 hi1 H2 s3 ht1 hlo1 hhi1 => ?_⟩
    refine ⟨_, rfl, _, rfl, _, rfl, _, rfl, le, es, rfl, SqL.of (s3 _ _ (s2 _ _ hle)), fun L2 hL2 => ?_⟩
    rw [cut_from]
    have s4 := Same.new (.lst (es.drop kk)) (Same.refl H2) hL2
    refine ⟨u1, l, L2, rfl, o1.same (s1.trans (s2.trans (s3.trans s4))), fun t2 lo2 hi2 H3 s5 ht2 hlo2 hhi2 => ⟨sz1l _ (by show 1 < 1000; decide), fun lp hlp => ?_⟩⟩
    have s6 := Same.new (.lst [.ref t1, .ref t2]) (Same.refl H3) hlp
    have s06 := s1.trans (s2.trans (s3.trans (s4.trans (s5.trans s6))))
    have s46 := s4.trans (s5.trans s6)
    have fe2 : Fa (EnV K (fun _ => True) H1) es (keptEs l j) := fe.imp fun _ _ z => z.imp fun _ _ _ _ => trivial
    have s16 := s2.trans (s3.trans s46)
    refine ⟨.ref p, ls, j, 1, lp, [.ref t1, .ref t2], _, er, rfl, hP.same s06, po.1, po.2, by omega, upd_same, Fa.two ⟨t1, .ref lo1, .ref hi1, L1, es.take kk, rfl, s46 _ _ ht1, .inl ⟨lo1, rfl, hlo1.same s46⟩, .inl ⟨hi1, rfl, hhi1.same s46⟩, trivial, s46 _ _ (s3 _ _ upd_same), (fe2.take kk).imp fun _ _ z => z.same s16⟩ ⟨t2, .ref lo2, .ref hi2, L2, es.drop kk, rfl, s6 _ _ ht2, .inl ⟨lo2, rfl, hlo2.same s6⟩, .inl ⟨hi2, rfl, hhi2.same s6⟩, trivial, s6 _ _ (s5 _ _ upd_same), (fe2.drop kk).imp fun _ _ z => z.same s16⟩, by show 2 ≤ 6; decide, fun q hq => ?_, hck, rz.same s06⟩
    simp only [List.mem_cons, List.not_mem_nil, or_false] at hq
    rcases hq with rfl | rfl
    · exact ⟨by show ((keptEs l j).take kk).length ≤ 300; rw [List.length_take, keptEs_len]; omega, fun e he => kept_es hl e (List.mem_of_mem_take he)⟩
    · exact ⟨by show ((keptEs l j).drop kk).length ≤ 300; rw [List.length_drop, keptEs_len]; omega, fun e he => kept_es hl e (List.mem_of_mem_drop he)⟩
theorem sc_cut_loop : FnScope ["program", "loop", "place", "low", "high", "step", "down", "entries", "parts"] ["program", "loop", "place"] (defScope s_cut_loop) := ⟨rfl, rfl, rfl, by decide +kernel, rfl, by decide +kernel, by decide +kernel⟩
theorem ok_cut {f : Addr} {fd : FuncData} (F : FnP K "cut_loop" s_cut_loop f fd) (T : RwTx K mg) (dCkL : Dx P w K mg base 4 "check_loop" ["program", "loop"] (spCkL K)) (dKept : Dn P w K mg base 2 "kept_loop" ["program", "place"] (spKept K)) (dRw : Dx P w K mg base 10 "rewritten" ["program", "place", "many", "parts"] (spRw K)) : FnOk P w K mg base (L2.CX P w) 11 f fd ["program", "loop", "place"] (spCut K) := by
  refine F.ok sc_cut_loop (fun vs H Q E h => ?_) (fun cdv A outer s H vs Q E hr h => ?_)
  · obtain ⟨v, av, pv0, ls, rfl, _⟩ := h
    rfl
  · obtain ⟨v, av, pv0, ls, rfl, hP, po, k⟩ := h
    refine ⟨_, (pss_cons (ps_expr (pe_dx (K := K) dCkL rfl hr (fun σ => passAt (takes_of rfl rfl rfl rfl) σ) (pa_cons (pv 0) (pa_cons (pv 1) pa_nil))))
      (pss_cons (ps_asg (pe_dn dKept hr (pa_cons (pv 0) (pa_cons (pv 1) pa_nil))) (pg_tup (by rfl) (pgs_cons (pg_name (i := 3) sc_cut_loop.nd rfl (.inl rfl)) (pgs_cons (pg_name (i := 4) sc_cut_loop.nd rfl (.inl rfl)) (pgs_cons (pg_name (i := 5) sc_cut_loop.nd rfl (.inl rfl)) (pgs_cons (pg_name (i := 6) sc_cut_loop.nd rfl (.inl rfl)) (pgs_cons (pg_name (i := 7) sc_cut_loop.nd rfl (.inl rfl)) pgs_nil)))))))
      (pss_cons (ps_set (i := 8) sc_cut_loop.nd rfl (Or.inl rfl) (pe_lst (pa_cons (pe_tup (pa_cons (pv 3) (pa_cons (pv 2) (pa_cons (pv 5) (pa_cons (pv 6) (pa_cons (pv 7) pa_nil)))))) (pa_cons (pe_tup (pa_cons (pv 2) (pa_cons (pv 4) (pa_cons (pv 5) (pa_cons (pv 6) (pa_cons (pv 7) pa_nil)))))) pa_nil))))
      (pss_one (ps_ret (pe_dx (K := K) dRw rfl hr (fun σ => passAt (takes_of rfl rfl rfl rfl) σ) (pa_cons (pv 0) (pa_cons (pv 1) (pa_cons pe_int (pa_cons (pe_ifExp (pt_val (pv 6)) (pe_revL (pv 8)) (pv 8)) pa_nil)))))))))), ?_⟩
    refine ⟨_, rfl, _, rfl, v, av, ls, rfl, hP, k.to fun j ej hj k2 => ?_⟩
    subst ej
    obtain ⟨l, hl⟩ : ∃ l, ls[j]? = some l := ⟨_, List.getElem?_eq_getElem hj⟩
    obtain ⟨c, er, hc, hck, rz⟩ := k2 l hl
    have b1 := (po.2 l (List.mem_of_getElem? hl)).1
    refine ⟨_, rfl, _, rfl, v, ls, j, l, rfl, hP, hl, by omega, fun v' H1 s1 ⟨t, lo, hi, le, es, ev, ht, h1, h2, _, hle, fe⟩ => ?_⟩
    subst ev
    refine ⟨t, _, rfl, SqT.of ht, rfl, _, _, rfl, _, _, rfl, _, _, rfl, _, _, rfl, _, _, rfl, rfl, ?_⟩
    refine norm (N := fun σ _ => _) (σ' := [some v, some (.int j), some pv0, some lo, some hi, some (.int l.S), some (.bl l.dn), some (.ref le), none]) rfl ?_
    try dsimp only
    refine ⟨_, rfl, _, rfl, _, rfl, _, rfl, _, rfl, sz1l _ (by show 4 < 1000; decide), fun t1 ht1 => ?_⟩
    have s2 := Same.new (.tup [lo, pv0, .int l.S, .bl l.dn, .ref le]) (Same.refl H1) ht1
    refine ⟨_, rfl, _, rfl, _, rfl, _, rfl, _, rfl, sz1l _ (by show 4 < 1000; decide), fun t2 ht2 => ?_⟩
    have s3 := Same.new (.tup [pv0, hi, .int l.S, .bl l.dn, .ref le]) s2 ht2
    refine ⟨sz1l _ (by show 1 < 1000; decide), fun lp hlp => ?_⟩
    have s4 := Same.new (.lst [.ref t1, .ref t2]) s3 hlp
    have e1 : (upd (upd (upd H1 t1 (.tup [lo, pv0, .int l.S, .bl l.dn, .ref le])) t2 (.tup [pv0, hi, .int l.S, .bl l.dn, .ref le])) lp (.lst [.ref t1, .ref t2])) t1 = some (.tup [lo, pv0, .int l.S, .bl l.dn, .ref le]) := (Same.new (.lst [.ref t1, .ref t2]) (Same.new (.tup [pv0, hi, .int l.S, .bl l.dn, .ref le]) (Same.refl (upd H1 t1 (.tup [lo, pv0, .int l.S, .bl l.dn, .ref le]))) ht2) hlp) _ _ upd_same
    have e2 : (upd (upd (upd H1 t1 (.tup [lo, pv0, .int l.S, .bl l.dn, .ref le])) t2 (.tup [pv0, hi, .int l.S, .bl l.dn, .ref le])) lp (.lst [.ref t1, .ref t2])) t2 = some (.tup [pv0, hi, .int l.S, .bl l.dn, .ref le]) := (Same.new (.lst [.ref t1, .ref t2]) (Same.refl (upd (upd H1 t1 (.tup [lo, pv0, .int l.S, .bl l.dn, .ref le])) t2 (.tup [pv0, hi, .int l.S, .bl l.dn, .ref le]))) hlp) _ _ upd_same
    have e3 : (upd (upd (upd H1 t1 (.tup [lo, pv0, .int l.S, .bl l.dn, .ref le])) t2 (.tup [pv0, hi, .int l.S, .bl l.dn, .ref le])) lp (.lst [.ref t1, .ref t2])) lp = some (.lst [.ref t1, .ref t2]) := upd_same
    obtain ⟨H4, eH4⟩ : ∃ X, X = (upd (upd (upd H1 t1 (.tup [lo, pv0, .int l.S, .bl l.dn, .ref le])) t2 (.tup [pv0, hi, .int l.S, .bl l.dn, .ref le])) lp (.lst [.ref t1, .ref t2])) := ⟨_, rfl⟩
    rw [← eH4] at s4 e1 e2 e3 ⊢
    refine normG (σ' := [some v, some (.int j), some pv0, some lo, some hi, some (.int l.S), some (.bl l.dn), some (.ref le), some (.ref lp)]) rfl ?_
    try dsimp only
    have s04 := s1.trans s4
    have fe2 : Fa (EnV K (fun _ => True) H4) es (keptEs l j) := fe.imp fun _ _ z => (z.imp fun _ _ _ _ => trivial).same s4
    have g1 : PtV K (fun _ => True) H4 (.ref t1) { t := l.t, u := c, S := l.S, dn := l.dn, es := keptEs l j } := ⟨t1, lo, pv0, le, es, rfl, e1, h1.same s4, hc.same s04, trivial, s4 _ _ hle, fe2⟩
    have g2 : PtV K (fun _ => True) H4 (.ref t2) { t := c, u := l.u, S := l.S, dn := l.dn, es := keptEs l j } := ⟨t2, pv0, hi, le, es, rfl, e2, hc.same s04, h2.same s4, trivial, s4 _ _ hle, fe2⟩
    have ek : ∀ q ∈ cutP l j c, q.es.length ≤ 300 ∧ ∀ e ∈ q.es, EnK ls e := fun q hq => by
      have eq : q.es = keptEs l j := by
        unfold cutP at hq
        split at hq <;> simp only [List.mem_cons, List.not_mem_nil, or_false] at hq <;> rcases hq with rfl | rfl <;> rfl
      rw [eq]
      exact ⟨by rw [keptEs_len]; omega, kept_es hl⟩
    refine ⟨_, rfl, _, rfl, _, rfl, _, rfl, ?_⟩
    cases hdn : l.dn with
    | true =>
      refine if_yes rfl ⟨_, rfl, lp, _, rfl, SqL.of e3, fun lq hlq => ?_⟩
      have s5 := Same.new (.lst [V.ref t1, .ref t2].reverse) (Same.refl H4) hlq
      refine ⟨v, ls, j, 1, lq, [.ref t2, .ref t1], cutP l j c, er, rfl, hP.same (s04.trans s5), po.1, po.2, by omega, upd_same, ?_, ?_, ek, hck, rz.same (s04.trans s5)⟩
      · unfold cutP
        rw [if_pos hdn]
        exact Fa.two (g2.same s5) (g1.same s5)
      · unfold cutP
        rw [if_pos hdn]
        show 2 ≤ 6
        decide
    | false =>
      refine if_no rfl ⟨_, rfl, v, ls, j, 1, lp, [.ref t1, .ref t2], cutP l j c, er, rfl, hP.same s04, po.1, po.2, by omega, e3, ?_, ?_, ek, hck, rz.same s04⟩
      · unfold cutP
        rw [if_neg (by rw [hdn]; simp)]
        exact Fa.two g1 g2
      · unfold cutP
        rw [if_neg (by rw [hdn]; simp)]
        show 2 ≤ 6
        decide
end
end K49
set_option maxHeartbeats 4000000
namespace K49
open PySem PySem.Spec PyProof.Rows L2 Z
theorem pg_tupK {X : Cx} {K : PySem.W.Frag} {es : List Expr} {k : Nat} {pos : Pos} {t : TGs} {n : Nat} (hK : X.K = K) (hc : X.calm = true) (h : PGs X es t)
    (hn : (assignEach es X.env).length = n := by rfl) (hst : (assignEach es X.env).findIdx? (·.1) = none := by rfl) : PG X (.Tuple es k pos) (gTup K n t) := hK ▸ pg_tup hc h hn hst
def dealEs (l : LpX) (j m r : Nat) : List EnM := (keptEs l j).map fun e => { e with ck := [.rst ((1 : Int).fmod m) ((0 : Int).fmod m) m (((r : Int) - 0).fmod m)] }
def dealPts (l : LpX) (j m : Nat) : List PtM := (List.range m).map fun r => partL l (dealEs l j m r)
def spDeal (K : PySem.W.Frag) : Sp := fun vs H Q E => ∃ (v av mv : V) (ls : List LpX), vs = [v, av, mv] ∧ PrXo K H v ls ∧ PO ls ∧ LpArg K H E av ls.length fun j => ∀ l, ls[j]? = some l → MyArg K H E mv 4 fun m => ∃ er, ckRw ls (planOf ls j 1 (dealPts l j m)) = some er ∧ Rz K H E er
section
variable {P : Program} {w : World} {K : PySem.W.Frag} {mg : Str → Option Value} {base : Heap}
theorem sc_deal_loop : FnScope ["program", "loop", "many", "parts", "rest", "checks", "entries", "place", "number", "shift", "_"] ["program", "loop", "many"] (defScope s_deal_loop) := ⟨rfl, rfl, rfl, by decide +kernel, rfl, by decide +kernel, by decide +kernel⟩
theorem ok_deal {f : Addr} {fd : FuncData} (F : FnP K "deal_loop" s_deal_loop f fd) (T : RwTx K mg) (hMOST_DEALT : ∃ t, mg "MOST_DEALT" = some (.int 4 t)) (MY : Mx P w K mg base "BadMany" ["self", "many"] ["many"]) (M : MkS P w K mg base) (MR : MkR P w K mg base) (dIsIntFrom : Dn P w K mg base 2 "is_integer_from" ["value", "low", "high"] spIntFromA) (dCkL : Dx P w K mg base 4 "check_loop" ["program", "loop"] (spCkL K)) (dEnt : Dn P w K mg base 1 "entries_of" ["program", "place"] (spEnt K)) (dWiE : Dn P w K mg base 1 "with_entries" ["loop", "entries"] (spWiE K)) (dRw : Dx P w K mg base 10 "rewritten" ["program", "place", "many", "parts"] (spRw K)) : FnOk P w K mg base (L2.CX P w) 11 f fd ["program", "loop", "many"] (spDeal K) := by
  obtain ⟨tMOST_DEALT, hMOST_DEALT⟩ := hMOST_DEALT
  refine F.ok sc_deal_loop (fun vs H Q E h => ?_) (fun cdv A outer s H vs Q E hr h => ?_)
  · obtain ⟨v, av, mv, ls, rfl, _⟩ := h
    rfl
  · obtain ⟨v, av, mv, ls, rfl, hP, po, k⟩ := h
    refine ⟨_, (pss_cons (ps_expr (pe_dx (K := K) dCkL rfl hr (fun σ => passAt (takes_of rfl rfl rfl rfl) σ) (pa_cons (pv 0) (pa_cons (pv 1) pa_nil))))
      (pss_cons (ps_if (pt_not (pt_val (pe_dn dIsIntFrom hr (pa_cons (pv 2) (pa_cons pe_int (pa_cons (pe_glob (v := .int 4) rfl hMOST_DEALT ⟨tMOST_DEALT, rfl⟩) pa_nil)))))) (pss_one (ps_raise rfl (takes_of rfl rfl rfl rfl) (pmk_err MY hr (pa_cons (pv 2) pa_nil)))) pss_nil)
      (pss_cons (ps_set (i := 3) sc_deal_loop.nd rfl (Or.inl rfl) (pe_lst pa_nil))
      (pss_cons (ps_for (passes_of rfl) rfl (pi_range1 (by rfl) T.range (pa_cons (pv 2) pa_nil)) (pg_name (i := 4) sc_deal_loop.nd rfl (.inl rfl)) (pss_cons (ps_set (i := 5) sc_deal_loop.nd rfl (Or.inr rfl) (pe_lst (pa_cons (pe_RK (K := K) rfl T.toAtTx MR hr (fun σ => passAt (takes_of rfl rfl rfl rfl) σ) (pa_cons (pe_SK (K := K) rfl T.toStTx M hr (pa_cons pe_int (pa_cons pe_int (pa_cons pe_int pa_nil)))) (pa_cons (pv 2) (pa_cons (pv 4) pa_nil)))) pa_nil)))
      (pss_cons (ps_setLc (i := 6) (own := [("place", 7), ("number", 8), ("shift", 9), ("_", 10)]) (tt := tYes) rfl sc_deal_loop.nd rfl rfl (sw_true rfl rfl rfl (by decide +kernel)) (pi_list (pe_dn dEnt hr (pa_cons (pv 0) (pa_cons (pv 1) pa_nil)))) (blkOk_by (N := ["program", "loop", "many", "parts", "rest", "checks", "entries", "place", "number", "shift", "_"]) (sc := defScope s_deal_loop) (by decide +kernel)) (fun _ _ _ _ _ => (pg_tupK (K := K) (n := 4) rfl rfl (pgs_cons (pg_name (i := 7) sc_deal_loop.nd rfl (.inl rfl)) (pgs_cons (pg_name (i := 8) sc_deal_loop.nd rfl (.inl rfl)) (pgs_cons (pg_name (i := 9) sc_deal_loop.nd rfl (.inl rfl)) (pgs_cons (pg_name (i := 10) sc_deal_loop.nd rfl (.inl rfl)) pgs_nil)))))) (fun _ _ _ _ _ => pts_nil) (fun _ _ _ _ _ => (pe_tup (pa_cons (pv 7) (pa_cons (pv 8) (pa_cons (pv 9) (pa_cons (pv 5) pa_nil)))))))
      (pss_one (ps_expr (pe_bm PySem.F.plainAttrs_list PySem.F.slot_list_append PySem.F.type_list_append mt_append (pv 3) (pa_cons (pe_dn dWiE hr (pa_cons (pe_ix (ix_tupK (K := K) rfl) (pe_fldK (K := K) rfl (pv 0)) (pv 1) (fun _ _ => rfl)) (pa_cons (pv 6) pa_nil))) pa_nil)))))))
      (pss_one (ps_ret (pe_dx (K := K) dRw rfl hr (fun σ => passAt (takes_of rfl rfl rfl rfl) σ) (pa_cons (pv 0) (pa_cons (pv 1) (pa_cons pe_int (pa_cons (pv 3) pa_nil))))))))))), ?_⟩
    refine ⟨_, rfl, _, rfl, v, av, ls, rfl, hP, k.to fun j ej hj k2 => ?_⟩
    subst ej
    obtain ⟨l, hl⟩ : ∃ l, ls[j]? = some l := ⟨_, List.getElem?_eq_getElem hj⟩
    have b1 := (po.2 l (List.mem_of_getElem? hl)).1
    have bad : ∀ mv : V, RzV K "BadMany" ["many"] [mv] H E → _ := fun mv z => err_go (K := K) (x := "BadMany") (fs := ["many"]) (vs := [mv]) (H1 := H) (Q := E) (by show 1 ≤ 1000; decide) rfl z
    rcases k2 l hl with ⟨iv, k⟩ | ⟨a, rfl, k3, k4⟩
    · exact ⟨_, rfl, _, _, _, rfl, .inr ⟨iv, _, rfl, iteT ⟨_, rfl, bad _ k⟩⟩⟩
    refine ⟨_, rfl, _, _, _, rfl, .inl ⟨a, rfl, _, rfl, ?_⟩⟩
    by_cases hn : 2 ≤ a ∧ a ≤ 4
    case neg =>
      rw [decide_eq_false hn]
      exact iteT ⟨_, rfl, bad _ (k3 hn)⟩
    rw [decide_eq_true hn]
    refine iteF ?_
    obtain ⟨m, rfl⟩ : ∃ m : Nat, a = (m : Int) := ⟨a.toNat, by omega⟩
    obtain ⟨er, hck, rz⟩ := k4 m rfl (by omega) hn.2
    refine un_next ?_
    try dsimp only
    refine ⟨sz0, fun pl hpl => ?_⟩
    have s0 := Same.new (.lst []) (Same.refl H) hpl
    refine normG (σ' := [some v, some (.int j), some (.int m), some (.ref pl), none, none, none, none, none, none, none]) rfl ?_
    try dsimp only
    refine ⟨_, rfl, _, rfl, by omega, by omega, ?_⟩
    rw [Int.toNat_natCast]
    refine for_range (lo := 0) (n := m) (fun i σ Hc => ∃ (v4 v5 v6 v7 v8 v9 v10 : Option V) (ws : List V), σ = [some v, some (.int j), some (.int m), some (.ref pl), v4, v5, v6, v7, v8, v9, v10] ∧ Hc pl = some (.lst ws) ∧ Fa (PtV K (fun a => a ≠ pl) Hc) ws ((dealPts l j m).take i) ∧ Same H Hc) ⟨_, _, _, _, _, _, _, [], rfl, upd_same, by rw [List.take_zero]; exact .nil, s0⟩ ?_ ?_
    · rintro i σ Hc hi ⟨v4, v5, v6, v7, v8, v9, v10, ws, rfl, ePl, fw, sc⟩
      refine normG (σ' := [some v, some (.int j), some (.int m), some (.ref pl), some (.int (0 + (i : Int))), v5, v6, v7, v8, v9, v10]) rfl ?_
      try dsimp only
      refine ⟨1, 0, 0, rfl, fun r1 H1 s1 _ hr1 => ?_⟩
      refine ⟨_, rfl, _, rfl, .ref r1, (m : Int), 0 + (i : Int), rfl, 1, 0, 0, .inl ⟨r1, rfl, hr1⟩, fun z => absurd ⟨by omega, hn.2⟩ z, fun _ _ z => absurd ⟨by omega, by omega⟩ z, fun _ _ _ _ c1 H2 s2 hc1 => ⟨sz1l _ (by show 0 < 1000; decide), fun lc hlc => ?_⟩⟩
      have s3 := Same.new (.lst [.ref c1]) (Same.refl H2) hlc
      refine normG (σ' := [some v, some (.int j), some (.int m), some (.ref pl), some (.int (0 + (i : Int))), some (.ref lc), v6, v7, v8, v9, v10]) rfl ?_
      try dsimp only
      have s03 := s1.trans (s2.trans s3)
      obtain ⟨H3, eH3⟩ : ∃ X, X = upd H2 lc (.lst [.ref c1]) := ⟨_, rfl⟩
      have eLc : H3 lc = some (.lst [.ref c1]) := by rw [eH3]; exact upd_same
      rw [← eH3] at s3 s03 ⊢
      refine ⟨_, rfl, _, rfl, v, ls, j, l, rfl, hP.same (sc.trans s03), hl, by omega, fun le es H4 s4 n4 hle fe => ⟨le, rfl, ⟨_, SqL.of hle⟩, fun D hD => ?_⟩⟩
      have lcpl : lc ≠ pl := fun z => by
        rw [z, s2 _ _ (s1 _ _ ePl)] at hlc
        cases hlc
      have eLc4 := s4 _ _ eLc
      have nlD : lc ≠ D := ne_of_none eLc4 hD
      have hc4 : CdXo K H4 (.ref c1) (.rst ((1 : Int).fmod m) ((0 : Int).fmod m) m (((i : Int) - 0).fmod m)) := by
        have q := hc1
        rw [Int.zero_add] at q
        exact (show CdXo K H2 (.ref c1) (.rst ((1 : Int).fmod m) ((0 : Int).fmod m) m (((i : Int) - 0).fmod m)) from ⟨c1, rfl, q⟩).same (s3.trans s4)
      refine lc_list (K := K) (xs := es) (fun b Hb => ∃ acc, Hb D = some (.lst acc) ∧ Fa (EnV K (fun a => a = lc) Hb) acc ((dealEs l j m i).take b) ∧ Same H4 Hb) ⟨[], upd_same, by rw [List.take_zero]; exact .nil, Same.new _ (Same.refl H4) hD⟩ (fun b Hb _ z => SqL.of (z.choose_spec.2.2 _ _ hle)) ?_ ?_
      · rintro b u Hb hu ⟨acc, eD, fa, sb⟩
        obtain ⟨e0, ee, te, lc0, cs0, rfl, hte, _⟩ := (fe.imp fun _ _ z => z.same sb).at hu
        have hb := (List.getElem?_eq_some_iff.mp ee).1
        rw [keptEs_len] at hb
        have ee2 : (dealEs l j m i)[b]? = some { e0 with ck := [.rst ((1 : Int).fmod m) ((0 : Int).fmod m) m (((i : Int) - 0).fmod m)] } := by
          unfold dealEs
          rw [List.getElem?_map, ee]
          rfl
        refine ⟨te, _, rfl, SqT.of hte, rfl, _, _, rfl, _, _, rfl, _, _, rfl, _, _, rfl, rfl, rfl, yes_of ?_⟩
        refine ⟨_, rfl, _, rfl, _, rfl, _, rfl, sz1l _ (by show 3 < 1000; decide), fun t ht => ?_⟩
        have s5 := Same.new (.tup [.int e0.j, .int e0.k, .int e0.g, .ref lc]) (Same.refl Hb) ht
        have eD2 := s5 _ _ eD
        refine ⟨acc, eD2, sz1l _ (by rw [fa.1, List.length_take]; omega), acc ++ [.ref t], upd_same, ?_, fun b' o e => ?_⟩
        · rw [List.take_add_one, ee2]
          have kL : ∀ a ys, a = lc → (upd Hb t (.tup [.int e0.j, .int e0.k, .int e0.g, .ref lc])) a = some (.lst ys) → (upd (upd Hb t (.tup [.int e0.j, .int e0.k, .int e0.g, .ref lc])) D (.lst (acc ++ [.ref t]))) a = some (.lst ys) := fun a ys n e => by
            rw [upd_ne (by rw [n]; exact nlD)]
            exact e
          refine (fa.imp fun _ _ z => (z.same s5).to (.updL eD2) kL fun _ _ _ q => q).snoc (EnV.to (P := fun a => a = lc) ⟨t, lc, [.ref c1], rfl, upd_same, rfl, s5 _ _ (sb _ _ eLc4), Fa.one (hc4.same (sb.trans s5))⟩ (.updL eD2) kL fun _ _ _ q => q)
        · rw [upd_ne (ne_of_none e hD)]
          exact s5 _ _ (sb _ _ e)
      rintro H5 ⟨acc, eD, fa5, s5⟩
      rw [fe.1, show (keptEs l j).length = (dealEs l j m i).length by unfold dealEs; rw [List.length_map], List.take_length] at fa5
      refine normG (σ' := [some v, some (.int j), some (.int m), some (.ref pl), some (.int (0 + (i : Int))), some (.ref lc), some (.ref D), v7, v8, v9, v10]) rfl ?_
      try dsimp only
      have s05 := s03.trans (s4.trans s5)
      have ePl5 := s05 _ _ ePl
      obtain ⟨p, xs, ys, ev, ⟨dx, lt, at_, dk, hp, hlt, hat⟩, faP⟩ := hP.same (sc.trans s05)
      obtain ⟨u1, hu1, o1⟩ := faP.at' hl
      refine ⟨_, rfl, .inl ⟨rfl, _, SqL.of ePl5⟩, _, rfl, p, _, dx, _, _, ev, hp, T.clP, T.nPL, prf_l _ _ _, _, rfl, lt, _, _, _, rfl, rfl, hlt, atI_nat hu1, _, rfl, u1, l, D, rfl, o1, fun t lo hi' H6 s6 ht hlo hhi => ?_⟩
      have ePl6 := s6 _ _ ePl5
      have dPl : D ≠ pl := fun z => by
        rw [z, s4 _ _ (s03 _ _ ePl)] at hD
        cases hD
      refine ⟨pl, ws, _, rfl, rfl, ePl6, sz1l _ (by rw [fw.1, List.length_take]; unfold dealPts; rw [List.length_map, List.length_range]; omega), some (.int (0 + (i : Int))), some (.ref lc), some (.ref D), v7, v8, v9, v10, ws ++ [.ref t], rfl, upd_same, ?_, fun b o e => ?_⟩
      · have ep : (dealPts l j m)[i]? = some (partL l (dealEs l j m i)) := by
          unfold dealPts
          rw [List.getElem?_map, List.getElem?_range hi]
          rfl
        rw [List.take_add_one, ep]
        have kL : ∀ a ys, a ≠ pl → H6 a = some (.lst ys) → (upd H6 pl (.lst (ws ++ [.ref t]))) a = some (.lst ys) := fun a ys n e => by
          rw [upd_ne n]
          exact e
        have pt : PtV K (fun a => a ≠ pl) H6 (.ref t) (partL l (dealEs l j m i)) := ⟨t, .ref lo, .ref hi', D, acc, rfl, ht, .inl ⟨lo, rfl, hlo⟩, .inl ⟨hi', rfl, hhi⟩, dPl, s6 _ _ eD, fa5.imp fun _ _ z => (z.imp fun a _ _ q => by rw [q]; exact lcpl).same s6⟩
        exact (fw.imp fun _ _ z => (z.same (s05.trans s6)).to (.updL ePl6) kL fun _ _ _ q => q).snoc (pt.to (.updL ePl6) kL fun _ _ _ q => q)
      · rw [upd_ne (ne_of_none e hpl)]
        exact s6 _ _ (s05 _ _ (sc _ _ e))
    · rintro σ H7 ⟨v4, v5, v6, v7, v8, v9, v10, ws, rfl, ePl, fw, s7⟩
      rw [List.take_of_length_le (by unfold dealPts; rw [List.length_map, List.length_range]; omega)] at fw
      refine ⟨_, rfl, _, rfl, _, rfl, v, ls, j, 1, pl, ws, dealPts l j m, er, rfl, hP.same s7, po.1, po.2, by omega, ePl, fw.imp fun _ _ z => z.imp fun _ _ _ _ => trivial, by unfold dealPts; rw [List.length_map, List.length_range]; omega, fun q hq => ?_, hck, rz.same s7⟩
      obtain ⟨r, hr0, rfl⟩ := List.mem_map.mp hq
      refine ⟨by show (dealEs l j m r).length ≤ 300; unfold dealEs; rw [List.length_map, keptEs_len]; omega, fun e he => ?_⟩
      obtain ⟨e0, he0, rfl⟩ := List.mem_map.mp (show e ∈ (keptEs l j).map _ from he)
      obtain ⟨h1, h2, h3⟩ := kept_es hl e0 he0
      exact ⟨h1, h2, by show (1 : Nat) ≤ 10; decide⟩
end
end K49
set_option maxHeartbeats 4000000
namespace K49
open PySem PySem.Spec PyProof.Rows L2 Z
def ordL (l : LpX) (m : Nat) : List Int := (List.range m).map fun (i : Nat) => if l.dn = true then (m : Int) - 1 - (i : Int) else (i : Int)
def lotEs (l : LpX) (j : Nat) (g : Int) : List EnM := (keptEs l j).map fun e => { e with g := l.S * g }
def unrPt (l : LpX) (j m : Nat) : PtM := { t := l.t, u := l.u, S := l.S * m, dn := l.dn, es := ((ordL l m).map (lotEs l j)).flatten }
def spUnr (K : PySem.W.Frag) : Sp := fun vs H Q E => ∃ (v av mv : V) (ls : List LpX), vs = [v, av, mv] ∧ PrXo K H v ls ∧ PO ls ∧ LpArg K H E av ls.length fun j => ∀ l, ls[j]? = some l → MyArg K H E mv 16 fun m => 0 ≤ l.S ∧ l.S ≤ 100 ∧ ∃ er, ckRw ls (planOf ls j 1 [unrPt l j m]) = some er ∧ Rz K H E er
theorem ordL_bd {l : LpX} {m : Nat} : ∀ g ∈ ordL l m, 0 ≤ g ∧ g ≤ m := fun g hg => by
  obtain ⟨i, hi, rfl⟩ := List.mem_map.mp hg
  have := List.mem_range.mp hi
  split <;> omega
theorem mul_bd {a b : Int} (a0 : 0 ≤ a) (a1 : a ≤ 100) (b0 : 0 ≤ b) (b1 : b ≤ 16) : Bd 400 (a * b) := by
  have h1 : 0 ≤ a * b := Int.mul_nonneg a0 b0
  have h2 : a * b ≤ 100 * 16 := Int.mul_le_mul a1 b1 b0 (by decide)
  exact Bd.of 1600 (by decide) (by omega) (by omega)
section
variable {P : Program} {w : World} {K : PySem.W.Frag} {mg : Str → Option Value} {base : Heap}
theorem sc_unroll_loop : FnScope ["program", "loop", "many", "low", "high", "step", "down", "entries", "order", "lot", "lots", "place", "number", "_", "checks"] ["program", "loop", "many"] (defScope s_unroll_loop) := ⟨rfl, rfl, rfl, by decide +kernel, rfl, by decide +kernel, by decide +kernel⟩
theorem ok_unr {f : Addr} {fd : FuncData} (F : FnP K "unroll_loop" s_unroll_loop f fd) (T : RwTx K mg) (hMOST_UNROLLED : ∃ t, mg "MOST_UNROLLED" = some (.int 16 t)) (MY : Mx P w K mg base "BadMany" ["self", "many"] ["many"]) (dIsIntFrom : Dn P w K mg base 2 "is_integer_from" ["value", "low", "high"] spIntFromA) (dCkL : Dx P w K mg base 4 "check_loop" ["program", "loop"] (spCkL K)) (dKept : Dn P w K mg base 2 "kept_loop" ["program", "place"] (spKept K)) (dRw : Dx P w K mg base 10 "rewritten" ["program", "place", "many", "parts"] (spRw K)) : FnOk P w K mg base (L2.CX P w) 11 f fd ["program", "loop", "many"] (spUnr K) := by
  obtain ⟨tMOST_UNROLLED, hMOST_UNROLLED⟩ := hMOST_UNROLLED
  refine F.ok sc_unroll_loop (fun vs H Q E h => ?_) (fun cdv A outer s H vs Q E hr h => ?_)
  · obtain ⟨v, av, mv, ls, rfl, _⟩ := h
    rfl
  · obtain ⟨v, av, mv, ls, rfl, hP, po, k⟩ := h
    refine ⟨_, (pss_cons (ps_expr (pe_dx (K := K) dCkL rfl hr (fun σ => passAt (takes_of rfl rfl rfl rfl) σ) (pa_cons (pv 0) (pa_cons (pv 1) pa_nil))))
      (pss_cons (ps_if (pt_not (pt_val (pe_dn dIsIntFrom hr (pa_cons (pv 2) (pa_cons pe_int (pa_cons (pe_glob (v := .int 16) rfl hMOST_UNROLLED ⟨tMOST_UNROLLED, rfl⟩) pa_nil)))))) (pss_one (ps_raise rfl (takes_of rfl rfl rfl rfl) (pmk_err MY hr (pa_cons (pv 2) pa_nil)))) pss_nil)
      (pss_cons (ps_asg (pe_dn dKept hr (pa_cons (pv 0) (pa_cons (pv 1) pa_nil))) (pg_tup (by rfl) (pgs_cons (pg_name (i := 3) sc_unroll_loop.nd rfl (.inl rfl)) (pgs_cons (pg_name (i := 4) sc_unroll_loop.nd rfl (.inl rfl)) (pgs_cons (pg_name (i := 5) sc_unroll_loop.nd rfl (.inr rfl)) (pgs_cons (pg_name (i := 6) sc_unroll_loop.nd rfl (.inr rfl)) (pgs_cons (pg_name (i := 7) sc_unroll_loop.nd rfl (.inl rfl)) pgs_nil)))))))
      (pss_cons (ps_setLc (i := 8) (own := [("lot", 9)]) (g := gName 9) (tt := tYes) rfl sc_unroll_loop.nd rfl rfl (sw_true rfl rfl rfl (by decide +kernel)) (pi_range1 (by rfl) T.range (pa_cons (pv 2) pa_nil)) (blkOk_by (N := ["program", "loop", "many", "low", "high", "step", "down", "entries", "order", "lot", "lots", "place", "number", "_", "checks"]) (sc := defScope s_unroll_loop) (by decide +kernel)) (fun _ _ _ _ _ => (pg_name (i := 9) sc_unroll_loop.nd rfl (.inl rfl))) (fun _ _ _ _ _ => pts_nil) (fun _ _ _ _ _ => (pe_ifExp (pt_val (pv 6)) (pe_op op_sub (pe_op op_sub (pv 2) pe_int) (pv 9)) (pv 9))))
      (pss_cons (ps_set (i := 10) sc_unroll_loop.nd rfl (Or.inl rfl) (pe_lst pa_nil))
      (pss_cons (ps_for (passes_of rfl) rfl (pi_list (pv 8)) (pg_name (i := 9) sc_unroll_loop.nd rfl (.inr rfl)) (pss_one (ps_expr (pe_bm PySem.F.plainAttrs_list PySem.F.slot_list_extend PySem.F.type_list_extend mt_extend (pv 10) (pa_cons (pe_lc (own := [("place", 11), ("number", 12), ("_", 13), ("checks", 14)]) (tt := tYes) rfl sc_unroll_loop.nd (pi_list (pv 7)) (blkOk_by (N := ["program", "loop", "many", "low", "high", "step", "down", "entries", "order", "lot", "lots", "place", "number", "_", "checks"]) (sc := defScope s_unroll_loop) (by decide +kernel)) (fun _ _ _ _ _ => (pg_tupK (K := K) (n := 4) rfl rfl (pgs_cons (pg_name (i := 11) sc_unroll_loop.nd rfl (.inl rfl)) (pgs_cons (pg_name (i := 12) sc_unroll_loop.nd rfl (.inl rfl)) (pgs_cons (pg_name (i := 13) sc_unroll_loop.nd rfl (.inl rfl)) (pgs_cons (pg_name (i := 14) sc_unroll_loop.nd rfl (.inl rfl)) pgs_nil)))))) (fun _ _ _ _ _ => pts_nil) (fun _ _ _ _ _ => (pe_tup (pa_cons (pv 11) (pa_cons (pv 12) (pa_cons (pe_op op_mulW (pv 5) (pv 9)) (pa_cons (pv 14) pa_nil))))))) pa_nil)))))
      (pss_one (ps_ret (pe_dx (K := K) dRw rfl hr (fun σ => passAt (takes_of rfl rfl rfl rfl) σ) (pa_cons (pv 0) (pa_cons (pv 1) (pa_cons pe_int (pa_cons (pe_lst (pa_cons (pe_tup (pa_cons (pv 3) (pa_cons (pv 4) (pa_cons (pe_op op_mulW (pv 5) (pv 2)) (pa_cons (pv 6) (pa_cons (pv 10) pa_nil)))))) pa_nil)) pa_nil))))))))))))), ?_⟩
    refine ⟨_, rfl, _, rfl, v, av, ls, rfl, hP, k.to fun j ej hj k2 => ?_⟩
    subst ej
    obtain ⟨l, hl⟩ : ∃ l, ls[j]? = some l := ⟨_, List.getElem?_eq_getElem hj⟩
    have b1 := (po.2 l (List.mem_of_getElem? hl)).1
    have bad : ∀ mv : V, RzV K "BadMany" ["many"] [mv] H E → _ := fun mv z => err_go (K := K) (x := "BadMany") (fs := ["many"]) (vs := [mv]) (H1 := H) (Q := E) (by show 1 ≤ 1000; decide) rfl z
    rcases k2 l hl with ⟨iv, k⟩ | ⟨a, rfl, k3, k4⟩
    · exact ⟨_, rfl, _, _, _, rfl, .inr ⟨iv, _, rfl, iteT ⟨_, rfl, bad _ k⟩⟩⟩
    refine ⟨_, rfl, _, _, _, rfl, .inl ⟨a, rfl, _, rfl, ?_⟩⟩
    by_cases hn : 2 ≤ a ∧ a ≤ 16
    case neg =>
      rw [decide_eq_false hn]
      exact iteT ⟨_, rfl, bad _ (k3 hn)⟩
    rw [decide_eq_true hn]
    refine iteF ?_
    obtain ⟨m, rfl⟩ : ∃ m : Nat, a = (m : Int) := ⟨a.toNat, by omega⟩
    obtain ⟨S0, S1, er, hck, rz⟩ := k4 m rfl (by omega) hn.2
    refine un_next ?_
    try dsimp only
    refine ⟨_, rfl, _, rfl, v, ls, j, l, rfl, hP, hl, by omega, fun v' H1 s1 ⟨t, lo, hi, le, es, ev, ht, h1, h2, _, hle, fe⟩ => ?_⟩
    subst ev
    have fe : Fa (EnV K (fun a => H a = none) H1) es (keptEs l j) := fe
    refine ⟨t, _, rfl, SqT.of ht, rfl, _, _, rfl, _, _, rfl, _, _, rfl, _, _, rfl, _, _, rfl, rfl, ?_⟩
    refine norm (N := fun σ _ => _) (σ' := [some v, some (.int j), some (.int m), some lo, some hi, some (.int l.S), some (.bl l.dn), some (.ref le), none, none, none, none, none, none, none]) rfl ?_
    try dsimp only
    refine ⟨_, rfl, _, rfl, by omega, by omega, fun D hD => ?_⟩
    rw [Int.toNat_natCast]
    have ol : (ordL l m).length = m := by
      unfold ordL
      rw [List.length_map, List.length_range]
    refine lc_range (lo := 0) (n := m) (fun i Hc => Hc D = some (.lst (((ordL l m).take i).map V.int)) ∧ Same H1 Hc) ⟨upd_same, Same.new _ (Same.refl H1) hD⟩ ?_ ?_
    · rintro i Hc hi ⟨eD, sc⟩
      refine ⟨rfl, yes_of ?_⟩
      have eo : (ordL l m)[i]? = some (if l.dn = true then (m : Int) - 1 - (i : Int) else (i : Int)) := by
        unfold ordL
        rw [List.getElem?_map, List.getElem?_range hi]
        rfl
      have nxt : ∀ g : Int, (ordL l m)[i]? = some g → ∃ acc, Hc D = some (.lst acc) ∧ acc.length < sizeLine ∧ (upd Hc D (.lst (acc ++ [.int g]))) D = some (.lst (((ordL l m).take (i + 1)).map V.int)) ∧ Same H1 (upd Hc D (.lst (acc ++ [.int g]))) := fun g eg => by
        refine ⟨_, eD, sz1l _ (by rw [List.length_map, List.length_take]; omega), ?_, fun b o e => ?_⟩
        · rw [upd_same, List.take_add_one, eg, List.map_append]
          rfl
        · rw [upd_ne (ne_of_none e hD)]
          exact sc _ _ e
      refine ⟨_, rfl, _, rfl, ?_⟩
      cases hdn : l.dn with
      | true =>
        rw [if_pos hdn] at eo
        exact if_yes rfl ⟨_, rfl, _, _, rfl, rfl, _, rfl, _, _, rfl, rfl, nxt _ (by rw [eo, Int.zero_add])⟩
      | false =>
        rw [if_neg (by rw [hdn]; simp)] at eo
        exact if_no rfl ⟨_, rfl, nxt _ (by rw [eo, Int.zero_add])⟩
    rintro H2 ⟨eD, s2⟩
    rw [List.take_of_length_le (by omega)] at eD
    refine normG (σ' := [some v, some (.int j), some (.int m), some lo, some hi, some (.int l.S), some (.bl l.dn), some (.ref le), some (.ref D), none, none, none, none, none, none]) rfl ?_
    try dsimp only
    refine ⟨sz0, fun L hL => ?_⟩
    have s3 := Same.new (.lst []) (Same.refl H2) hL
    refine normG (σ' := [some v, some (.int j), some (.int m), some lo, some hi, some (.int l.S), some (.bl l.dn), some (.ref le), some (.ref D), none, some (.ref L), none, none, none, none]) rfl ?_
    try dsimp only
    have hle2 := s2 _ _ hle
    have leL : le ≠ L := ne_of_none hle2 hL
    refine ⟨_, rfl, D, rfl, ⟨_, SqL.of (s3 _ _ eD)⟩, ?_⟩
    refine for_list (K := K) (xs := (ordL l m).map V.int) (fun i σ Hc => ∃ (v9 v11 v12 v13 v14 : Option V) (ws : List V), σ = [some v, some (.int j), some (.int m), some lo, some hi, some (.int l.S), some (.bl l.dn), some (.ref le), some (.ref D), v9, some (.ref L), v11, v12, v13, v14] ∧ Hc L = some (.lst ws) ∧ Fa (EnV K (fun a => a ≠ L) Hc) ws (((ordL l m).take i).map (lotEs l j)).flatten ∧ Same H2 Hc) ⟨_, _, _, _, _, [], rfl, upd_same, by rw [List.take_zero]; exact .nil, s3⟩ (fun _ _ H' _ ⟨_, _, _, _, _, _, _, _, _, z⟩ => SqL.of (z _ _ eD)) ?_ ?_
    · rintro i x σ Hc hx ⟨v9, v11, v12, v13, v14, ws, rfl, eL, fw, sc⟩
      rw [List.getElem?_map] at hx
      obtain ⟨g, hg, rfl⟩ := Option.map_eq_some_iff.mp hx
      have gb := ordL_bd g (List.mem_of_getElem? hg)
      refine normG (σ' := [some v, some (.int j), some (.int m), some lo, some hi, some (.int l.S), some (.bl l.dn), some (.ref le), some (.ref D), some (.int g), some (.ref L), v11, v12, v13, v14]) rfl ?_
      try dsimp only
      have hlec := sc _ _ hle2
      refine ⟨_, rfl, .inl ⟨rfl, _, SqL.of eL⟩, _, rfl, le, rfl, ⟨_, SqL.of hlec⟩, fun D2 hD2 => ?_⟩
      refine lc_list (K := K) (xs := es) (fun b Hb => ∃ acc, Hb D2 = some (.lst acc) ∧ Fa (EnV K (fun a => a ≠ L ∧ a ≠ D2) Hb) acc ((lotEs l j g).take b) ∧ Same Hc Hb) ⟨[], upd_same, by rw [List.take_zero]; exact .nil, Same.new _ (Same.refl Hc) hD2⟩ (fun b Hb _ z => SqL.of (z.choose_spec.2.2 _ _ hlec)) ?_ ?_
      · rintro b u Hb hu ⟨acc, eD2, fa, sb⟩
        obtain ⟨e0, ee, te, lc0, cs0, rfl, hte, _, hlc0, fck⟩ := fe.at hu
        have s1b := s2.trans (sc.trans sb)
        have hb := (List.getElem?_eq_some_iff.mp ee).1
        rw [keptEs_len] at hb
        have ee2 : (lotEs l j g)[b]? = some { e0 with g := l.S * g } := by
          unfold lotEs
          rw [List.getElem?_map, ee]
          rfl
        refine ⟨te, _, rfl, SqT.of (s1b _ _ hte), rfl, _, _, rfl, _, _, rfl, _, _, rfl, _, _, rfl, rfl, rfl, yes_of ?_⟩
        refine ⟨_, rfl, _, rfl, _, rfl, _, rfl, _, _, rfl, rfl, bd_c (Bd.of 100 (n := 400) (by decide) (by omega) (by omega)) (Bd.of 16 (n := 400) (by decide) (by omega) (by omega)), _, rfl, sz1l _ (by show 3 < 1000; decide), fun t' ht' => ?_⟩
        have s5 := Same.new (.tup [.int e0.j, .int e0.k, .int (l.S * g), .ref lc0]) (Same.refl Hb) ht'
        have eD3 := s5 _ _ eD2
        have n1 : lc0 ≠ L := ne_of_none (s2 _ _ hlc0) hL
        have n2 : lc0 ≠ D2 := ne_of_none (sc _ _ (s2 _ _ hlc0)) hD2
        refine ⟨acc, eD3, sz1l _ (by rw [fa.1, List.length_take]; omega), acc ++ [.ref t'], upd_same, ?_, fun b' o e => ?_⟩
        · rw [List.take_add_one, ee2]
          have kL : ∀ a ys, (a ≠ L ∧ a ≠ D2) → (upd Hb t' (.tup [.int e0.j, .int e0.k, .int (l.S * g), .ref lc0])) a = some (.lst ys) → (upd (upd Hb t' (.tup [.int e0.j, .int e0.k, .int (l.S * g), .ref lc0])) D2 (.lst (acc ++ [.ref t']))) a = some (.lst ys) := fun a ys n e => by
            rw [upd_ne n.2]
            exact e
          refine (fa.imp fun _ _ z => (z.same s5).to (.updL eD3) kL fun _ _ _ q => q).snoc (EnV.to (P := fun a => a ≠ L ∧ a ≠ D2) ⟨t', lc0, cs0, rfl, upd_same, ⟨n1, n2⟩, s5 _ _ (s1b _ _ hlc0), fck.imp fun _ _ z => z.same (s1b.trans s5)⟩ (.updL eD3) kL fun _ _ _ q => q)
        · rw [upd_ne (ne_of_none e hD2)]
          exact s5 _ _ (sb _ _ e)
      rintro H5 ⟨acc, eD2, fa5, s5⟩
      have lle : (lotEs l j g).length = l.sts.length := by
        unfold lotEs
        rw [List.length_map, keptEs_len]
      rw [fe.1, keptEs_len, List.take_of_length_le (by omega)] at fa5
      have eL5 := s5 _ _ eL
      have lws : ws.length ≤ 16 * 16 := by
        rw [fw.1]
        refine Nat.le_trans (flat_bound (n := 16) fun g0 _ => ?_) ?_
        · unfold lotEs
          rw [List.length_map, keptEs_len]
          omega
        · rw [List.length_take]
          omega
      refine ⟨L, D2, ws, acc, rfl, rfl, eL5, eD2, Nat.le_of_lt (sz1l _ (by rw [fa5.1]; omega)), some (.int g), v11, v12, v13, v14, ws ++ acc, rfl, upd_same, ?_, fun b o e => ?_⟩
      · rw [List.take_add_one, hg, List.map_append, List.flatten_append]
        have kL : ∀ a ys, a ≠ L → H5 a = some (.lst ys) → (upd H5 L (.lst (ws ++ acc))) a = some (.lst ys) := fun a ys n e => by
          rw [upd_ne n]
          exact e
        refine (fw.imp fun _ _ z => (z.same s5).to (.updL eL5) kL fun _ _ _ q => q).app ?_
        show Fa _ acc ([lotEs l j g].flatten)
        rw [List.flatten_cons, List.flatten_nil, List.append_nil]
        exact fa5.imp fun _ _ z => z.to (.updL eL5) (fun a ys n e => kL a ys n.1 e) fun _ _ _ q => q.1
      · rw [upd_ne (ne_of_none e hL)]
        exact s5 _ _ (sc _ _ e)
    · rintro σ H7 ⟨v9, v11, v12, v13, v14, ws, rfl, eL, fw, s7⟩
      rw [List.length_map, List.take_of_length_le (Nat.le_refl _)] at fw
      have s17 := s2.trans s7
      refine ⟨_, rfl, _, rfl, _, rfl, _, rfl, _, rfl, _, rfl, _, _, rfl, rfl, bd_c (Bd.of 100 (n := 400) (by decide) (by omega) (by omega)) (Bd.of 16 (n := 400) (by decide) (by omega) (by omega)), _, rfl, _, rfl, sz1l _ (by show 4 < 1000; decide), fun t2 ht2 => ⟨sz1l _ (by show 0 < 1000; decide), fun lp hlp => ?_⟩⟩
      have s8 := Same.new (.tup [lo, hi, .int (l.S * m), .bl l.dn, .ref L]) (Same.refl H7) ht2
      have s9 := Same.new (.lst [.ref t2]) (Same.refl (upd H7 t2 (.tup [lo, hi, .int (l.S * m), .bl l.dn, .ref L]))) hlp
      have s79 := s8.trans s9
      have s19 := s17.trans s79
      refine ⟨v, ls, j, 1, lp, [.ref t2], [unrPt l j m], er, rfl, hP.same (s1.trans s19), po.1, po.2, by omega, upd_same, Fa.one ⟨t2, lo, hi, L, ws, rfl, s9 _ _ upd_same, h1.same s19, h2.same s19, trivial, s79 _ _ eL, (fw.imp fun _ _ z => (z.imp fun _ _ _ _ => trivial).same s79)⟩, by show 1 ≤ 6; decide, fun q hq => ?_, hck, rz.same (s1.trans s19)⟩
      obtain rfl := List.mem_singleton.mp hq
      refine ⟨?_, fun e he => ?_⟩
      · show ((ordL l m).map (lotEs l j)).flatten.length ≤ 300
        refine Nat.le_trans (flat_bound (n := 16) fun g0 _ => ?_) (by rw [ol]; omega)
        unfold lotEs
        rw [List.length_map, keptEs_len]
        omega
      · obtain ⟨es0, hes0, he⟩ := List.mem_flatten.mp (show e ∈ ((ordL l m).map (lotEs l j)).flatten from he)
        obtain ⟨g, hg, rfl⟩ := List.mem_map.mp hes0
        obtain ⟨e0, he0, rfl⟩ := List.mem_map.mp (show e ∈ (keptEs l j).map _ from he)
        obtain ⟨k1, k2, k3⟩ := kept_es hl e0 he0
        have gb := ordL_bd g hg
        exact ⟨k1, mul_bd S0 S1 gb.1 (by omega), k3⟩
end
end K49
set_option maxHeartbeats 4000000
namespace Z
open PySem PySem.Spec PyProof.Rows L2
abbrev ClauseM : Type := Value × Option Nat × (Addr → Value → Option Addr → TS)
/-- what a clause asks of its suite -/
def cAsk (o : Option Nat) (ts : Addr → Value → Option Addr → TS) (a : Addr) (cls : Value) (d : Option Addr) (D : Ends) (σ : L2.St) (H : Hp) : Prop := match o with
  | some i => ts a cls d (bare i D) (σ.set i (some (.ref a))) H
  | none => ts a cls d D σ H
def wMix (K : PySem.W.Frag) (Wout : WX) (D : Ends) : List ClauseM → WX
  | [] => Wout
  | q :: r => fun cls d σ H => ∃ b, PySem.W.exmOne K cls q.1 = some b ∧ (b = true → ∀ a, H a = none → cAsk q.2.1 q.2.2 a cls d D σ H) ∧ (b = false → wMix K Wout D r cls d σ H)
inductive Mix (X : Cx) : List ExceptHandler → List ClauseM → Prop
  | nil : Mix X [] []
  | cons {x n : Str} {c : Value} {i : Nat} {ts : Addr → Value → Option Addr → TS} {b₀ : Stmt} {suite : List Stmt} {np q : Pos} {hds : List ExceptHandler} {l : List ClauseM} (hi : X.N[i]? = some n) (hl : X.env.kindOf n = some .local) (hc : Names X x c)
      (hsu : ∀ (a : Addr) (oe : Obj) (cls : Value) (d : Option Addr) (pn : List (Addr × Obj)), Zc cls d oe → (∃ vs, oe.data = .fields vs) → PSs (X.suite a ((a, oe) :: pn)) (b₀ :: suite) (ts a cls d)) (r : Mix X hds l) :
      Mix X (.ExceptHandler (some (.Name x np)) (some n) (b₀ :: suite) q :: hds) ((c, some i, ts) :: l)
  | cons0 {x : Str} {c : Value} {ts : Addr → Value → Option Addr → TS} {b₀ : Stmt} {suite : List Stmt} {np q : Pos} {hds : List ExceptHandler} {l : List ClauseM} (hc : Names X x c)
      (hsu : ∀ (a : Addr) (oe : Obj) (cls : Value) (d : Option Addr) (pn : List (Addr × Obj)), Zc cls d oe → (∃ vs, oe.data = .fields vs) → PSs (X.suite a ((a, oe) :: pn)) (b₀ :: suite) (ts a cls d)) (r : Mix X hds l) :
      Mix X (.ExceptHandler (some (.Name x np)) none (b₀ :: suite) q :: hds) ((c, none, ts) :: l)
section
variable {X : Cx} {body : List Stmt} {h₀ : ExceptHandler} {hds : List ExceptHandler} {l : List ClauseM} {pos : Pos} {tb : WX → TS} {Wout : WX}
theorem ps_try_mix (hs : X.stack = X.env :: X.outer) (hf : X.env.frame = some X.env.locals) (hN : X.N.Nodup) (tk : Takes X Wout)
    (hb : ∀ (W : WX) (pn : List (Addr × Obj)) (xe : Value → Shared → Prop), Takes (X.tr pn xe) W → PassesOwn (model X.prog X.w) X.A X.env xe → PSs (X.tr pn xe) body (tb W))
    (hh : Mix X (h₀ :: hds) l) : PS X (.Try body (h₀ :: hds) [] [] pos) (fun D σ H => tb (wMix X.K Wout D l) D σ H) := by
  refine ⟨fun pins s σ H D I h => ?_⟩
  have ok := I.ok
  have frm : X.A.frames = some (X.env :: X.outer) := ok.frames.trans (congrArg some hs)
  have out : ∀ {f : Flow} {s1 : Shared}, SP (X.tr (X.pn ++ pins) (fun e s₁ => wpAny (model X.prog X.w) X.A (noteFrame e X.env) (fun _ s₂ => wpAny (model X.prog X.w) X.A (setFlight e none) (fun _ s₃ => wpAny (model X.prog X.w) X.A (handleBy e X.env (h₀ :: hds)) (SP X pins D) X.xe s₃) X.xe s₂) X.xe s₁)) [] D f s1 → SP X pins D f s1 := by
    intro f s1 z
    cases f with
    | next => exact z.elim fun σ' z => z.elim fun H' z => ⟨σ', H', z.1.ofTry ok, z.2⟩
    | brk => exact z.elim fun σ' z => z.elim fun H' z => ⟨σ', H', z.1.ofTry ok, z.2⟩
    | cont => exact z.elim fun σ' z => z.elim fun H' z => ⟨σ', H', z.1.ofTry ok, z.2⟩
    | ret u => exact z.elim fun v z => z.elim fun σ' z => z.elim fun H' z => ⟨v, σ', H', z.1.ofTry ok, z.2⟩
  refine wpAny_Try_except (wpAny_mono ((hb (wMix X.K Wout D l) (X.pn ++ pins) _ (fun u s' xx => ?_) PassesOwn.looking).run [] s σ H D (I.toTry _) h) (fun f s1 z => ?_) fun e s1 he => he)
  · obtain ⟨a, B, sI, pins', σ', H', cls, d, rfl, J', nb, up, sky, na, os, ag, w⟩ := xx
    have J : Inv X pins σ' H' sI := J'.ofTry ok
    have sky' : Sky B (X.env :: X.outer) a (Zc cls d) X.env.locals s'.heap := hs ▸ sky
    show wpAny (model X.prog X.w) X.A (noteFrame (.ref a) X.env) _ _ _
    refine Sky.land Zc.steady frm hf sky' fun h3 fl3 up3 => ?_
    have up13 := up.trans up3
    obtain ⟨oe3, vs3, he3, hz3, hd3⟩ := fl3.there
    have J3 : Inv X pins σ' H' { s' with heap := h3 } := J.landed nb fl3.1 up13 os ag
    have far : a ∉ frs (X.env :: X.outer) := fun hm => (fl3.2.2.1.mem hm).elim fun _ z => z.elim fun o' z => by
      have e' := z.1
      rw [he3] at e'
      exact z.2 _ (Option.some.inj e' ▸ hd3)
    have nL : a ≠ X.env.locals := fun z => far (List.mem_filterMap.mpr ⟨X.env, .head _, by rw [hf, z]⟩)
    have nF : a ∉ X.fs := fun hm => (List.mem_filterMap.mp hm).elim fun e z => far (List.mem_filterMap.mpr ⟨e, .tail _ z.1, z.2⟩)
    have S3 := J3.suite he3 hd3 na nL nF
    have tyE : PySem.W.Looks (model X.prog X.w) h3 (typeOf (.ref a)) cls := fun A Q E s k q => wpAny_typeOf_ref (k _ _ he3) (by rw [hz3.1]; exact q)
    suffices walk : ∀ {hds' : List ExceptHandler} {l' : List ClauseM}, Mix X hds' l' → wMix X.K Wout D l' cls d σ' H' → wpAny (model X.prog X.w) X.A (handleBy (.ref a) X.env hds') (SP X pins D) X.xe { s' with heap := h3 } from walk hh w
    intro hds' l' hk
    induction hk with
    | nil =>
      intro w
      refine wpAny_handleBy_nil ?_
      obtain ⟨k1, k2, k3, oe, vs, T, oT, ts', he, hz, hd, h1, hr⟩ := id fl3
      unfold PySem.passOn
      refine wpAny_bind (wpAny_field he hd h1 ?_)
      rw [if_neg (show ¬ ((Value.ref T == Value.none) = true) from by simp)]
      have fin : wpAny (model X.prog X.w) X.A (setFlight (.ref a) X.env.frame) (fun _ s4 => wpAny (model X.prog X.w) X.A (throw (.ref a) : Sem Flow) (SP X pins D) X.xe s4) X.xe { s' with heap := h3 } := by
        rw [hf]
        exact HandSPX.setFlight_upZ fl3 fun h4 hh4 up4 => wpAny_throw (tk _ _ ⟨a, B, sI, pins, σ', H', cls, d, rfl, J, nb, up13.trans up4, .inr (.inr (by rw [hs]; exact hh4)), na, os, ag, w⟩)
      first
        | exact wpAny_bind (wpAny_pure (wpAny_bind fin))
        | exact wpAny_bind fin
    | @cons x n c i ts b₀ suite np q hds2 l2 hi hln hc hsu r ih =>
      intro w
      obtain ⟨b, hb1, hyes, hno⟩ := w
      have LM := PySem.W.exm_one (M := model X.prog X.w) (J3.kIn) tyE hb1
      refine wpAny_handleBy_cons (codeAny_handlers_test ?_) (by intro q; cases q)
      have nm : ∀ {Q : Value → Shared → Prop} {E : Value → Shared → Prop}, Q c { s' with heap := h3 } → wpAny (model X.prog X.w) (X.A.mark (some (.ref a))) (eval (.Name x np) X.env) Q E { s' with heap := h3 } := fun {Q E} y => by
        rcases hc with ⟨g1, g2, m1 | ⟨m1, m2, m3⟩⟩
        · exact ld_glob (X := X.suite a ((a, oe3) :: (X.pn ++ pins))) S3 g1 m1 y g2
        · exact ld_blt (X := X.suite a ((a, oe3) :: (X.pn ++ pins))) S3 g1 m1 m2 y m3 g2
      refine nm (LM.here ?_)
      cases b with
      | false => exact ih (hno rfl)
      | true =>
        refine codeAny_handlers_suite_as (HandSPX.lands_againZ fl3 fun h4 fl4 up4 => ?_)
        obtain ⟨oe4, vs4, he4, hz4, hd4⟩ := fl4.there
        have S4 := (J.landed nb fl4.1 (up13.trans up4) os ag : Inv X pins σ' H' { s' with heap := h4 }).suite he4 hd4 na nL nF
        refine store_ok (X := X.suite a ((a, oe4) :: (X.pn ++ pins))) (v := .ref a) S4 hN hi (.inl hln) rfl (fun s5 S5 => ?_) (.inr hln)
        refine wpAny_mono ((hsu a oe4 cls d (X.pn ++ pins) hz4 ⟨_, hd4⟩).run [] s5 _ H' _ S5 (hyes rfl a na)) (fun f s6 hsp => ?_) (fun _ _ z => z.elim)
        have end_ : ∀ {σ6 : L2.St} {H6 : Hp} {Q : Shared → Prop}, Inv (X.suite a ((a, oe4) :: (X.pn ++ pins))) [] σ6 H6 s6 → (∀ s7, Inv X pins (σ6.set i none) H6 s7 → Q s7) →
            wpAny (model X.prog X.w) X.A (do bindName X.env n .none; unbindBehindTheSuite X.env n q) (fun _ s7 => Q s7) X.xe s6 := fun {σ6 H6 Q} S6 hq => gone_ok (S6.unsuite ok) hN hi hln hq
        cases f with
        | ret u => exact hsp.elim fun v z => z.elim fun σ6 z => z.elim fun H6 z => end_ z.1 fun s7 J7 => ⟨_, _, _, J7, z.2.1, z.2.2⟩
        | next => exact hsp.elim fun σ6 z => z.elim fun H6 z => end_ z.1 fun s7 J7 => ⟨_, _, J7, z.2⟩
        | brk => exact hsp.elim fun σ6 z => z.elim fun H6 z => end_ z.1 fun s7 J7 => ⟨_, _, J7, z.2⟩
        | cont => exact hsp.elim fun σ6 z => z.elim fun H6 z => end_ z.1 fun s7 J7 => ⟨_, _, J7, z.2⟩
    | @cons0 x c ts b₀ suite np q hds2 l2 hc hsu r ih =>
      intro w
      obtain ⟨b, hb1, hyes, hno⟩ := w
      have LM := PySem.W.exm_one (M := model X.prog X.w) (J3.kIn) tyE hb1
      refine wpAny_handleBy_cons (codeAny_handlers_test ?_) (by intro q; cases q)
      have nm : ∀ {Q : Value → Shared → Prop} {E : Value → Shared → Prop}, Q c { s' with heap := h3 } → wpAny (model X.prog X.w) (X.A.mark (some (.ref a))) (eval (.Name x np) X.env) Q E { s' with heap := h3 } := fun {Q E} y => by
        rcases hc with ⟨g1, g2, m1 | ⟨m1, m2, m3⟩⟩
        · exact ld_glob (X := X.suite a ((a, oe3) :: (X.pn ++ pins))) S3 g1 m1 y g2
        · exact ld_blt (X := X.suite a ((a, oe3) :: (X.pn ++ pins))) S3 g1 m1 m2 y m3 g2
      refine nm (LM.here ?_)
      cases b with
      | false => exact ih (hno rfl)
      | true =>
        refine codeAny_handlers_suite (HandSPX.lands_againZ fl3 fun h4 fl4 up4 => ?_)
        obtain ⟨oe4, vs4, he4, hz4, hd4⟩ := fl4.there
        have S4 := (J.landed nb fl4.1 (up13.trans up4) os ag : Inv X pins σ' H' { s' with heap := h4 }).suite he4 hd4 na nL nF
        refine wpAny_mono ((hsu a oe4 cls d (X.pn ++ pins) hz4 ⟨_, hd4⟩).run [] _ _ H' _ S4 (hyes rfl a na)) (fun f s6 hsp => ?_) (fun _ _ z => z.elim)
        cases f with
        | ret u => exact hsp.elim fun v z => z.elim fun σ6 z => z.elim fun H6 z => ⟨_, _, _, z.1.unsuite ok, z.2.1, z.2.2⟩
        | next => exact hsp.elim fun σ6 z => z.elim fun H6 z => ⟨_, _, z.1.unsuite ok, z.2⟩
        | brk => exact hsp.elim fun σ6 z => z.elim fun H6 z => ⟨_, _, z.1.unsuite ok, z.2⟩
        | cont => exact hsp.elim fun σ6 z => z.elim fun H6 z => ⟨_, _, z.1.unsuite ok, z.2⟩
  · have z2 := out z
    cases f with
    | next => exact wpAny_execs_nil z2
    | brk => exact z2
    | cont => exact z2
    | ret u => exact z2
end
end Z
set_option maxHeartbeats 4000000
namespace K49
open PySem PySem.Spec PyProof.Rows L2 Z
structure GX (K : PySem.W.Frag) (mg : Str → Option Value) (x : Str) : Prop where
  gC : mg x = some (.ref (He.ga K x))
def xT0 : List (Str × Str × Bool) := [("NoLoop", "NoLoop", true), ("Unlike", "NoLoop", false), ("Unlike", "Unlike", true), ("NoStatement", "NoLoop", false), ("NoStatement", "Unlike", false), ("NoStatement", "NoStatement", true)]
def xT1 : List (Str × Str × Bool) := [("BadSize", "NoLoop", false), ("BadSize", "Unlike", false), ("BadSize", "NoStatement", false), ("BadSize", "BadSize", true), ("BadMany", "NoLoop", false), ("BadMany", "Unlike", false)]
def xT2 : List (Str × Str × Bool) := [("BadMany", "NoStatement", false), ("BadMany", "BadSize", false), ("BadMany", "BadMany", true), ("TooMany", "NoLoop", false), ("TooMany", "Unlike", false), ("TooMany", "NoStatement", false)]
def xT3 : List (Str × Str × Bool) := [("TooMany", "BadSize", false), ("TooMany", "BadMany", false), ("TooMany", "TooMany", true), ("BadNumber", "NoLoop", false), ("BadNumber", "Unlike", false), ("BadNumber", "NoStatement", false)]
def xT4 : List (Str × Str × Bool) := [("BadNumber", "BadSize", false), ("BadNumber", "BadMany", false), ("BadNumber", "TooMany", false), ("BadNumber", "BadNumber", true), ("OtherProgram", "NoLoop", false), ("OtherProgram", "Unlike", false)]
def xT5 : List (Str × Str × Bool) := [("OtherProgram", "NoStatement", false), ("OtherProgram", "BadSize", false), ("OtherProgram", "BadMany", false), ("OtherProgram", "TooMany", false), ("OtherProgram", "BadNumber", false), ("OtherProgram", "OtherProgram", true)]
structure RfTx (K : PySem.W.Frag) (mg : Str → Option Value) : Prop where
  EL : EC K mg "NoLoop" ["loop"]
  EU : EC K mg "Unlike" ["loop"]
  ES : EC K mg "NoStatement" ["loop", "statement"]
  EZ : EC K mg "BadSize" ["n"]
  EY : EC K mg "BadMany" ["many"]
  ET : EC K mg "TooMany" ["what", "many", "limit"]
  EB : EC K mg "BadNumber" ["what", "number"]
  EO : GX K mg "OtherProgram"
  x : ∀ q ∈ xT0 ++ (xT1 ++ (xT2 ++ (xT3 ++ (xT4 ++ xT5)))), PySem.W.exmOne K (.ref (He.ga K q.1)) (.ref (He.ga K q.2.1)) = some q.2.2
theorem look1 {x : Str} {v : V} {r : List (Str × V)} : ((x, v) :: r).lookup x = some v := by simp [List.lookup_cons]
theorem look2 {x y : Str} {u : V} {r : List (Str × V)} (h : (x == y) = false) : ((y, u) :: r).lookup x = r.lookup x := by
  rw [List.lookup_cons, h]
/-- an error that is told, with what it becomes -/
def RefE (K : PySem.W.Frag) (cls : Value) (d : Option Addr) (H : Hp) (Q : VK) : Prop := (∃ (x : Str) (fs : List Str) (tag : V) (vs : List V) (D : Addr), (x, fs, tag) ∈ ([("NoLoop", ["loop"], .int 1), ("Unlike", ["loop"], .int 0), ("NoStatement", ["loop", "statement"], .str "statement"), ("BadSize", ["n"], .str "size"), ("BadMany", ["many"], .str "many"), ("TooMany", ["what", "many", "limit"], .str "too many"), ("BadNumber", ["what", "number"], .str "number")] : List (Str × List Str × V)) ∧
  cls = .ref (He.ga K x) ∧ d = some D ∧ H D = some (.xd (fs.zip vs).reverse) ∧ vs.length = fs.length ∧ ∀ t, H t = none → Q (.ref t) (upd H t (.tup (tag :: vs)))) ∨ (cls = .ref (He.ga K "OtherProgram") ∧ ∀ t, H t = none → Q (.ref t) (upd H t (.tup [.str "other"])))
def TTref (K : PySem.W.Frag) : (XK → Hp → VK → Prop) → Hp → VK → Prop := fun tl H Q => ∀ (R : VK) (E : XK), (∀ v H', Q .non H' → R v H') → (∀ cls d H', RefE K cls d H' Q → E cls d H') → tl E H R
/-- the suite's only statement: what was handed is called -/
theorem lam_body {Y : Cx} {W : WX} {k : Nat} (hN : Y.N.length = k) {f c' : Addr} {a q : Str} {tl : XK → Hp → VK → Prop} {p1 p2 p3 : Pos}
    (act : ∀ (W2 : WX) (E : XK), Takes Y W2 → (∀ cls d σ' H', E cls d H' → W2 cls d σ' H') → PE Y (.Call (.Name a p1) [] [] p2) (fun σZ HZ Q => σZ[0]? = some (some (V.ref f)) ∧ HZ c' = some (LamX.CodeO c' q) ∧ tl E HZ Q)) (tk : Takes Y W) :
    PSs Y [.Expr (.Call (.Name a p1) [] [] p2) p3] (fun D σ H => ∃ E : XK, (∀ cls d σ' H', σ'.length = k → E cls d H' → W cls d σ' H') ∧ σ[0]? = some (some (V.ref f)) ∧ H c' = some (LamX.CodeO c' q) ∧ tl E H fun _ H' => D.nx σ H') := by
  refine ⟨fun pins s σ H D I h => ?_⟩
  obtain ⟨E, hE, h0, h1, h2⟩ := h
  have tk2 : Takes Y (fun cls d σ' H' => σ'.length = k → W cls d σ' H') := fun u s' ⟨a, B, sI, pn, σ', H', cls, d, e, J, r⟩ => by
    obtain ⟨nb, up, sky, na, os, ag, wq⟩ := r
    exact tk u s' ⟨a, B, sI, pn, σ', H', cls, d, e, J, nb, up, sky, na, os, ag, wq (J.len.trans hN)⟩
  exact (pss_one (ps_expr (act _ E tk2 fun cls d σ' H' z l => hE cls d σ' H' l z))).run pins s σ H D I ⟨h0, h1, h2⟩
theorem sc_law_refused : FnScope ["_law_call", "e"] ["_law_call"] (defScope s_law_refused) := ⟨rfl, rfl, rfl, by decide +kernel, rfl, by decide +kernel, by decide +kernel⟩
theorem ref_gives {X : Cx} {g : Addr} {cdg : Value} {q : Str} (R : RfTx X.K X.mg) : LamX.GivesTo X ["_law_call", "e"] "_law_refused" (defScope s_law_refused) g cdg (defBody s_law_refused) "_law_call" q (TTref X.K) := by
  intro f c' s H Q tl act hc h
  refine ⟨_, ((pss_cons (ps_try_mix rfl rfl sc_law_refused.nd takes0 (fun W pn xe tk _ => (lam_body (k := 2) rfl (f := f) (c' := c') (q := q) (tl := tl) (fun W2 E tk2 h2 => act W2 pn xe E _ _ tk2 h2) tk)) (Mix.cons (i := 1) rfl rfl ⟨rfl, by decide, .inl R.EL.gC⟩ (fun a oe cls d pn hz hf => (pss_one (ps_ret (pe_tup (pa_cons pe_int (pa_cons (pe_xf R.EL.ex.xf (R.EL.na _ (by simp)) hz hf (pv 1)) pa_nil)))))) (Mix.cons (i := 1) rfl rfl ⟨rfl, by decide, .inl R.EU.gC⟩ (fun a oe cls d pn hz hf => (pss_one (ps_ret (pe_tup (pa_cons pe_int (pa_cons (pe_xf R.EU.ex.xf (R.EU.na _ (by simp)) hz hf (pv 1)) pa_nil)))))) (Mix.cons (i := 1) rfl rfl ⟨rfl, by decide, .inl R.ES.gC⟩ (fun a oe cls d pn hz hf => (pss_one (ps_ret (pe_tup (pa_cons pe_str (pa_cons (pe_xf R.ES.ex.xf (R.ES.na _ (by simp)) hz hf (pv 1)) (pa_cons (pe_xf R.ES.ex.xf (R.ES.na _ (by simp)) hz hf (pv 1)) pa_nil))))))) (Mix.cons (i := 1) rfl rfl ⟨rfl, by decide, .inl R.EZ.gC⟩ (fun a oe cls d pn hz hf => (pss_one (ps_ret (pe_tup (pa_cons pe_str (pa_cons (pe_xf R.EZ.ex.xf (R.EZ.na _ (by simp)) hz hf (pv 1)) pa_nil)))))) (Mix.cons (i := 1) rfl rfl ⟨rfl, by decide, .inl R.EY.gC⟩ (fun a oe cls d pn hz hf => (pss_one (ps_ret (pe_tup (pa_cons pe_str (pa_cons (pe_xf R.EY.ex.xf (R.EY.na _ (by simp)) hz hf (pv 1)) pa_nil)))))) (Mix.cons (i := 1) rfl rfl ⟨rfl, by decide, .inl R.ET.gC⟩ (fun a oe cls d pn hz hf => (pss_one (ps_ret (pe_tup (pa_cons pe_str (pa_cons (pe_xf R.ET.ex.xf (R.ET.na _ (by simp)) hz hf (pv 1)) (pa_cons (pe_xf R.ET.ex.xf (R.ET.na _ (by simp)) hz hf (pv 1)) (pa_cons (pe_xf R.ET.ex.xf (R.ET.na _ (by simp)) hz hf (pv 1)) pa_nil)))))))) (Mix.cons (i := 1) rfl rfl ⟨rfl, by decide, .inl R.EB.gC⟩ (fun a oe cls d pn hz hf => (pss_one (ps_ret (pe_tup (pa_cons pe_str (pa_cons (pe_xf R.EB.ex.xf (R.EB.na _ (by simp)) hz hf (pv 1)) (pa_cons (pe_xf R.EB.ex.xf (R.EB.na _ (by simp)) hz hf (pv 1)) pa_nil))))))) (Mix.cons0 ⟨rfl, by decide, .inl R.EO.gC⟩ (fun a oe cls d pn hz hf => (pss_one (ps_ret (pe_tup (pa_cons pe_str pa_nil))))) Mix.nil)))))))))
      (pss_one (ps_ret pe_non)))), ?_⟩
  have xm : ∀ (a b : Str) (c : Bool), (a, b, c) ∈ xT0 ++ (xT1 ++ (xT2 ++ (xT3 ++ (xT4 ++ xT5)))) → PySem.W.exmOne X.K (.ref (He.ga X.K a)) (.ref (He.ga X.K b)) = some c := fun a b c h => R.x (a, b, c) h
  refine ⟨fun cls d H' => RefE X.K cls d H' Q, fun cls d σ' H' ls he => ?_, rfl, hc, h _ _ (fun v H' z => z) fun cls d H' z => z⟩
  obtain ⟨a1, a2, rfl⟩ : ∃ a1 a2 : Option V, σ' = [a1, a2] := by
    match σ', ls with
    | [a1, a2], _ => exact ⟨a1, a2, rfl⟩
  rcases he with ⟨x, fs, tag, vs, D, mem, rfl, rfl, hD, lv, back⟩ | ⟨rfl, back⟩
  · simp only [List.mem_cons, List.not_mem_nil, or_false, Prod.mk.injEq] at mem
    rcases mem with ⟨rfl, rfl, rfl⟩ | ⟨rfl, rfl, rfl⟩ | ⟨rfl, rfl, rfl⟩ | ⟨rfl, rfl, rfl⟩ | ⟨rfl, rfl, rfl⟩ | ⟨rfl, rfl, rfl⟩ | ⟨rfl, rfl, rfl⟩
    · obtain ⟨v, rfl⟩ : ∃ v, vs = [v] := by
        match vs, lv with
        | [v], _ => exact ⟨v, rfl⟩
      exact ⟨true, xm "NoLoop" "NoLoop" true (by decide +kernel), fun _ a ha => ⟨_, rfl, rfl, rfl, D, _, v, rfl, (show H' D = some (.xd [("loop", v)]) from hD), look1, sz2, fun t ht => back t ht⟩, fun q => Bool.noConfusion q⟩
    · obtain ⟨v, rfl⟩ : ∃ v, vs = [v] := by
        match vs, lv with
        | [v], _ => exact ⟨v, rfl⟩
      exact ⟨false, xm "Unlike" "NoLoop" false (by decide +kernel), fun q => Bool.noConfusion q, fun _ => ⟨true, xm "Unlike" "Unlike" true (by decide +kernel), fun _ a ha => ⟨_, rfl, rfl, rfl, D, _, v, rfl, (show H' D = some (.xd [("loop", v)]) from hD), look1, sz2, fun t ht => back t ht⟩, fun q => Bool.noConfusion q⟩⟩
    · obtain ⟨v, y, rfl⟩ : ∃ v y, vs = [v, y] := by
        match vs, lv with
        | [v, y], _ => exact ⟨v, y, rfl⟩
      exact ⟨false, xm "NoStatement" "NoLoop" false (by decide +kernel), fun q => Bool.noConfusion q, fun _ => ⟨false, xm "NoStatement" "Unlike" false (by decide +kernel), fun q => Bool.noConfusion q, fun _ => ⟨true, xm "NoStatement" "NoStatement" true (by decide +kernel), fun _ a ha => ⟨_, rfl, rfl, rfl, D, _, v, rfl, (show H' D = some (.xd [("statement", y), ("loop", v)]) from hD), ((look2 (by decide +kernel)).trans look1), _, rfl, rfl, rfl, D, _, y, rfl, (show H' D = some (.xd [("statement", y), ("loop", v)]) from hD), look1, sz3, fun t ht => back t ht⟩, fun q => Bool.noConfusion q⟩⟩⟩
    · obtain ⟨v, rfl⟩ : ∃ v, vs = [v] := by
        match vs, lv with
        | [v], _ => exact ⟨v, rfl⟩
      exact ⟨false, xm "BadSize" "NoLoop" false (by decide +kernel), fun q => Bool.noConfusion q, fun _ => ⟨false, xm "BadSize" "Unlike" false (by decide +kernel), fun q => Bool.noConfusion q, fun _ => ⟨false, xm "BadSize" "NoStatement" false (by decide +kernel), fun q => Bool.noConfusion q, fun _ => ⟨true, xm "BadSize" "BadSize" true (by decide +kernel), fun _ a ha => ⟨_, rfl, rfl, rfl, D, _, v, rfl, (show H' D = some (.xd [("n", v)]) from hD), look1, sz2, fun t ht => back t ht⟩, fun q => Bool.noConfusion q⟩⟩⟩⟩
    · obtain ⟨v, rfl⟩ : ∃ v, vs = [v] := by
        match vs, lv with
        | [v], _ => exact ⟨v, rfl⟩
      exact ⟨false, xm "BadMany" "NoLoop" false (by decide +kernel), fun q => Bool.noConfusion q, fun _ => ⟨false, xm "BadMany" "Unlike" false (by decide +kernel), fun q => Bool.noConfusion q, fun _ => ⟨false, xm "BadMany" "NoStatement" false (by decide +kernel), fun q => Bool.noConfusion q, fun _ => ⟨false, xm "BadMany" "BadSize" false (by decide +kernel), fun q => Bool.noConfusion q, fun _ => ⟨true, xm "BadMany" "BadMany" true (by decide +kernel), fun _ a ha => ⟨_, rfl, rfl, rfl, D, _, v, rfl, (show H' D = some (.xd [("many", v)]) from hD), look1, sz2, fun t ht => back t ht⟩, fun q => Bool.noConfusion q⟩⟩⟩⟩⟩
    · obtain ⟨v, y, z, rfl⟩ : ∃ v y z, vs = [v, y, z] := by
        match vs, lv with
        | [v, y, z], _ => exact ⟨v, y, z, rfl⟩
      exact ⟨false, xm "TooMany" "NoLoop" false (by decide +kernel), fun q => Bool.noConfusion q, fun _ => ⟨false, xm "TooMany" "Unlike" false (by decide +kernel), fun q => Bool.noConfusion q, fun _ => ⟨false, xm "TooMany" "NoStatement" false (by decide +kernel), fun q => Bool.noConfusion q, fun _ => ⟨false, xm "TooMany" "BadSize" false (by decide +kernel), fun q => Bool.noConfusion q, fun _ => ⟨false, xm "TooMany" "BadMany" false (by decide +kernel), fun q => Bool.noConfusion q, fun _ => ⟨true, xm "TooMany" "TooMany" true (by decide +kernel), fun _ a ha => ⟨_, rfl, rfl, rfl, D, _, v, rfl, (show H' D = some (.xd [("limit", z), ("many", y), ("what", v)]) from hD), ((look2 (by decide +kernel)).trans ((look2 (by decide +kernel)).trans look1)), _, rfl, rfl, rfl, D, _, y, rfl, (show H' D = some (.xd [("limit", z), ("many", y), ("what", v)]) from hD), ((look2 (by decide +kernel)).trans look1), _, rfl, rfl, rfl, D, _, z, rfl, (show H' D = some (.xd [("limit", z), ("many", y), ("what", v)]) from hD), look1, sz4, fun t ht => back t ht⟩, fun q => Bool.noConfusion q⟩⟩⟩⟩⟩⟩
    · obtain ⟨v, y, rfl⟩ : ∃ v y, vs = [v, y] := by
        match vs, lv with
        | [v, y], _ => exact ⟨v, y, rfl⟩
      exact ⟨false, xm "BadNumber" "NoLoop" false (by decide +kernel), fun q => Bool.noConfusion q, fun _ => ⟨false, xm "BadNumber" "Unlike" false (by decide +kernel), fun q => Bool.noConfusion q, fun _ => ⟨false, xm "BadNumber" "NoStatement" false (by decide +kernel), fun q => Bool.noConfusion q, fun _ => ⟨false, xm "BadNumber" "BadSize" false (by decide +kernel), fun q => Bool.noConfusion q, fun _ => ⟨false, xm "BadNumber" "BadMany" false (by decide +kernel), fun q => Bool.noConfusion q, fun _ => ⟨false, xm "BadNumber" "TooMany" false (by decide +kernel), fun q => Bool.noConfusion q, fun _ => ⟨true, xm "BadNumber" "BadNumber" true (by decide +kernel), fun _ a ha => ⟨_, rfl, rfl, rfl, D, _, v, rfl, (show H' D = some (.xd [("number", y), ("what", v)]) from hD), ((look2 (by decide +kernel)).trans look1), _, rfl, rfl, rfl, D, _, y, rfl, (show H' D = some (.xd [("number", y), ("what", v)]) from hD), look1, sz3, fun t ht => back t ht⟩, fun q => Bool.noConfusion q⟩⟩⟩⟩⟩⟩⟩
  · exact ⟨false, xm "OtherProgram" "NoLoop" false (by decide +kernel), fun q => Bool.noConfusion q, fun _ => ⟨false, xm "OtherProgram" "Unlike" false (by decide +kernel), fun q => Bool.noConfusion q, fun _ => ⟨false, xm "OtherProgram" "NoStatement" false (by decide +kernel), fun q => Bool.noConfusion q, fun _ => ⟨false, xm "OtherProgram" "BadSize" false (by decide +kernel), fun q => Bool.noConfusion q, fun _ => ⟨false, xm "OtherProgram" "BadMany" false (by decide +kernel), fun q => Bool.noConfusion q, fun _ => ⟨false, xm "OtherProgram" "TooMany" false (by decide +kernel), fun q => Bool.noConfusion q, fun _ => ⟨false, xm "OtherProgram" "BadNumber" false (by decide +kernel), fun q => Bool.noConfusion q, fun _ => ⟨true, xm "OtherProgram" "OtherProgram" true (by decide +kernel), fun _ a ha => ⟨Nat.le_trans (by decide : 1 ≤ 2) sz2, fun t ht => back t ht⟩, fun q => Bool.noConfusion q⟩⟩⟩⟩⟩⟩⟩⟩
end K49
set_option maxHeartbeats 4000000
namespace K49
open PySem PySem.Spec PyProof.Rows L2 Z
def spNoRw (K : PySem.W.Frag) : Sp := fun vs H Q _ => ∃ (v : V) (ls : List LpX), vs = [v] ∧ PrXo K H v ls ∧ PO ls ∧ ∀ r o H', Same H H' → RwAt K H' r v v o → Q (.ref r) H'
def spOrigin (K : PySem.W.Frag) : Sp := fun vs H Q E => ∃ (r w : Addr) (b a o lv cv sv : V) (ls : List LpX), vs = [.ref r, .ref w] ∧ RwAt K H r b a o ∧ PrXo K H a ls ∧ H w = some (.tup [lv, cv, sv]) ∧ LpArg K H E lv ls.length fun j => ∀ l, ls[j]? = some l → StArg K H E j sv l.sts.length fun _ => False
def spPlaces (K : PySem.W.Frag) : Sp := fun vs H Q E => ∃ (r w : Addr) (nv b a o lv cv sv : V) (ls : List LpX), vs = [.ref r, nv, .ref w] ∧ RwAt K H r b a o ∧ PrXo K H b ls ∧ H w = some (.tup [lv, cv, sv]) ∧ LpArg K H E lv ls.length fun j => ∀ l, ls[j]? = some l → StArg K H E j sv l.sts.length fun _ =>
  (IntV H nv false ∧ RzV K "BadSize" ["n"] [nv] H E) ∨ ∃ n : Int, nv = .int n ∧ ¬ (0 ≤ n ∧ n ≤ TOP) ∧ RzV K "BadSize" ["n"] [.int n] H E
section
variable {P : Program} {w : World} {K : PySem.W.Frag} {mg : Str → Option Value} {base : Heap}
theorem sc_no_rewriting : FnScope ["program", "origins", "place", "entry"] ["program"] (defScope s_no_rewriting) := ⟨rfl, rfl, rfl, by decide +kernel, rfl, by decide +kernel, by decide +kernel⟩
theorem ok_noRw {f : Addr} {fd : FuncData} (F : FnP K "no_rewriting" s_no_rewriting f fd) (T : RwTx K mg) (MRw : MkRw P w K mg base) (dEnt : Dn P w K mg base 1 "entries_of" ["program", "place"] (spEnt K)) : FnOk P w K mg base CX0 3 f fd ["program"] (spNoRw K) := by
  refine F.ok sc_no_rewriting (fun vs H Q E h => ?_) (fun cdv A outer s H vs Q E hr h => ?_)
  · obtain ⟨v, ls, rfl, _⟩ := h
    rfl
  · obtain ⟨v, ls, rfl, hP, po, k⟩ := h
    refine ⟨_, PSs.nox (pss_cons (ps_set (i := 1) sc_no_rewriting.nd rfl (Or.inl rfl) (pe_lst pa_nil))
      (pss_cons (ps_for PassesOwn.never rfl (pi_range1 (by rfl) T.range (pa_cons (pe_callB (call_len_seqK (K := K) rfl) (by rfl) T.len PySem.boot_len (pa_cons (pe_fldK (K := K) rfl (pv 0)) pa_nil)) pa_nil)) (pg_name (i := 2) sc_no_rewriting.nd rfl (.inl rfl)) (pss_one (ps_expr (pe_bm PySem.F.plainAttrs_list PySem.F.slot_list_append PySem.F.type_list_append mt_append (pv 1) (pa_cons (pe_callTy (call_tupK (K := K) rfl) (by rfl) T.tuple (by decide +kernel) (pa_cons (pe_lc (own := [("entry", 3)]) (g := gName 3) (tt := tYes) rfl sc_no_rewriting.nd (pi_list (pe_dn dEnt hr (pa_cons (pv 0) (pa_cons (pv 2) pa_nil)))) (blkOk_by (N := ["program", "origins", "place", "entry"]) (sc := defScope s_no_rewriting) (by decide +kernel)) (fun _ _ _ _ _ => (pg_name (i := 3) sc_no_rewriting.nd rfl (.inl rfl))) (fun _ _ _ _ _ => pts_nil) (fun _ _ _ _ _ => (pe_slice (sl_tupK (K := K) rfl) (pv 3) po_none (po_some pe_int)))) pa_nil)) pa_nil)))))
      (pss_one (ps_ret (pe_Rw (K := K) MRw rfl hr at_E0 (pa_cons (pv 0) (pa_cons (pv 0) (pa_cons (pe_callTy (call_tupK (K := K) rfl) (by rfl) T.tuple (by decide +kernel) (pa_cons (pv 1) pa_nil)) pa_nil)))))))), ?_⟩
    obtain ⟨p, xs, ys, rfl, ⟨dx, lt, at_, dk, hp, hlt, hat⟩, fa⟩ := id hP
    have lx : xs.length = ls.length := fa.1
    have l6 := po.1
    refine ⟨sz0, fun L hL => ?_⟩
    have s1 := Same.new (.lst []) (Same.refl H) hL
    refine normG (σ' := [some (.ref p), some (.ref L), none, none]) rfl ?_
    try dsimp only
    refine ⟨_, rfl, p, _, dx, _, _, rfl, s1 _ _ hp, T.clP, T.nPL, prf_l _ _ _, lt, xs, rfl, .inr (SqT.same hlt s1), _, rfl, by omega, by omega, ?_⟩
    rw [Int.toNat_natCast, lx]
    refine for_range (lo := 0) (n := ls.length) (fun i σ Hc => ∃ (v2 v3 : Option V) (ws : List V), σ = [some (.ref p), some (.ref L), v2, v3] ∧ Hc L = some (.lst ws) ∧ ws.length = i ∧ Same H Hc) ⟨_, _, [], rfl, upd_same, rfl, s1⟩ ?_ ?_
    · rintro i σ Hc hi ⟨v2, v3, ws, rfl, eL, lw, sc⟩
      obtain ⟨l, hl⟩ : ∃ l, ls[i]? = some l := ⟨_, List.getElem?_eq_getElem hi⟩
      have b1 := (po.2 l (List.mem_of_getElem? hl)).1
      refine normG (σ' := [some (.ref p), some (.ref L), some (.int (0 + (i : Int))), v3]) rfl ?_
      try dsimp only
      refine ⟨_, rfl, .inl ⟨rfl, _, SqL.of eL⟩, _, rfl, _, rfl, .ref p, ls, i, l, by rw [Int.zero_add]; rfl, hP.same sc, hl, by omega, fun le es H2 s2 n2 hle fe => ⟨le, rfl, ⟨_, SqL.of hle⟩, fun D hD => ?_⟩⟩
      refine lc_list (K := K) (xs := es) (fun b Hb => ∃ acc, Hb D = some (.lst acc) ∧ acc.length = b ∧ Same H2 Hb) ⟨[], upd_same, rfl, Same.new _ (Same.refl H2) hD⟩ (fun b Hb _ z => SqL.of (z.choose_spec.2.2 _ _ hle)) ?_ ?_
      · rintro b u Hb hu ⟨acc, eD, la, sb⟩
        obtain ⟨e0, ee, te, lc, cs, rfl, hte, _⟩ := (fe.imp fun _ _ z => z.same sb).at hu
        have hb := (List.getElem?_eq_some_iff.mp ee).1
        rw [keptEs_len] at hb
        refine ⟨rfl, yes_of ?_⟩
        refine ⟨_, rfl, _, rfl, te, _, rfl, SqT.of hte, cut4, fun V3 hV3 => ?_⟩
        have s9 := Same.new (.tup (cutV [V.int e0.j, .int e0.k, .int e0.g, .ref lc] none (some 3))) (Same.refl Hb) hV3
        refine ⟨acc, s9 _ _ eD, sz1l _ (by omega), _, upd_same, by rw [List.length_append, la]; rfl, fun b' o e => ?_⟩
        rw [upd_ne (ne_of_none e hD)]
        exact s9 _ _ (sb _ _ e)
      rintro H3 ⟨acc, eD, la, s3⟩
      refine ⟨D, acc, rfl, .inl ⟨SqL.of eD, fun tl htl => ?_⟩⟩
      have s4 := Same.new (.tup acc) (s2.trans s3) htl
      refine ⟨L, ws, _, rfl, rfl, s4 _ _ eL, sz1l _ (by omega), _, _, _, rfl, upd_same, by rw [List.length_append, lw]; rfl, fun b o e => ?_⟩
      rw [upd_ne (ne_of_none e hL)]
      exact s4 _ _ (sc _ _ e)
    · rintro σ H5 ⟨v2, v3, ws, rfl, eL, lw, s5⟩
      refine ⟨_, rfl, _, rfl, _, rfl, L, ws, rfl, .inl ⟨SqL.of eL, fun tl htl => ?_⟩⟩
      have s6 := Same.new (.tup ws) s5 htl
      exact ⟨_, _, _, rfl, fun r H' s' _ hr' => k r _ H' (s6.trans s') hr'⟩
theorem scRewritingorigin : FnScope ["self", "work", "loop", "counter", "statement", "first", "place", "shift"] ["self", "work"] (defScope iRewritingorigin) := ⟨rfl, rfl, rfl, by decide +kernel, rfl, by decide +kernel, by decide +kernel⟩
theorem ok_origin {fd : FuncData} (F : FnM K "Rewriting" "origin" "Rewriting.origin" iRewritingorigin fd) (T : RwTx K mg) (dCkSt : Dx P w K mg base 5 "check_statement" ["program", "loop", "statement"] (spCkSt K)) : FnOk P w K mg base (L2.CX P w) 6 (He.ma K (CRw K) "origin") fd ["self", "work"] (spOrigin K) := by
  refine F.ok scRewritingorigin (fun vs H Q E h => ?_) (fun cdv A outer s H vs Q E hr h => ?_)
  · obtain ⟨r, w, b, a, o, lv, cv, sv, ls, rfl, _⟩ := h
    rfl
  · obtain ⟨r, w, b, a, o, lv, cv, sv, ls, rfl, ⟨dx, d, hr0⟩, hP, hw, k⟩ := h
    refine ⟨_, (pss_cons (ps_asg (pv 1) (pg_tup (by rfl) (pgs_cons (pg_name (i := 2) scRewritingorigin.nd rfl (.inl rfl)) (pgs_cons (pg_name (i := 3) scRewritingorigin.nd rfl (.inl rfl)) (pgs_cons (pg_name (i := 4) scRewritingorigin.nd rfl (.inl rfl)) pgs_nil)))))
      (pss_cons (ps_expr (pe_dx (K := K) dCkSt rfl hr (fun σ => passAt (takes_of rfl rfl rfl rfl) σ) (pa_cons (pe_fldK (K := K) rfl (pv 0)) (pa_cons (pv 2) (pa_cons (pv 4) pa_nil)))))
      (pss_cons ps_never
      (pss_one ps_never)))), ?_⟩
    refine ⟨_, rfl, w, _, rfl, SqT.of hw, rfl, _, _, rfl, _, _, rfl, _, _, rfl, rfl, ?_⟩
    refine norm (N := fun σ _ => _) (σ' := [some (.ref r), some (.ref w), some lv, some cv, some sv, none, none, none]) rfl ?_
    try dsimp only
    exact ⟨_, rfl, r, _, dx, _, _, rfl, hr0, T.clW, T.nWA, rwf_a _ _ _ _, _, rfl, _, rfl, a, lv, sv, ls, rfl, hP, k.to fun j ej hj k2 l hl => (k2 l hl).to fun _ _ _ z => z.elim⟩
theorem scRewritingplaces : FnScope ["self", "n", "work", "loop", "counter", "statement", "found", "place", "number", "shift", "turn", "_", "there"] ["self", "n", "work"] (defScope iRewritingplaces) := ⟨rfl, rfl, rfl, by decide +kernel, rfl, by decide +kernel, by decide +kernel⟩
theorem ok_places {fd : FuncData} (F : FnM K "Rewriting" "places" "Rewriting.places" iRewritingplaces fd) (T : RwTx K mg) (dCkSt : Dx P w K mg base 5 "check_statement" ["program", "loop", "statement"] (spCkSt K)) (dCkZ : Dx P w K mg base 4 "check_size" ["n"] (spCkZ K)) : FnOk P w K mg base (L2.CX P w) 6 (He.ma K (CRw K) "places") fd ["self", "n", "work"] (spPlaces K) := by
  refine F.ok scRewritingplaces (fun vs H Q E h => ?_) (fun cdv A outer s H vs Q E hr h => ?_)
  · obtain ⟨r, w, nv, b, a, o, lv, cv, sv, ls, rfl, _⟩ := h
    rfl
  · obtain ⟨r, w, nv, b, a, o, lv, cv, sv, ls, rfl, ⟨dx, d, hr0⟩, hP, hw, k⟩ := h
    refine ⟨_, (pss_cons (ps_asg (pv 2) (pg_tup (by rfl) (pgs_cons (pg_name (i := 3) scRewritingplaces.nd rfl (.inl rfl)) (pgs_cons (pg_name (i := 4) scRewritingplaces.nd rfl (.inl rfl)) (pgs_cons (pg_name (i := 5) scRewritingplaces.nd rfl (.inl rfl)) pgs_nil)))))
      (pss_cons (ps_expr (pe_dx (K := K) dCkSt rfl hr (fun σ => passAt (takes_of rfl rfl rfl rfl) σ) (pa_cons (pe_fldK (K := K) rfl (pv 0)) (pa_cons (pv 3) (pa_cons (pv 5) pa_nil)))))
      (pss_cons (ps_expr (pe_dx (K := K) dCkZ rfl hr (fun σ => passAt (takes_of rfl rfl rfl rfl) σ) (pa_cons (pv 1) pa_nil)))
      (pss_cons (ps_set (i := 6) scRewritingplaces.nd rfl (Or.inl rfl) (pe_lst pa_nil))
      (pss_cons ps_never
      (pss_one ps_never)))))), ?_⟩
    refine ⟨_, rfl, w, _, rfl, SqT.of hw, rfl, _, _, rfl, _, _, rfl, _, _, rfl, rfl, ?_⟩
    refine norm (N := fun σ _ => _) (σ' := [some (.ref r), some nv, some (.ref w), some lv, some cv, some sv, none, none, none, none, none, none, none]) rfl ?_
    try dsimp only
    refine ⟨_, rfl, r, _, dx, _, _, rfl, hr0, T.clW, T.nWB, rwf_b _ _ _ _, _, rfl, _, rfl, b, lv, sv, ls, rfl, hP, k.to fun j ej hj k2 l hl => (k2 l hl).to fun _ _ _ z => ?_⟩
    refine ⟨_, rfl, nv, rfl, ?_⟩
    rcases z with z | ⟨n, rfl, hn, z⟩
    · exact .inl z
    · exact .inr ⟨n, rfl, fun _ => z, fun q => absurd q hn⟩
end
end K49
set_option maxHeartbeats 6400000
namespace Z
open PySem PySem.Spec PyProof.Rows L2
end Z
set_option maxHeartbeats 4000000
namespace Z
open PySem PySem.Spec PyProof.Rows L2
section
variable {X : Cx} {K : PySem.W.Frag} {k : Nat} {f C : Addr} {fd : FuncData} {ps : List Str} {sp : Sp} {o e : Expr} {es : List Expr} {m : Str} {apos pos : Pos} {ta : TE} {t : TA} {pl : Sem Bool} {E : L2.St → XK}
/-- o.m(e, ..), m a method that may raise -/
theorem pe_methX (hK : X.K = K) (hx : ∀ σ, PassesAt (L2.CX X.prog X.w) X σ (E σ)) (he : PE X o ta) (c : Cls K C) (hm : Meth K C m f) (F : FnOk X.prog X.w K X.mg X.base (L2.CX X.prog X.w) k f fd ps sp) (hr : Room k X.A) (hb : Binds K fd ps []) (ha : PA X (e :: es) t)
    (ht : eval (.Call (.Attribute o m apos) (e :: es) [] pos) X.env = (do
      let ov ← eval o X.env
      standAt apos.atName
      let (f, first) ← holding [ov] (getMethod ov m pl)
      callWith pos f first (backTo pos (starEach (e :: es) X.env)) (backToKw pos (keywordEach [] X.env))) := by rfl)
    (hst : starEach (e :: es) X.env = (false, eval e X.env) :: starEach es X.env := by rfl) (hpl : (backTo pos (starEach es X.env)).any (·.1) = false := by rfl) :
    PE X (.Call (.Attribute o m apos) (e :: es) [] pos) (fun σ H Q => ta σ H fun x H1 => ∃ a dx fs, x = .ref a ∧ H1 a = some (.ins C dx fs) ∧ fs.lookup m = none ∧ t σ H1 fun vs H2 => sp (x :: vs) H2 Q (E σ)) := by
  subst hK
  refine ⟨fun pins s σ H Q I h => ?_⟩
  refine PySem.W.methodCall_KW (pl := pl) (thn (he.run pins s σ H _ I h) fun u s1 ⟨x, H1, I1, rx, a, dx, fs, ex, ea, l, q⟩ => ?_) ht
  subst ex
  obtain rfl : u = Value.ref a := rx
  refine getmeth_ok I1 ea c hm l ?_
  refine PySem.W.callWith_K (first := [.ref a]) (h₀ := X.base) I.ok.mod.kin hm.kp (thn (ha.run pos pins s1 σ H1 _ I1 q) fun us s2 ⟨vs, H2, I2, r, q2⟩ => ⟨I2.kIn, ?_⟩) hst hpl
  exact run_fnS (E := E) (us := .ref a :: us) (vs := .ref a :: vs) F hr hb (hx σ) I2 (.cons rfl r) q2
end
section
variable {X : Cx} {C : Addr} {bmB : List Value} {B newId initId : String}
/-- X(), an own exception class without own __init__, made to be raised -/
theorem pmk_own0 {x : Str} {p pos : Pos} (F : ExcBaseFacts B newId initId bmB) (q : PySem.W.excIn X.K C bmB newId = true) (gC : X.mg x = some (.ref C)) (kC : PySem.W.keepIn X.K (.ref C) = true) (r : Raises X (.ref C)) (hg : Gl X x)
    (hdb : (x == ("__debug__" : Str)) = false := by decide) : PMk X (.Call (.Name x p) [] [] pos) (fun _ H Q => Q (.ref C) none H) := by
  intro pins s σ H Q I h
  refine wpAny_Call_Name_kw (ld_glob I hg gC ?_ hdb)
  refine PySem.W.callWith_K0 I.kIn kC ?_
  show wpAny _ _ (call (.ref C) []) _ _ _
  obtain ⟨bm, N, nm, qn, bs, hdct, sn, sub, ab, col, dd, k0, k1, k2, k3, k5, mN, hC, hN, hni, T⟩ := exc_obj I.kIn q
  refine wpAny_call_exc_subT F T hC hN hni (fun h' a hm => ?_) (by show 0 ≤ sizeLine; exact Nat.zero_le _)
  exact mk_of I hm r h (I.hok.gone hm.new)
end
end Z
set_option maxHeartbeats 4000000
namespace K49
open PySem PySem.Spec PyProof.Rows L2 Z
structure OEx (K : PySem.W.Frag) (mg : Str → Option Value) : Prop where
  q : PySem.W.excIn K (He.ga K "OtherProgram") He.veBase "ValueError.__new__" = true
  gC : mg "OtherProgram" = some (.ref (He.ga K "OtherProgram"))
  kC : PySem.W.keepIn K (.ref (He.ga K "OtherProgram")) = true
  r1 : PySem.W.subIn K (.ref (He.ga K "OtherProgram")) (.type "BaseException") = some true
  r2 : PySem.W.typeIn K (.ref (He.ga K "OtherProgram")) = some (.type "type")
/-- two programs of as many loops that first differ in a step -/
def StepDiff (a b : List LpX) : Prop := a.length = b.length ∧ ∃ i l1 l2, a.take i = b.take i ∧ a[i]? = some l1 ∧ b[i]? = some l2 ∧ l1.t = l2.t ∧ l1.u = l2.u ∧ l1.S ≠ l2.S
def spSameP (K : PySem.W.Frag) : Sp := fun vs H Q _ => ∃ (v1 v2 : V) (ls1 ls2 : List LpX), vs = [v1, v2] ∧ PrXo K H v1 ls1 ∧ PrXo K H v2 ls2 ∧ PO ls1 ∧ PO ls2 ∧ StepDiff ls1 ls2 ∧ ∀ H', Same H H' → Q (.bl false) H'
def spThen (K : PySem.W.Frag) : Sp := fun vs H Q E => ∃ (r s : Addr) (b a o b2 a2 o2 : V) (ls1 ls2 : List LpX), vs = [.ref r, .ref s] ∧ RwAt K H r b a o ∧ RwAt K H s b2 a2 o2 ∧ PrXo K H a ls1 ∧ PrXo K H b2 ls2 ∧ PO ls1 ∧ PO ls2 ∧ StepDiff ls1 ls2 ∧ ∀ d H', Same H H' → E (.ref (He.ga K "OtherProgram")) d H'
section
variable {P : Program} {w : World} {K : PySem.W.Frag} {mg : Str → Option Value} {base : Heap}
theorem scRewritingthen : FnScope ["self", "other", "told", "row", "origin"] ["self", "other"] (defScope iRewritingthen) := ⟨rfl, rfl, rfl, by decide +kernel, rfl, by decide +kernel, by decide +kernel⟩
theorem ok_then {fd : FuncData} (F : FnM K "Rewriting" "then" "Rewriting.then" iRewritingthen fd) (T : RwTx K mg) (O : OEx K mg) (dSameP : Dn P w K mg base 10 "same_programs" ["one", "other"] (spSameP K)) : FnOk P w K mg base (L2.CX P w) 11 (He.ma K (CRw K) "then") fd ["self", "other"] (spThen K) := by
  refine F.ok scRewritingthen (fun vs H Q E h => ?_) (fun cdv A outer s H vs Q E hr h => ?_)
  · obtain ⟨r, s, b, a, o, b2, a2, o2, ls1, ls2, rfl, _⟩ := h
    rfl
  · obtain ⟨r, s, b, a, o, b2, a2, o2, ls1, ls2, rfl, ⟨d1, e1, h1⟩, ⟨d2, e2, h2⟩, p1, p2, po1, po2, df, k⟩ := h
    refine ⟨_, (pss_cons (ps_if (pt_not (pt_val (pe_dn dSameP hr (pa_cons (pe_fldK (K := K) rfl (pv 0)) (pa_cons (pe_fldK (K := K) rfl (pv 1)) pa_nil))))) (pss_one (ps_raise rfl (takes_of rfl rfl rfl rfl) (pmk_own0 PySem.F.excBase_ValueError O.q O.gC O.kC (raises_own O.r1 O.r2) rfl))) pss_nil)
      (pss_cons (ps_set (i := 2) scRewritingthen.nd rfl (Or.inl rfl) (pe_lst pa_nil))
      (pss_cons ps_never
      (pss_one ps_never)))), ?_⟩
    refine ⟨_, rfl, r, _, d1, _, _, rfl, h1, T.clW, T.nWA, rwf_a _ _ _ _, _, rfl, s, _, d2, _, _, rfl, h2, T.clW, T.nWB, rwf_b _ _ _ _, a, b2, ls1, ls2, rfl, p1, p2, po1, po2, df, fun H1 s1 => ⟨_, rfl, if_yes rfl ?_⟩⟩
    exact k _ H1 s1
end
end K49
set_option maxHeartbeats 4000000
namespace Z
open PySem PySem.Spec PyProof.Rows L2
mutual
inductive DL (P : Addr → Prop) (H : Hp) : V → PyData → Prop
  | non : DL P H .non .none
  | bl (b : Bool) : DL P H (.bl b) (.bool b)
  | int (i : Int) : DL P H (.int i) (.int i)
  | str (x : Str) : DL P H (.str x) (.str x)
  | tup {a : Addr} {xs : List V} {ds : List PyData} : H a = some (.tup xs) → DLs P H xs ds → DL P H (.ref a) (.tuple ds)
  | lst {a : Addr} {xs : List V} {ds : List PyData} : P a → H a = some (.lst xs) → DLs P H xs ds → DL P H (.ref a) (.list ds)
inductive DLs (P : Addr → Prop) (H : Hp) : List V → List PyData → Prop
  | nil : DLs P H [] []
  | cons {v : V} {vs : List V} {d : PyData} {ds : List PyData} : DL P H v d → DLs P H vs ds → DLs P H (v :: vs) (d :: ds)
end
/-- tuples stand, and the lists among P -/
def LS (P : Addr → Prop) (H H' : Hp) : Prop := (∀ a xs, H a = some (.tup xs) → H' a = some (.tup xs)) ∧ ∀ a xs, P a → H a = some (.lst xs) → H' a = some (.lst xs)
section
variable {P P' : Addr → Prop} {H H1 H2 H' : Hp} {D p : Addr} {o u : HO}
theorem LS.refl (P : Addr → Prop) (H : Hp) : LS P H H := ⟨fun _ _ e => e, fun _ _ _ e => e⟩
theorem LS.trans (a : LS P H H1) (b : LS P H1 H2) : LS P H H2 := ⟨fun c xs e => b.1 c xs (a.1 c xs e), fun c xs q e => b.2 c xs q (a.2 c xs q e)⟩
theorem LS.of (s : Same H H') : LS P H H' := ⟨fun a xs e => s a _ e, fun a xs _ e => s a _ e⟩
/-- a list that is not among P is changed -/
theorem LS.updL {xs : List V} (e : H D = some (.lst xs)) (n : ¬ P D) : LS P H (upd H D u) :=
  ⟨fun a ys ea => by
    rw [upd_ne (ne_of ea e (by intro z; cases z))]
    exact ea, fun a ys q ea => by
    rw [upd_ne (fun z : a = D => n (z ▸ q))]
    exact ea⟩
theorem LS.new (n : H D = none) : LS P H (upd H D u) := LS.of (Same.new _ (Same.refl H) n)
theorem LS.imp (s : LS P H H') (h : ∀ a, P' a → P a) : LS P' H H' := ⟨s.1, fun a xs q e => s.2 a xs (h a q) e⟩
end
mutual
theorem DL.mono {P P' : Addr → Prop} {H H' : Hp} (s : LS P H H') (h : ∀ a, P a → P' a) : ∀ (d : PyData) {v : V}, DL P H v d → DL P' H' v d
  | .none, _, z => by cases z; exact .non
  | .bool b, _, z => by cases z; exact .bl b
  | .int i, _, z => by cases z; exact .int i
  | .str x, _, z => by cases z; exact .str x
  | .list ds, _, z => by
    cases z with
    | lst p e r => exact .lst (h _ p) (s.2 _ _ p e) (DLs.mono s h ds r)
  | .tuple ds, _, z => by
    cases z with
    | tup e r => exact .tup (s.1 _ _ e) (DLs.mono s h ds r)
  | .dict _, _, z => by cases z
theorem DLs.mono {P P' : Addr → Prop} {H H' : Hp} (s : LS P H H') (h : ∀ a, P a → P' a) : ∀ (ds : List PyData) {vs : List V}, DLs P H vs ds → DLs P' H' vs ds
  | [], _, z => by cases z; exact .nil
  | d :: ds, _, z => by
    cases z with
    | cons a b => exact .cons (DL.mono s h d a) (DLs.mono s h ds b)
end
section
variable {P P' : Addr → Prop} {H H' : Hp} {v : V} {vs : List V}
theorem DL.to {d : PyData} (h : DL P H v d) (s : LS P H H') : DL P H' v d := DL.mono s (fun _ z => z) d h
theorem DLs.to {ds : List PyData} (h : DLs P H vs ds) (s : LS P H H') : DLs P H' vs ds := DLs.mono s (fun _ z => z) ds h
theorem DL.imp {d : PyData} (h : DL P H v d) (k : ∀ a, P a → P' a) : DL P' H v d := DL.mono (LS.refl P H) k d h
theorem DLs.imp {ds : List PyData} (h : DLs P H vs ds) (k : ∀ a, P a → P' a) : DLs P' H vs ds := DLs.mono (LS.refl P H) k ds h
theorem DL.same {d : PyData} (h : DL P H v d) (s : Same H H') : DL P H' v d := h.to (.of s)
theorem DLs.same {ds : List PyData} (h : DLs P H vs ds) (s : Same H H') : DLs P H' vs ds := h.to (.of s)
theorem DLs.len : ∀ {ds : List PyData} {vs : List V}, DLs P H vs ds → vs.length = ds.length
  | [], _, h => by cases h; rfl
  | d :: ds, _, h => by
    cases h with
    | cons a b => rw [List.length_cons, List.length_cons, DLs.len b]
theorem DLs.get : ∀ {ds : List PyData} {ws : List V} (i : Nat) (d : PyData), DLs P H ws ds → ds[i]? = some d → ∃ v, ws[i]? = some v ∧ DL P H v d
  | [], _, _, _, _, e => by cases e
  | _ :: _, _, 0, d', h, e => by
    cases h with
    | cons a b =>
      cases (Option.some.inj e)
      exact ⟨_, rfl, a⟩
  | _ :: ds, _, i + 1, d', h, e => by
    cases h with
    | cons a b => exact DLs.get i d' b (show ds[i]? = some d' from e)
theorem DLs.get' {ds : List PyData} {ws : List V} {i : Nat} {v : V} (h : DLs P H ws ds) (e : ws[i]? = some v) : ∃ d, ds[i]? = some d ∧ DL P H v d := by
  have hi : i < ds.length := by
    rw [← h.len]
    exact (List.getElem?_eq_some_iff.mp e).1
  obtain ⟨u, e2, k⟩ := DLs.get i _ h (List.getElem?_eq_getElem hi)
  rw [e] at e2
  cases e2
  exact ⟨_, List.getElem?_eq_getElem hi, k⟩
theorem DLs.map' {α : Type} {f : α → PyData} {as : List α} {ws : List V} {i : Nat} {v : V} (h : DLs P H ws (as.map f)) (e : ws[i]? = some v) : ∃ a, as[i]? = some a ∧ DL P H v (f a) := by
  obtain ⟨d, hd, k⟩ := h.get' e
  rw [List.getElem?_map] at hd
  obtain ⟨a, ha, rfl⟩ := Option.map_eq_some_iff.mp hd
  exact ⟨a, ha, k⟩
theorem DLs.app : ∀ {ds es : List PyData} {vs ws : List V}, DLs P H vs ds → DLs P H ws es → DLs P H (vs ++ ws) (ds ++ es)
  | [], _, _, _, h, k => by cases h; exact k
  | d :: ds, _, _, _, h, k => by
    cases h with
    | cons a b => exact .cons a (DLs.app b k)
theorem DLs.one {d : PyData} (h : DL P H v d) : DLs P H [v] [d] := .cons h .nil
theorem DLs.snoc {α : Type} {f : α → PyData} {as : List α} {a : α} (h : DLs P H vs (as.map f)) (k : DL P H v (f a)) : DLs P H (vs ++ [v]) ((as ++ [a]).map f) := by
  rw [List.map_append]
  exact h.app (.one k)
theorem DLs.take : ∀ {ds : List PyData} {vs : List V} (k : Nat), DLs P H vs ds → DLs P H (vs.take k) (ds.take k)
  | _, _, 0, _ => .nil
  | [], _, k + 1, h => by cases h; exact .nil
  | d :: ds, _, k + 1, h => by
    cases h with
    | cons a b => exact .cons a (DLs.take k b)
theorem DLs.drop : ∀ {ds : List PyData} {vs : List V} (k : Nat), DLs P H vs ds → DLs P H (vs.drop k) (ds.drop k)
  | _, _, 0, h => h
  | [], _, k + 1, h => by cases h; exact .nil
  | d :: ds, _, k + 1, h => by
    cases h with
    | cons a b => exact DLs.drop k b
theorem DL.tup' {ds : List PyData} (h : DL P H v (.tuple ds)) : ∃ a xs, v = .ref a ∧ H a = some (.tup xs) ∧ DLs P H xs ds := by
  cases h with
  | tup e r => exact ⟨_, _, rfl, e, r⟩
end
end Z
set_option maxHeartbeats 4000000
namespace K49
open PySem PySem.Spec PyProof.Rows L2 Z
/-- data that may be laid, so deep at most -/
def Lay (k : Nat) (d : PyData) : Prop := d.canLay0 = true ∧ d.depth ≤ k
theorem lay_all {k : Nat} : ∀ {ds : List PyData}, (∀ d ∈ ds, Lay k d) → PyData.canLayAll0 ds = true ∧ PyData.depthAll ds ≤ k
  | [], _ => ⟨rfl, Nat.zero_le _⟩
  | d :: ds, h => by
    have h1 := h d List.mem_cons_self
    have h2 := lay_all fun e he => h e (List.mem_cons_of_mem _ he)
    exact ⟨by simp only [PyData.canLayAll0, h1.1, h2.1, Bool.and_self], by
      have a := h1.2
      have b := h2.2
      simp only [PyData.depthAll]
      omega⟩
theorem Lay.tup {k : Nat} {ds : List PyData} (h : ∀ d ∈ ds, Lay k d) : Lay (k + 1) (.tuple ds) := by
  have := lay_all h
  exact ⟨by simpa [PyData.canLay0] using this.1, by
    have a := this.2
    simp only [PyData.depth]
    omega⟩
theorem Lay.mono {k l : Nat} {d : PyData} (h : Lay k d) (e : k ≤ l) : Lay l d := ⟨h.1, Nat.le_trans h.2 e⟩
theorem Lay.shaped {k : Nat} {d : PyData} (h : Lay k d) (e : k ≤ 64) : SeqAt.shaped d = true := by
  unfold SeqAt.shaped
  rw [h.1, decide_eq_true (Nat.le_trans h.2 e)]
  rfl
theorem lay_int (i : Int) : Lay 0 (.int i) := ⟨rfl, by simp [PyData.depth]⟩
theorem lay_non : Lay 0 .none := ⟨rfl, by simp [PyData.depth]⟩
theorem lay_str {x : Str} (h : PyData.strOk x = true) : Lay 0 (.str x) := ⟨by simpa [PyData.canLay0] using h, by simp [PyData.depth]⟩
/-- all stands but p and the tables of code -/
def KeepN (p : Addr) (H H' : Hp) : Prop := ∀ a o, a ≠ p → (∀ ps, o ≠ .tbl ps) → H a = some o → H' a = some o
theorem KeepN.refl (p : Addr) (H : Hp) : KeepN p H H := fun _ _ _ _ e => e
theorem KeepN.trans {p : Addr} {H H1 H2 : Hp} (a : KeepN p H H1) (b : KeepN p H1 H2) : KeepN p H H2 := fun c o n t e => b c o n t (a c o n t e)
theorem KeepN.of {p : Addr} {H H' : Hp} (k : Keep p H H') : KeepN p H H' := fun a o n _ e => k a o n e
theorem KeepN.same {p : Addr} {H H' : Hp} (s : Same H H') : KeepN p H H' := fun a o _ _ e => s a o e
theorem KeepN.ext {p : Addr} {H H' : Hp} (s : LamX.ExtN H H') : KeepN p H H' := fun a o _ t e => s a o e t
theorem PenC.ext {H H' : Hp} {p pc : Addr} {t : Nat} (h : PenC H p pc t) (s : LamX.ExtN H H') : PenC H' p pc t := by
  obtain ⟨ns, a, l, h1, h2, h3⟩ := h
  exact ⟨ns, a, l, s _ _ h1 (fun _ z => by cases z), s _ _ h2 (fun _ z => by cases z), h3⟩
/-- the tables stay what they are beside a pen -/
theorem tabs_keep {T : List (Addr × Str)} {H H' : Hp} {p pc : Addr} {t : Nat} (h : LamX.Tabs T H) (hp : PenC H p pc t) (k : Keep p H H') : LamX.Tabs T H' := fun q hq => by
  obtain ⟨ps, h1, h2, h3⟩ := h q hq
  refine ⟨ps, k _ _ (hp.ne h1 fun _ z => by cases z) h1, h2, fun pos cv hc => ?_⟩
  obtain ⟨c, e1, e2⟩ := h3 pos cv hc
  exact ⟨c, e1, k _ _ (hp.ne e2 fun kvs z => by unfold LamX.CodeO at z; cases z) e2⟩
section
variable {K : PySem.W.Frag} {H H' : Hp} {p : Addr} {o : HO}
theorem ms_keepN (e : H p = some o) (n : imm o = false) (k : KeepN p H H') : MS H H' := fun a w ea i => k a w (fun z => by
  rw [z, e] at ea
  cases ea
  rw [n] at i
  cases i) (fun ps z => by
  rw [z] at i
  cases i) ea
end
theorem PenC.ms {H H' : Hp} {p pc : Addr} {t : Nat} (h : PenC H p pc t) (k : KeepN p H H') : MS H H' := by
  obtain ⟨ns, a, l, h1, _⟩ := h
  exact ms_keepN h1 rfl k
/-- the def that gets a lambda -/
def RefDef (K : PySem.W.Frag) (mg : Str → Option Value) : Prop := ∃ (g : Addr) (oc : Value) (od : Option Addr) (dV kV doc pm : Value) (an : Option Addr) (cdv ct : Value) (osl : Array (Option Value)), mg "_law_refused" = some (.ref g) ∧ PySem.W.keepIn K (.ref g) = true ∧
  K.lookup g = some ⟨oc, od, .func (PySem.W.fnOf "_law_refused" "_law_refused" (defArgs s_law_refused) (defBody s_law_refused) (defScope s_law_refused) dV kV doc pm an cdv ct), osl⟩ ∧ PySem.W.codeIn K cdv "_law_refused" = true ∧ Binds K (PySem.W.fnOf "_law_refused" "_law_refused" (defArgs s_law_refused) (defBody s_law_refused) (defScope s_law_refused) dV kV doc pm an cdv ct) ["_law_call"] []
/-- a def that makes lambdas: its code object, its table -/
structure MkL (base : Heap) (mg : Str → Option Value) (TS : List (Addr × Str)) (q : Str) (c T : Addr) : Prop where
  tb : LamX.TabB base mg c T
  mem : (T, q) ∈ TS
  uni : ∀ p ∈ TS, p.1 = T → p.2 = q
section
variable {P : Program} {w : World} {K : PySem.W.Frag} {mg : Str → Option Value} {base : Heap}
theorem okC {x : Str} {st : Stmt} {f c : Addr} {fd : FuncData} {CX : CXT} {N ps : List Str} {k : Nat} {sp : Sp} (F : FnP K x st f fd) (hc : fd.code = .ref c) (S : FnScope N ps (defScope st)) (len : ∀ vs H Q E, sp vs H Q E → vs.length = ps.length)
    (go : ∀ (A : Around) (outer : List Env) (s : Shared) (H : Hp) (vs : List V) (Q : VK) (E : XK), Room k (A.deeper (envOfC x (defScope st) s.heap.objs.size f (.ref c))) → sp vs H Q E → ∃ t, PSs (cxOf CX P w K mg base N x (defScope st) f (.ref c) A outer s H E) (defBody st) t ∧ t { nx := fun _ H' => Q .non H', rt := Q } (L2.start N vs) H) :
    FnOk P w K mg base CX (k + 1) f fd ps sp := by
  obtain ⟨oc, od, dV, kV, doc, pm, an, cdv, ct, osl, e, lk, hcd, _⟩ := F.ex
  subst e
  obtain rfl : cdv = .ref c := hc
  exact fn_of lk hcd S len go
end
theorem Lay.lst {k : Nat} {ds : List PyData} (h : ∀ d ∈ ds, Lay k d) : Lay (k + 1) (.list ds) := by
  have := lay_all h
  exact ⟨by simpa [PyData.canLay0] using this.1, by
    have a := this.2
    simp only [PyData.depth]
    omega⟩
section
variable {K : PySem.W.Frag} {TS : List (Addr × Str)} {t : XK → TE} {tt : TE} {σ : L2.St} {H : Hp} {x : Str} {fs : List Str} {tag : V} {vs : List V} {ds : List PyData}
theorem tsame_ext {H H' : Hp} (e : LamX.ExtN H H') : TSame H H' := fun a xs h => e _ _ h fun _ z => by cases z
abbrev refT : List (Str × List Str × V) := [("NoLoop", ["loop"], .int 1), ("Unlike", ["loop"], .int 0), ("NoStatement", ["loop", "statement"], .str "statement"), ("BadSize", ["n"], .str "size"), ("BadMany", ["many"], .str "many"), ("TooMany", ["what", "many", "limit"], .str "too many"), ("BadNumber", ["what", "number"], .str "number")]
theorem refuse_eq {Q : VK} (tabs : LamX.Tabs TS H) (call : ∀ (H1 : Hp) (R : VK) (E : XK), LamX.ExtN H H1 → RzV K x fs vs H1 E → t E σ H1 R) (mem : (x, fs, tag) ∈ refT) (lv : vs.length = fs.length)
    (tup : ∀ (H2 : Hp) (R : VK), LamX.ExtN H H2 → (∀ u, H2 u = none → R (.ref u) (upd H2 u (.tup (tag :: vs)))) → tt σ H2 R) (dv : DTs H (tag :: vs) ds) (sh : SeqAt.shaped (.tuple ds) = true)
    (k : ∀ H3, LamX.ExtN H H3 → LamX.Tabs TS H3 → Q (.bl true) H3) : tOp (rEqD K) (LamX.tLam TS (TTref K) t) tt σ H Q := by
  refine ⟨tabs, fun H1 e1 tb1 R E _ hE => call H1 R E e1 fun D H2 s2 hd => hE _ _ _ (.inl ⟨x, fs, tag, vs, D, mem, rfl, rfl, hd, lv, fun u hu => ?_⟩)⟩
  have s3 := Same.new (.tup (tag :: vs)) s2 hu
  have e3 : LamX.ExtN H (upd H2 u (.tup (tag :: vs))) := e1.trans (LamX.ExtN.of fun b o e => s3 _ _ e)
  refine tup _ _ e3 fun u2 hu2 => ?_
  have s4 := Same.new (.tup (tag :: vs)) (Same.refl (upd H2 u (.tup (tag :: vs)))) hu2
  have e4 := e3.trans (LamX.ExtN.of fun b o e => s4 _ _ e)
  refine ⟨_, _, DT.dp _ (.tup (s4 _ _ upd_same) (dv.to (tsame_ext e4))), DT.dp _ (.tup upd_same (dv.to (tsame_ext e4))), sh, sh, ?_⟩
  rw [SeqAt.eqv_refl _ (SeqAt.canLay_of_shaped sh)]
  exact k _ e4 ((tb1.ext fun b o e => s3 _ _ e).ext fun b o e => s4 _ _ e)
end
end K49
set_option maxHeartbeats 4000000
namespace K49
open PySem PySem.Spec PyProof.Rows L2 Z
theorem ms_ext {H H' : Hp} (s : LamX.ExtN H H') : MS H H' := fun a u e i => s _ _ e fun ps z => by
  rw [z] at i
  cases i
/-- what is no number of n loops -/
structure BadL (H : Hp) (n : Nat) (v : V) (d : PyData) : Prop where
  dt : DT H v d
  lay : Lay 1 d
  bad : IntV H v false ∨ ∃ a : Int, v = .int a ∧ ¬ (0 ≤ a ∧ a ≤ (n : Int) - 1)
theorem BadL.to {H H' : Hp} {n : Nat} {v : V} {d : PyData} (b : BadL H n v d) (e : TSame H H') : BadL H' n v d := by
  refine ⟨b.dt.to e, b.lay, b.bad.imp (fun h => ?_) id⟩
  cases h with
  | bl b0 => exact .bl b0
  | str x => exact .str x
  | non => exact .non
  | tup h => exact .tup (e _ _ h)
theorem BadL.arg {K : PySem.W.Frag} {H : Hp} {E : XK} {n : Nat} {v : V} {d : PyData} {G : Nat → Prop} (b : BadL H n v d) (rz : RzV K "NoLoop" ["loop"] [v] H E) : LpArg K H E v n G := by
  rcases b.bad with h | ⟨a, rfl, hn⟩
  · exact .inl ⟨h, rz⟩
  · exact .inr ⟨a, rfl, fun _ => rz, fun j ej hj => absurd (show 0 ≤ a ∧ a ≤ (n : Int) - 1 by omega) hn⟩
theorem tag1_sh {d : PyData} (h : Lay 1 d) : SeqAt.shaped (.tuple [.int 1, d]) = true := (Lay.tup fun e he => by
  simp only [List.mem_cons, List.not_mem_nil, or_false] at he
  rcases he with rfl | rfl
  · exact (lay_int 1).mono (by decide)
  · exact h : Lay 2 (.tuple [.int 1, d])).shaped (by decide)
theorem tabs_upd {T : List (Addr × Str)} {H : Hp} {a : Addr} {xs : List V} {o : HO} (h : LamX.Tabs T H) (e : H a = some (.lst xs)) : LamX.Tabs T (upd H a o) := fun q hq => by
  obtain ⟨ps, h1, h2, h3⟩ := h q hq
  refine ⟨ps, by rw [upd_ne (fun z => by rw [z, e] at h1; cases h1)]; exact h1, h2, fun pos cv hc => ?_⟩
  obtain ⟨c, e1, e2⟩ := h3 pos cv hc
  exact ⟨c, e1, by rw [upd_ne (fun z => by rw [z, e] at e2; unfold LamX.CodeO at e2; cases e2)]; exact e2⟩
/-- found.append(_law_refused(lambda: ..) == (..)) -/
theorem app_ref {K : PySem.W.Frag} {TS : List (Addr × Str)} {t : XK → TE} {tt : TE} {σ : L2.St} {H : Hp} {D : Ends} {x : Str} {fs : List Str} {tag : V} {vs bs : List V} {ds : List PyData} {lf : Addr} (hσ : σ[2]? = some (some (V.ref lf))) (e : H lf = some (.lst bs)) (lb : bs.length < 900)
    (tabs : LamX.Tabs TS H) (call : ∀ (H1 : Hp) (R : VK) (E : XK), LamX.ExtN H H1 → RzV K x fs vs H1 E → t E σ H1 R) (mem : (x, fs, tag) ∈ refT) (lv : vs.length = fs.length)
    (tup : ∀ (H2 : Hp) (R : VK), LamX.ExtN H H2 → (∀ u, H2 u = none → R (.ref u) (upd H2 u (.tup (tag :: vs)))) → tt σ H2 R) (dv : DTs H (tag :: vs) ds) (sh : SeqAt.shaped (.tuple ds) = true)
    (k : ∀ H3, KeepN lf H H3 → H3 lf = some (.lst (bs ++ [.bl true])) → LamX.Tabs TS H3 → D.nx σ H3) : tDrop (tBM K "list" rAppend (tVar 2) (tCons (tOp (rEqD K) (LamX.tLam TS (TTref K) t) tt) tNil)) D σ H := by
  refine ⟨_, hσ, .inl ⟨rfl, _, SqL.of e⟩, refuse_eq tabs call mem lv tup dv sh fun H3 e3 tb3 => ?_⟩
  have e4 := e3 _ _ e fun _ z => by cases z
  refine ⟨lf, bs, _, rfl, rfl, e4, sz1l _ (by omega), k _ (fun a o n t h => ?_) upd_same (tabs_upd tb3 e4)⟩
  rw [upd_ne n]
  exact e3 _ _ h t
def spLoopsR (K : PySem.W.Frag) (TS : List (Addr × Str)) : Sp := fun vs H Q _ => ∃ (v : V) (ls : List LpX), vs = [v, .int (ls.length : Nat)] ∧ PrXo K H v ls ∧ PO ls ∧ 1 ≤ ls.length ∧ LamX.Tabs TS H ∧ ∀ H', LamX.ExtN H H' → LamX.Tabs TS H' → Q (.bl true) H'
section
variable {P : Program} {w : World} {K : PySem.W.Frag} {mg : Str → Option Value} {base : Heap}
theorem sc_law_are_loops_right : FnScope ["_law_program", "_law_many", "_law_found", "_law_loop"] ["_law_program", "_law_many"] (defScope s_law_are_loops_right) := ⟨rfl, rfl, rfl, by decide +kernel, rfl, by decide +kernel, by decide +kernel⟩
theorem ok_loopsR {f c TT : Addr} {fd : FuncData} {TS : List (Addr × Str)} (F : FnP K "_law_are_loops_right" s_law_are_loops_right f fd) (hcode : fd.code = .ref c) (M : MkL base mg TS "_law_are_loops_right.<locals>.<lambda>" c TT) (RD : RefDef K mg) (R : RfTx K mg) (T : RwTx K mg) (dSwL : Dx P w K mg base 11 "swap_loops" ["program", "loop"] (spSwL K)) (dSwS : Dx P w K mg base 11 "swap_statements" ["program", "loop", "statement"] (spSwS K)) (dTurnL : Dx P w K mg base 11 "turn_loop" ["program", "loop"] (spTurn K)) (dJoin : Dx P w K mg base 11 "join_loops" ["program", "loop"] (spJoin K)) (dSplit : Dx P w K mg base 11 "split_loop" ["program", "loop", "statement"] (spSplit K)) (dCut : Dx P w K mg base 11 "cut_loop" ["program", "loop", "place"] (spCut K)) (dDeal : Dx P w K mg base 11 "deal_loop" ["program", "loop", "many"] (spDeal K)) (dUnr : Dx P w K mg base 11 "unroll_loop" ["program", "loop", "many"] (spUnr K)) :
    FnOk P w K mg base CX0 16 f fd ["_law_program", "_law_many"] (spLoopsR K TS) := by
  refine okC F hcode sc_law_are_loops_right (fun vs H Q E h => ?_) (fun A outer s H vs Q E hr h => ?_)
  · obtain ⟨v, ls, rfl, _⟩ := h
    rfl
  · obtain ⟨v, ls, rfl, hP, po, l1, tabs, k⟩ := h
    obtain ⟨g, oc, od, dV, kV, doc, pm, an, cdv, ct, osl, Rm, Rk, Rl, Rc, Rb⟩ := RD
    have TB := M.tb
    have hmT := M.mem
    have hu := M.uni
    refine ⟨_, PSs.nox (pss_cons (ps_set (i := 2) sc_law_are_loops_right.nd rfl (Or.inl rfl) (pe_lst pa_nil))
      (pss_cons (ps_for PassesOwn.never rfl (pi_list (pe_lst (pa_cons (pe_un un_neg pe_int) (pa_cons (pv 1) (pa_cons (pe_op op_pow pe_int pe_int) (pa_cons pe_non (pa_cons pe_str (pa_cons pe_bl (pa_cons (pe_tup (pa_cons pe_int pa_nil)) pa_nil))))))))) (pg_name (i := 3) sc_law_are_loops_right.nd rfl (.inr rfl)) (pss_cons (ps_expr (pe_bm PySem.F.plainAttrs_list PySem.F.slot_list_append PySem.F.type_list_append mt_append (pv 2) (pa_cons (pe_cmpR (op_eqD hr.units) (LamX.pe_lamcall (T := TS) (TT := TTref K) (a := "_law_call") (k := 12) rfl Rm Rk Rl Rc Rb sc_law_refused rfl (.inl rfl) (ref_gives R) TB rfl hmT hu (hr.mono (by decide)) (LamX.lamS_by (sc := defScope s_law_are_loops_right) (by decide +kernel)) rfl (fun _ _ _ _ _ => rfl) (fun _ _ _ _ _ _ _ hr2 => (pe_dx (K := K) dSwL rfl hr2 (fun σ => passAt (takes_of rfl rfl rfl rfl) σ) (pa_cons (pv 0) (pa_cons (pv 3) pa_nil))))) (pe_tup (pa_cons pe_int (pa_cons (pv 3) pa_nil))) (nomark _)) pa_nil)))
      (pss_cons (ps_expr (pe_bm PySem.F.plainAttrs_list PySem.F.slot_list_append PySem.F.type_list_append mt_append (pv 2) (pa_cons (pe_cmpR (op_eqD hr.units) (LamX.pe_lamcall (T := TS) (TT := TTref K) (a := "_law_call") (k := 12) rfl Rm Rk Rl Rc Rb sc_law_refused rfl (.inl rfl) (ref_gives R) TB rfl hmT hu (hr.mono (by decide)) (LamX.lamS_by (sc := defScope s_law_are_loops_right) (by decide +kernel)) rfl (fun _ _ _ _ _ => rfl) (fun _ _ _ _ _ _ _ hr2 => (pe_dx (K := K) dSwS rfl hr2 (fun σ => passAt (takes_of rfl rfl rfl rfl) σ) (pa_cons (pv 0) (pa_cons (pv 3) (pa_cons pe_int pa_nil)))))) (pe_tup (pa_cons pe_int (pa_cons (pv 3) pa_nil))) (nomark _)) pa_nil)))
      (pss_cons (ps_expr (pe_bm PySem.F.plainAttrs_list PySem.F.slot_list_append PySem.F.type_list_append mt_append (pv 2) (pa_cons (pe_cmpR (op_eqD hr.units) (LamX.pe_lamcall (T := TS) (TT := TTref K) (a := "_law_call") (k := 12) rfl Rm Rk Rl Rc Rb sc_law_refused rfl (.inl rfl) (ref_gives R) TB rfl hmT hu (hr.mono (by decide)) (LamX.lamS_by (sc := defScope s_law_are_loops_right) (by decide +kernel)) rfl (fun _ _ _ _ _ => rfl) (fun _ _ _ _ _ _ _ hr2 => (pe_dx (K := K) dTurnL rfl hr2 (fun σ => passAt (takes_of rfl rfl rfl rfl) σ) (pa_cons (pv 0) (pa_cons (pv 3) pa_nil))))) (pe_tup (pa_cons pe_int (pa_cons (pv 3) pa_nil))) (nomark _)) pa_nil)))
      (pss_cons (ps_expr (pe_bm PySem.F.plainAttrs_list PySem.F.slot_list_append PySem.F.type_list_append mt_append (pv 2) (pa_cons (pe_cmpR (op_eqD hr.units) (LamX.pe_lamcall (T := TS) (TT := TTref K) (a := "_law_call") (k := 12) rfl Rm Rk Rl Rc Rb sc_law_refused rfl (.inl rfl) (ref_gives R) TB rfl hmT hu (hr.mono (by decide)) (LamX.lamS_by (sc := defScope s_law_are_loops_right) (by decide +kernel)) rfl (fun _ _ _ _ _ => rfl) (fun _ _ _ _ _ _ _ hr2 => (pe_dx (K := K) dJoin rfl hr2 (fun σ => passAt (takes_of rfl rfl rfl rfl) σ) (pa_cons (pv 0) (pa_cons (pv 3) pa_nil))))) (pe_tup (pa_cons pe_int (pa_cons (pv 3) pa_nil))) (nomark _)) pa_nil)))
      (pss_cons (ps_expr (pe_bm PySem.F.plainAttrs_list PySem.F.slot_list_append PySem.F.type_list_append mt_append (pv 2) (pa_cons (pe_cmpR (op_eqD hr.units) (LamX.pe_lamcall (T := TS) (TT := TTref K) (a := "_law_call") (k := 12) rfl Rm Rk Rl Rc Rb sc_law_refused rfl (.inl rfl) (ref_gives R) TB rfl hmT hu (hr.mono (by decide)) (LamX.lamS_by (sc := defScope s_law_are_loops_right) (by decide +kernel)) rfl (fun _ _ _ _ _ => rfl) (fun _ _ _ _ _ _ _ hr2 => (pe_dx (K := K) dSplit rfl hr2 (fun σ => passAt (takes_of rfl rfl rfl rfl) σ) (pa_cons (pv 0) (pa_cons (pv 3) (pa_cons pe_int pa_nil)))))) (pe_tup (pa_cons pe_int (pa_cons (pv 3) pa_nil))) (nomark _)) pa_nil)))
      (pss_cons (ps_expr (pe_bm PySem.F.plainAttrs_list PySem.F.slot_list_append PySem.F.type_list_append mt_append (pv 2) (pa_cons (pe_cmpR (op_eqD hr.units) (LamX.pe_lamcall (T := TS) (TT := TTref K) (a := "_law_call") (k := 12) rfl Rm Rk Rl Rc Rb sc_law_refused rfl (.inl rfl) (ref_gives R) TB rfl hmT hu (hr.mono (by decide)) (LamX.lamS_by (sc := defScope s_law_are_loops_right) (by decide +kernel)) rfl (fun _ _ _ _ _ => rfl) (fun _ _ _ _ _ _ _ hr2 => (pe_dx (K := K) dCut rfl hr2 (fun σ => passAt (takes_of rfl rfl rfl rfl) σ) (pa_cons (pv 0) (pa_cons (pv 3) (pa_cons pe_int pa_nil)))))) (pe_tup (pa_cons pe_int (pa_cons (pv 3) pa_nil))) (nomark _)) pa_nil)))
      (pss_cons (ps_expr (pe_bm PySem.F.plainAttrs_list PySem.F.slot_list_append PySem.F.type_list_append mt_append (pv 2) (pa_cons (pe_cmpR (op_eqD hr.units) (LamX.pe_lamcall (T := TS) (TT := TTref K) (a := "_law_call") (k := 12) rfl Rm Rk Rl Rc Rb sc_law_refused rfl (.inl rfl) (ref_gives R) TB rfl hmT hu (hr.mono (by decide)) (LamX.lamS_by (sc := defScope s_law_are_loops_right) (by decide +kernel)) rfl (fun _ _ _ _ _ => rfl) (fun _ _ _ _ _ _ _ hr2 => (pe_dx (K := K) dDeal rfl hr2 (fun σ => passAt (takes_of rfl rfl rfl rfl) σ) (pa_cons (pv 0) (pa_cons (pv 3) (pa_cons pe_int pa_nil)))))) (pe_tup (pa_cons pe_int (pa_cons (pv 3) pa_nil))) (nomark _)) pa_nil)))
      (pss_one (ps_expr (pe_bm PySem.F.plainAttrs_list PySem.F.slot_list_append PySem.F.type_list_append mt_append (pv 2) (pa_cons (pe_cmpR (op_eqD hr.units) (LamX.pe_lamcall (T := TS) (TT := TTref K) (a := "_law_call") (k := 12) rfl Rm Rk Rl Rc Rb sc_law_refused rfl (.inl rfl) (ref_gives R) TB rfl hmT hu (hr.mono (by decide)) (LamX.lamS_by (sc := defScope s_law_are_loops_right) (by decide +kernel)) rfl (fun _ _ _ _ _ => rfl) (fun _ _ _ _ _ _ _ hr2 => (pe_dx (K := K) dUnr rfl hr2 (fun σ => passAt (takes_of rfl rfl rfl rfl) σ) (pa_cons (pv 0) (pa_cons (pv 3) (pa_cons pe_int pa_nil)))))) (pe_tup (pa_cons pe_int (pa_cons (pv 3) pa_nil))) (nomark _)) pa_nil))))))))))))
      (pss_cons (ps_expr (pe_bm PySem.F.plainAttrs_list PySem.F.slot_list_append PySem.F.type_list_append mt_append (pv 2) (pa_cons (pe_cmpR (op_eqD hr.units) (LamX.pe_lamcall (T := TS) (TT := TTref K) (a := "_law_call") (k := 12) rfl Rm Rk Rl Rc Rb sc_law_refused rfl (.inl rfl) (ref_gives R) TB rfl hmT hu (hr.mono (by decide)) (LamX.lamS_by (sc := defScope s_law_are_loops_right) (by decide +kernel)) rfl (fun _ _ _ _ _ => rfl) (fun _ _ _ _ _ _ _ hr2 => (pe_dx (K := K) dSwL rfl hr2 (fun σ => passAt (takes_of rfl rfl rfl rfl) σ) (pa_cons (pv 0) (pa_cons (pe_op op_sub (pv 1) pe_int) pa_nil))))) (pe_tup (pa_cons pe_int (pa_cons (pe_op op_sub (pv 1) pe_int) pa_nil))) (nomark _)) pa_nil)))
      (pss_cons (ps_expr (pe_bm PySem.F.plainAttrs_list PySem.F.slot_list_append PySem.F.type_list_append mt_append (pv 2) (pa_cons (pe_cmpR (op_eqD hr.units) (LamX.pe_lamcall (T := TS) (TT := TTref K) (a := "_law_call") (k := 12) rfl Rm Rk Rl Rc Rb sc_law_refused rfl (.inl rfl) (ref_gives R) TB rfl hmT hu (hr.mono (by decide)) (LamX.lamS_by (sc := defScope s_law_are_loops_right) (by decide +kernel)) rfl (fun _ _ _ _ _ => rfl) (fun _ _ _ _ _ _ _ hr2 => (pe_dx (K := K) dJoin rfl hr2 (fun σ => passAt (takes_of rfl rfl rfl rfl) σ) (pa_cons (pv 0) (pa_cons (pe_op op_sub (pv 1) pe_int) pa_nil))))) (pe_tup (pa_cons pe_int (pa_cons (pe_op op_sub (pv 1) pe_int) pa_nil))) (nomark _)) pa_nil)))
      (pss_one (ps_ret (pe_cmpR op_notIn_seq pe_bl (pv 2) (by with_unfolding_all rfl)))))))), ?_⟩
    refine ⟨sz0, fun lf hlf => ?_⟩
    have s1 := Same.new (.lst []) (Same.refl H) hlf
    refine normG (σ' := [some v, some (.int (ls.length : Nat)), some (.ref lf), none]) rfl ?_
    try dsimp only
    refine ⟨_, rfl, _, rfl, _, _, rfl, rfl, ⟨by decide, by decide, by decide⟩, sz1l _ (by show 0 < 1000; decide), fun t0 ht0 => ⟨sz1l _ (by show 6 < 1000; decide), fun L hL => ?_⟩⟩
    obtain ⟨Hl, eHl⟩ : ∃ X, X = upd (upd (upd H lf (.lst [])) t0 (.tup [.int 0])) L (.lst [.int (-1), .int (ls.length : Nat), .int ((10 : Int) ^ (30 : Int).toNat), .non, .str "0", .bl true, .ref t0]) := ⟨_, rfl⟩
    have s2 := Same.new (.tup [.int 0]) (Same.refl (upd H lf (.lst []))) ht0
    have s3 := Same.new (.lst [.int (-1), .int (ls.length : Nat), .int ((10 : Int) ^ (30 : Int).toNat), .non, .str "0", .bl true, .ref t0]) (Same.refl (upd (upd H lf (.lst [])) t0 (.tup [.int 0]))) hL
    have eFl : Hl lf = some (.lst []) := by rw [eHl]; exact s3 _ _ (s2 _ _ upd_same)
    have et0 : Hl t0 = some (.tup [.int 0]) := by rw [eHl]; exact s3 _ _ upd_same
    have eL : Hl L = some (.lst [.int (-1), .int (ls.length : Nat), .int ((10 : Int) ^ (30 : Int).toNat), .non, .str "0", .bl true, .ref t0]) := by rw [eHl]; exact upd_same
    have sl : Same H Hl := by rw [eHl]; exact s1.trans (s2.trans s3)
    have nLf : L ≠ lf := fun z => by
      rw [z, s2 _ _ upd_same] at hL
      cases hL
    have hPl := hP.same sl
    have tl : LamX.Tabs TS Hl := tabs.ext fun b o e => sl _ _ e
    have e30 : (10 : Int) ^ (30 : Int).toNat = 1000000000000000000000000000000 := by decide +kernel
    have l6 := po.1
    have bads : ∀ (i : Nat) (x : V), ([.int (-1), .int (ls.length : Nat), .int ((10 : Int) ^ (30 : Int).toNat), .non, .str "0", .bl true, .ref t0] : List V)[i]? = some x → ∃ d, BadL Hl ls.length x d := fun i x hx => by
      match i, hx with
      | 0, hx => cases hx; exact ⟨_, .int _, (lay_int _).mono (by decide), .inr ⟨_, rfl, fun z => absurd z.1 (by decide)⟩⟩
      | 1, hx => cases hx; exact ⟨_, .int _, (lay_int _).mono (by decide), .inr ⟨_, rfl, fun z => by omega⟩⟩
      | 2, hx => cases hx; exact ⟨_, .int _, (lay_int _).mono (by decide), .inr ⟨_, rfl, fun z => by rw [e30] at z; omega⟩⟩
      | 3, hx => cases hx; exact ⟨_, .non, lay_non.mono (by decide), .inl .non⟩
      | 4, hx => cases hx; exact ⟨_, .str _, (lay_str (by decide +kernel)).mono (by decide), .inl (.str _)⟩
      | 5, hx => cases hx; exact ⟨.bool true, .bl _, ⟨rfl, by simp [PyData.depth]⟩, .inl (.bl _)⟩
      | 6, hx => cases hx; exact ⟨.tuple [.int 0], .tup et0 (.cons (.int 0) .nil), Lay.tup fun e he => by rw [List.mem_singleton.mp he]; exact lay_int _, .inl (.tup et0)⟩
    have ts : ∀ {H' : Hp}, KeepN lf Hl H' → TSame Hl H' := fun k a xs e => k a _ (fun z => by
      rw [z, eFl] at e
      cases e) (fun _ z => by cases z) e
    rw [← eHl]
    refine ⟨L, rfl, ⟨_, SqL.of eL⟩, ?_⟩
    refine for_list (K := K) (xs := [.int (-1), .int (ls.length : Nat), .int ((10 : Int) ^ (30 : Int).toNat), .non, .str "0", .bl true, .ref t0]) (fun i σ Hc => ∃ (v3 : Option V), σ = [some v, some (.int (ls.length : Nat)), some (.ref lf), v3] ∧ Hc lf = some (.lst (List.replicate (8 * i) (.bl true))) ∧ i ≤ 7 ∧ KeepN lf Hl Hc ∧ LamX.Tabs TS Hc) ⟨_, rfl, eFl, by omega, KeepN.refl _ _, tl⟩ (fun i σ' H' _ ⟨_, _, _, _, z, _⟩ => SqL.of (z _ _ nLf (fun _ z => by cases z) eL)) ?_ ?_
    · rintro i x σ Hc hx ⟨v3, rfl, e00, i7, k0, t0_⟩
      obtain ⟨d, bl⟩ := bads i x hx
      have i6 : i < 7 := (List.getElem?_eq_some_iff.mp hx).1
      have lb : (List.replicate (8 * i) (V.bl true)).length = 8 * i := List.length_replicate
      refine normG (σ' := [some v, some (.int (ls.length : Nat)), some (.ref lf), some x]) rfl ?_
      try dsimp only
      refine app_ref (x := "NoLoop") (fs := ["loop"]) (tag := .int 1) (vs := [x]) (ds := [.int 1, d]) rfl e00 (by first | omega | (simp only [List.length_append, List.length_cons, List.length_nil]; omega)) t0_ (fun H1 R1 E1 e1 rz => ⟨_, rfl, _, rfl, v, x, ls, rfl, (hPl.ms (ms_keepN eFl rfl k0)).ms (ms_ext e1), ((bl.to (ts k0)).to (tsame_ext e1)).arg rz⟩) (by simp) rfl (fun H2 R2 e2 key => ⟨_, rfl, sz2, key⟩) (.cons (.int 1) (.cons (bl.to (ts k0)).dt .nil)) (tag1_sh bl.lay) fun H1_ kk e01 t1 => ?_
      have k1 := k0.trans kk
      clear kk
      refine app_ref (x := "NoLoop") (fs := ["loop"]) (tag := .int 1) (vs := [x]) (ds := [.int 1, d]) rfl e01 (by first | omega | (simp only [List.length_append, List.length_cons, List.length_nil]; omega)) t1 (fun H1 R1 E1 e1 rz => ⟨_, rfl, _, rfl, v, x, .int 99, ls, rfl, (hPl.ms (ms_keepN eFl rfl k1)).ms (ms_ext e1), po, ((bl.to (ts k1)).to (tsame_ext e1)).arg rz⟩) (by simp) rfl (fun H2 R2 e2 key => ⟨_, rfl, sz2, key⟩) (.cons (.int 1) (.cons (bl.to (ts k1)).dt .nil)) (tag1_sh bl.lay) fun H2_ kk e02 t2 => ?_
      have k2 := k1.trans kk
      clear kk
      refine app_ref (x := "NoLoop") (fs := ["loop"]) (tag := .int 1) (vs := [x]) (ds := [.int 1, d]) rfl e02 (by first | omega | (simp only [List.length_append, List.length_cons, List.length_nil]; omega)) t2 (fun H1 R1 E1 e1 rz => ⟨_, rfl, _, rfl, v, x, ls, rfl, (hPl.ms (ms_keepN eFl rfl k2)).ms (ms_ext e1), ((bl.to (ts k2)).to (tsame_ext e1)).arg rz⟩) (by simp) rfl (fun H2 R2 e2 key => ⟨_, rfl, sz2, key⟩) (.cons (.int 1) (.cons (bl.to (ts k2)).dt .nil)) (tag1_sh bl.lay) fun H3_ kk e03 t3 => ?_
      have k3 := k2.trans kk
      clear kk
      refine app_ref (x := "NoLoop") (fs := ["loop"]) (tag := .int 1) (vs := [x]) (ds := [.int 1, d]) rfl e03 (by first | omega | (simp only [List.length_append, List.length_cons, List.length_nil]; omega)) t3 (fun H1 R1 E1 e1 rz => ⟨_, rfl, _, rfl, v, x, ls, rfl, (hPl.ms (ms_keepN eFl rfl k3)).ms (ms_ext e1), po, ((bl.to (ts k3)).to (tsame_ext e1)).arg rz⟩) (by simp) rfl (fun H2 R2 e2 key => ⟨_, rfl, sz2, key⟩) (.cons (.int 1) (.cons (bl.to (ts k3)).dt .nil)) (tag1_sh bl.lay) fun H4_ kk e04 t4 => ?_
      have k4 := k3.trans kk
      clear kk
      refine app_ref (x := "NoLoop") (fs := ["loop"]) (tag := .int 1) (vs := [x]) (ds := [.int 1, d]) rfl e04 (by first | omega | (simp only [List.length_append, List.length_cons, List.length_nil]; omega)) t4 (fun H1 R1 E1 e1 rz => ⟨_, rfl, _, rfl, v, x, .int 99, ls, rfl, (hPl.ms (ms_keepN eFl rfl k4)).ms (ms_ext e1), po, ((bl.to (ts k4)).to (tsame_ext e1)).arg rz⟩) (by simp) rfl (fun H2 R2 e2 key => ⟨_, rfl, sz2, key⟩) (.cons (.int 1) (.cons (bl.to (ts k4)).dt .nil)) (tag1_sh bl.lay) fun H5_ kk e05 t5 => ?_
      have k5 := k4.trans kk
      clear kk
      refine app_ref (x := "NoLoop") (fs := ["loop"]) (tag := .int 1) (vs := [x]) (ds := [.int 1, d]) rfl e05 (by first | omega | (simp only [List.length_append, List.length_cons, List.length_nil]; omega)) t5 (fun H1 R1 E1 e1 rz => ⟨_, rfl, _, rfl, v, x, .int 0, ls, rfl, (hPl.ms (ms_keepN eFl rfl k5)).ms (ms_ext e1), po, ((bl.to (ts k5)).to (tsame_ext e1)).arg rz⟩) (by simp) rfl (fun H2 R2 e2 key => ⟨_, rfl, sz2, key⟩) (.cons (.int 1) (.cons (bl.to (ts k5)).dt .nil)) (tag1_sh bl.lay) fun H6_ kk e06 t6 => ?_
      have k6 := k5.trans kk
      clear kk
      refine app_ref (x := "NoLoop") (fs := ["loop"]) (tag := .int 1) (vs := [x]) (ds := [.int 1, d]) rfl e06 (by first | omega | (simp only [List.length_append, List.length_cons, List.length_nil]; omega)) t6 (fun H1 R1 E1 e1 rz => ⟨_, rfl, _, rfl, v, x, .int 99, ls, rfl, (hPl.ms (ms_keepN eFl rfl k6)).ms (ms_ext e1), po, ((bl.to (ts k6)).to (tsame_ext e1)).arg rz⟩) (by simp) rfl (fun H2 R2 e2 key => ⟨_, rfl, sz2, key⟩) (.cons (.int 1) (.cons (bl.to (ts k6)).dt .nil)) (tag1_sh bl.lay) fun H7_ kk e07 t7 => ?_
      have k7 := k6.trans kk
      clear kk
      refine app_ref (x := "NoLoop") (fs := ["loop"]) (tag := .int 1) (vs := [x]) (ds := [.int 1, d]) rfl e07 (by first | omega | (simp only [List.length_append, List.length_cons, List.length_nil]; omega)) t7 (fun H1 R1 E1 e1 rz => ⟨_, rfl, _, rfl, v, x, .int 99, ls, rfl, (hPl.ms (ms_keepN eFl rfl k7)).ms (ms_ext e1), po, ((bl.to (ts k7)).to (tsame_ext e1)).arg rz⟩) (by simp) rfl (fun H2 R2 e2 key => ⟨_, rfl, sz2, key⟩) (.cons (.int 1) (.cons (bl.to (ts k7)).dt .nil)) (tag1_sh bl.lay) fun H8_ kk e08 t8 => ?_
      have k8 := k7.trans kk
      clear kk
      refine ⟨_, rfl, ?_, by omega, k8, t8⟩
      rw [e08]
      simp only [List.append_assoc, List.cons_append, List.nil_append]
      rw [show 8 * (i + 1) = 8 * i + 8 by omega, ← List.replicate_append_replicate]
      rfl
    · rintro σ H7 ⟨v3, rfl, e7, _, k7, t7⟩
      have e7 : H7 lf = some (.lst (List.replicate 56 (.bl true))) := e7
      have shn : SeqAt.shaped (.tuple [.int 1, .int ((ls.length : Nat) - 1 : Int)]) = true := tag1_sh ((lay_int _).mono (by decide))
      try dsimp only
      refine app_ref (x := "NoLoop") (fs := ["loop"]) (tag := .int 1) (vs := [.int ((ls.length : Nat) - 1 : Int)]) (ds := [.int 1, .int ((ls.length : Nat) - 1 : Int)]) rfl e7 (by rw [List.length_replicate]; decide) t7 (fun H1 R1 E1 e1 rz => ⟨_, rfl, _, rfl, _, _, rfl, rfl, v, _, ls, rfl, (hPl.ms (ms_keepN eFl rfl k7)).ms (ms_ext e1), .inr ⟨_, rfl, fun z => absurd ⟨by omega, by omega⟩ z, fun j ej hj => ⟨by omega, by rw [← ej]; exact rz⟩⟩⟩) (by simp) rfl (fun H2 R2 e2 key => ⟨_, rfl, _, _, rfl, rfl, sz2, key⟩) (.cons (.int 1) (.cons (.int _) .nil)) shn fun H8 kk e8 t8 => ?_
      have k8 := k7.trans kk
      clear kk
      refine app_ref (x := "NoLoop") (fs := ["loop"]) (tag := .int 1) (vs := [.int ((ls.length : Nat) - 1 : Int)]) (ds := [.int 1, .int ((ls.length : Nat) - 1 : Int)]) rfl e8 (by rw [List.length_append, List.length_replicate]; decide) t8 (fun H1 R1 E1 e1 rz => ⟨_, rfl, _, rfl, _, _, rfl, rfl, v, _, ls, rfl, (hPl.ms (ms_keepN eFl rfl k8)).ms (ms_ext e1), po, .inr ⟨_, rfl, fun z => absurd ⟨by omega, by omega⟩ z, fun j ej hj => ⟨fun _ => by rw [← ej]; exact rz, fun l1 l2 _ h2 => absurd (List.getElem?_eq_some_iff.mp h2).1 (by omega)⟩⟩⟩) (by simp) rfl (fun H2 R2 e2 key => ⟨_, rfl, _, _, rfl, rfl, sz2, key⟩) (.cons (.int 1) (.cons (.int _) .nil)) shn fun H9 kk e9 t9 => ?_
      have k9 := k8.trans kk
      clear kk
      have npl : H lf = none := hlf
      have xt : LamX.ExtN H H9 := fun a o h n => k9 a o (ne_of_none h npl) n (sl _ _ h)
      refine ⟨_, rfl, _, _, rfl, .inl (SqL.of e9), rfl, by decide, ?_⟩
      exact k H9 xt t9
end
end K49
set_option maxHeartbeats 4000000
namespace K49
open PySem PySem.Spec PyProof.Rows L2 Z
theorem BadL.sarg {K : PySem.W.Frag} {H : Hp} {E : XK} {n j : Nat} {v : V} {d : PyData} {G : Nat → Prop} (b : BadL H n v d) (rz : RzV K "NoStatement" ["loop", "statement"] [.int j, v] H E) : StArg K H E j v n G := by
  rcases b.bad with h | ⟨a, rfl, hn⟩
  · exact .inl ⟨h, rz⟩
  · exact .inr ⟨a, rfl, fun _ => rz, fun k ek hk => absurd (show 0 ≤ a ∧ a ≤ (n : Int) - 1 by omega) hn⟩
theorem lp_zero {K : PySem.W.Frag} {H : Hp} {E : XK} {n : Nat} {G : Nat → Prop} (h : 0 < n) (g : G 0) : LpArg K H E (.int 0) n G := .inr ⟨0, rfl, fun z => absurd ⟨by omega, by omega⟩ z, fun j ej hj => by
  obtain rfl : j = 0 := by omega
  exact g⟩
theorem tag3_sh {x : Str} {d : PyData} (hx : PyData.strOk x = true) (h : Lay 1 d) : SeqAt.shaped (.tuple [.str x, .int 0, d]) = true := (Lay.tup fun e he => by
  simp only [List.mem_cons, List.not_mem_nil, or_false] at he
  rcases he with rfl | rfl | rfl
  · exact (lay_str hx).mono (by decide)
  · exact (lay_int 0).mono (by decide)
  · exact h : Lay 2 (.tuple [.str x, .int 0, d])).shaped (by decide)
/-- what is no number of lots, from 2 to top -/
structure BadM (top : Int) (v : V) (d : PyData) : Prop where
  dt : ∀ H, DT H v d
  lay : Lay 1 d
  bad : (∀ H, IntV H v false) ∨ ∃ a : Int, v = .int a ∧ ¬ (2 ≤ a ∧ a ≤ top)
theorem BadM.arg {K : PySem.W.Frag} {H : Hp} {E : XK} {top t2 : Int} {v : V} {d : PyData} {G : Nat → Prop} (b : BadM top v d) (le : t2 ≤ top) (rz : RzV K "BadMany" ["many"] [v] H E) : MyArg K H E v t2 G := by
  rcases b.bad with h | ⟨a, rfl, hn⟩
  · exact .inl ⟨h H, rz⟩
  · exact .inr ⟨a, rfl, fun _ => rz, fun m em h2 hm => absurd (show 2 ≤ a ∧ a ≤ top by omega) hn⟩
theorem tag2_sh {x : Str} {d : PyData} (hx : PyData.strOk x = true) (h : Lay 1 d) : SeqAt.shaped (.tuple [.str x, d]) = true := (Lay.tup fun e he => by
  simp only [List.mem_cons, List.not_mem_nil, or_false] at he
  rcases he with rfl | rfl
  · exact (lay_str hx).mono (by decide)
  · exact h : Lay 2 (.tuple [.str x, d])).shaped (by decide)
def spStmsR (K : PySem.W.Frag) (TS : List (Addr × Str)) : Sp := fun vs H Q _ => ∃ (v : V) (ls : List LpX) (l : LpX), vs = [v, .int (l.sts.length : Nat)] ∧ PrXo K H v ls ∧ PO ls ∧ ls[0]? = some l ∧ 2 ≤ l.sts.length ∧ LamX.Tabs TS H ∧ ∀ H', LamX.ExtN H H' → LamX.Tabs TS H' → Q (.bl true) H'
section
variable {P : Program} {w : World} {K : PySem.W.Frag} {mg : Str → Option Value} {base : Heap}
theorem sc_law_are_statements_right : FnScope ["_law_program", "_law_many", "_law_found", "_law_k", "_law_lots"] ["_law_program", "_law_many"] (defScope s_law_are_statements_right) := ⟨rfl, rfl, rfl, by decide +kernel, rfl, by decide +kernel, by decide +kernel⟩
theorem ok_stmsR {f c TT : Addr} {fd : FuncData} {TS : List (Addr × Str)} (F : FnP K "_law_are_statements_right" s_law_are_statements_right f fd) (hcode : fd.code = .ref c) (M : MkL base mg TS "_law_are_statements_right.<locals>.<lambda>" c TT) (RD : RefDef K mg) (R : RfTx K mg) (T : RwTx K mg) (dSwS : Dx P w K mg base 11 "swap_statements" ["program", "loop", "statement"] (spSwS K)) (dSplit : Dx P w K mg base 11 "split_loop" ["program", "loop", "statement"] (spSplit K)) (dDeal : Dx P w K mg base 11 "deal_loop" ["program", "loop", "many"] (spDeal K)) (dUnr : Dx P w K mg base 11 "unroll_loop" ["program", "loop", "many"] (spUnr K)) (dNoRw : Dn P w K mg base 3 "no_rewriting" ["program"] (spNoRw K))
    (mo : ∃ fd, FnOk P w K mg base (L2.CX P w) 6 (He.ma K (CRw K) "origin") fd ["self", "work"] (spOrigin K) ∧ Binds K fd ["self", "work"] [] ∧ Meth K (CRw K) "origin" (He.ma K (CRw K) "origin")) (mp : ∃ fd, FnOk P w K mg base (L2.CX P w) 6 (He.ma K (CRw K) "places") fd ["self", "n", "work"] (spPlaces K) ∧ Binds K fd ["self", "n", "work"] [] ∧ Meth K (CRw K) "places" (He.ma K (CRw K) "places")) :
    FnOk P w K mg base CX0 16 f fd ["_law_program", "_law_many"] (spStmsR K TS) := by
  refine okC F hcode sc_law_are_statements_right (fun vs H Q E h => ?_) (fun A outer s H vs Q E hr h => ?_)
  · obtain ⟨v, ls, l, rfl, _⟩ := h
    rfl
  · obtain ⟨v, ls, l, rfl, hP, po, hl, l2, tabs, k⟩ := h
    obtain ⟨g, oc, od, dV, kV, doc, pm, an, cdv, ct, osl, Rm, Rk, Rl, Rc, Rb⟩ := RD
    have TB := M.tb
    have hmT := M.mem
    have hu := M.uni
    obtain ⟨fdo, Fo, hbo, co⟩ := mo
    obtain ⟨fdp, Fp, hbp, cp⟩ := mp
    refine ⟨_, PSs.nox (pss_cons (ps_set (i := 2) sc_law_are_statements_right.nd rfl (Or.inl rfl) (pe_lst pa_nil))
      (pss_cons (ps_for PassesOwn.never rfl (pi_list (pe_lst (pa_cons (pe_un un_neg pe_int) (pa_cons (pv 1) (pa_cons pe_non (pa_cons pe_str (pa_cons pe_bl pa_nil))))))) (pg_name (i := 3) sc_law_are_statements_right.nd rfl (.inr rfl)) (pss_cons (ps_expr (pe_bm PySem.F.plainAttrs_list PySem.F.slot_list_append PySem.F.type_list_append mt_append (pv 2) (pa_cons (pe_cmpR (op_eqD hr.units) (LamX.pe_lamcall (T := TS) (TT := TTref K) (a := "_law_call") (k := 12) rfl Rm Rk Rl Rc Rb sc_law_refused rfl (.inl rfl) (ref_gives R) TB rfl hmT hu (hr.mono (by decide)) (LamX.lamS_by (sc := defScope s_law_are_statements_right) (by decide +kernel)) rfl (fun _ _ _ _ _ => rfl) (fun _ _ _ _ _ _ _ hr2 => (pe_dx (K := K) dSwS rfl hr2 (fun σ => passAt (takes_of rfl rfl rfl rfl) σ) (pa_cons (pv 0) (pa_cons pe_int (pa_cons (pv 3) pa_nil)))))) (pe_tup (pa_cons pe_str (pa_cons pe_int (pa_cons (pv 3) pa_nil)))) (nomark _)) pa_nil)))
      (pss_cons (ps_expr (pe_bm PySem.F.plainAttrs_list PySem.F.slot_list_append PySem.F.type_list_append mt_append (pv 2) (pa_cons (pe_cmpR (op_eqD hr.units) (LamX.pe_lamcall (T := TS) (TT := TTref K) (a := "_law_call") (k := 12) rfl Rm Rk Rl Rc Rb sc_law_refused rfl (.inl rfl) (ref_gives R) TB rfl hmT hu (hr.mono (by decide)) (LamX.lamS_by (sc := defScope s_law_are_statements_right) (by decide +kernel)) rfl (fun _ _ _ _ _ => rfl) (fun _ _ _ _ _ _ _ hr2 => (pe_dx (K := K) dSplit rfl hr2 (fun σ => passAt (takes_of rfl rfl rfl rfl) σ) (pa_cons (pv 0) (pa_cons pe_int (pa_cons (pv 3) pa_nil)))))) (pe_tup (pa_cons pe_str (pa_cons pe_int (pa_cons (pv 3) pa_nil)))) (nomark _)) pa_nil)))
      (pss_cons (ps_expr (pe_bm PySem.F.plainAttrs_list PySem.F.slot_list_append PySem.F.type_list_append mt_append (pv 2) (pa_cons (pe_cmpR (op_eqD hr.units) (LamX.pe_lamcall (T := TS) (TT := TTref K) (a := "_law_call") (k := 12) rfl Rm Rk Rl Rc Rb sc_law_refused rfl (.inl rfl) (ref_gives R) TB rfl hmT hu (hr.mono (by decide)) (LamX.lamS_by (sc := defScope s_law_are_statements_right) (by decide +kernel)) rfl (fun _ _ _ _ _ => rfl) (fun _ _ _ _ _ _ _ hr2 => (pe_methX (K := K) rfl (fun σ => passAt (takes_of rfl rfl rfl rfl) σ) (pe_dn dNoRw hr2 (pa_cons (pv 0) pa_nil)) T.clW co Fo (hr2.mono (by decide)) hbo (pa_cons (pe_tup (pa_cons pe_int (pa_cons pe_int (pa_cons (pv 3) pa_nil)))) pa_nil)))) (pe_tup (pa_cons pe_str (pa_cons pe_int (pa_cons (pv 3) pa_nil)))) (nomark _)) pa_nil)))
      (pss_one (ps_expr (pe_bm PySem.F.plainAttrs_list PySem.F.slot_list_append PySem.F.type_list_append mt_append (pv 2) (pa_cons (pe_cmpR (op_eqD hr.units) (LamX.pe_lamcall (T := TS) (TT := TTref K) (a := "_law_call") (k := 12) rfl Rm Rk Rl Rc Rb sc_law_refused rfl (.inl rfl) (ref_gives R) TB rfl hmT hu (hr.mono (by decide)) (LamX.lamS_by (sc := defScope s_law_are_statements_right) (by decide +kernel)) rfl (fun _ _ _ _ _ => rfl) (fun _ _ _ _ _ _ _ hr2 => (pe_methX (K := K) rfl (fun σ => passAt (takes_of rfl rfl rfl rfl) σ) (pe_dn dNoRw hr2 (pa_cons (pv 0) pa_nil)) T.clW cp Fp (hr2.mono (by decide)) hbp (pa_cons (pe_un un_neg pe_int) (pa_cons (pe_tup (pa_cons pe_int (pa_cons pe_int (pa_cons (pv 3) pa_nil)))) pa_nil))))) (pe_tup (pa_cons pe_str (pa_cons pe_int (pa_cons (pv 3) pa_nil)))) (nomark _)) pa_nil))))))))
      (pss_cons (ps_expr (pe_bm PySem.F.plainAttrs_list PySem.F.slot_list_append PySem.F.type_list_append mt_append (pv 2) (pa_cons (pe_cmpR (op_eqD hr.units) (LamX.pe_lamcall (T := TS) (TT := TTref K) (a := "_law_call") (k := 12) rfl Rm Rk Rl Rc Rb sc_law_refused rfl (.inl rfl) (ref_gives R) TB rfl hmT hu (hr.mono (by decide)) (LamX.lamS_by (sc := defScope s_law_are_statements_right) (by decide +kernel)) rfl (fun _ _ _ _ _ => rfl) (fun _ _ _ _ _ _ _ hr2 => (pe_dx (K := K) dSwS rfl hr2 (fun σ => passAt (takes_of rfl rfl rfl rfl) σ) (pa_cons (pv 0) (pa_cons pe_int (pa_cons (pe_op op_sub (pv 1) pe_int) pa_nil)))))) (pe_tup (pa_cons pe_str (pa_cons pe_int (pa_cons (pe_op op_sub (pv 1) pe_int) pa_nil)))) (nomark _)) pa_nil)))
      (pss_cons (ps_expr (pe_bm PySem.F.plainAttrs_list PySem.F.slot_list_append PySem.F.type_list_append mt_append (pv 2) (pa_cons (pe_cmpR (op_eqD hr.units) (LamX.pe_lamcall (T := TS) (TT := TTref K) (a := "_law_call") (k := 12) rfl Rm Rk Rl Rc Rb sc_law_refused rfl (.inl rfl) (ref_gives R) TB rfl hmT hu (hr.mono (by decide)) (LamX.lamS_by (sc := defScope s_law_are_statements_right) (by decide +kernel)) rfl (fun _ _ _ _ _ => rfl) (fun _ _ _ _ _ _ _ hr2 => (pe_dx (K := K) dSplit rfl hr2 (fun σ => passAt (takes_of rfl rfl rfl rfl) σ) (pa_cons (pv 0) (pa_cons pe_int (pa_cons pe_int pa_nil)))))) (pe_tup (pa_cons pe_str (pa_cons pe_int (pa_cons pe_int pa_nil)))) (nomark _)) pa_nil)))
      (pss_cons (ps_expr (pe_bm PySem.F.plainAttrs_list PySem.F.slot_list_append PySem.F.type_list_append mt_append (pv 2) (pa_cons (pe_cmpR (op_eqD hr.units) (LamX.pe_lamcall (T := TS) (TT := TTref K) (a := "_law_call") (k := 12) rfl Rm Rk Rl Rc Rb sc_law_refused rfl (.inl rfl) (ref_gives R) TB rfl hmT hu (hr.mono (by decide)) (LamX.lamS_by (sc := defScope s_law_are_statements_right) (by decide +kernel)) rfl (fun _ _ _ _ _ => rfl) (fun _ _ _ _ _ _ _ hr2 => (pe_methX (K := K) rfl (fun σ => passAt (takes_of rfl rfl rfl rfl) σ) (pe_dn dNoRw hr2 (pa_cons (pv 0) pa_nil)) T.clW cp Fp (hr2.mono (by decide)) hbp (pa_cons (pe_un un_neg pe_int) (pa_cons (pe_tup (pa_cons pe_int (pa_cons pe_int (pa_cons pe_int pa_nil)))) pa_nil))))) (pe_tup (pa_cons pe_str (pa_cons (pe_un un_neg pe_int) pa_nil))) (nomark _)) pa_nil)))
      (pss_cons (ps_expr (pe_bm PySem.F.plainAttrs_list PySem.F.slot_list_append PySem.F.type_list_append mt_append (pv 2) (pa_cons (pe_cmpR (op_eqD hr.units) (LamX.pe_lamcall (T := TS) (TT := TTref K) (a := "_law_call") (k := 12) rfl Rm Rk Rl Rc Rb sc_law_refused rfl (.inl rfl) (ref_gives R) TB rfl hmT hu (hr.mono (by decide)) (LamX.lamS_by (sc := defScope s_law_are_statements_right) (by decide +kernel)) rfl (fun _ _ _ _ _ => rfl) (fun _ _ _ _ _ _ _ hr2 => (pe_methX (K := K) rfl (fun σ => passAt (takes_of rfl rfl rfl rfl) σ) (pe_dn dNoRw hr2 (pa_cons (pv 0) pa_nil)) T.clW cp Fp (hr2.mono (by decide)) hbp (pa_cons (pe_op op_add (pe_op op_pow pe_int pe_int) pe_int) (pa_cons (pe_tup (pa_cons pe_int (pa_cons pe_int (pa_cons pe_int pa_nil)))) pa_nil))))) (pe_tup (pa_cons pe_int (pa_cons pe_int pa_nil))) (nomark _)) pa_nil)))
      (pss_cons (ps_for PassesOwn.never rfl (pi_list (pe_lst (pa_cons pe_int (pa_cons pe_int (pa_cons (pe_un un_neg pe_int) (pa_cons pe_non (pa_cons pe_bl (pa_cons pe_str (pa_cons pe_int pa_nil))))))))) (pg_name (i := 4) sc_law_are_statements_right.nd rfl (.inr rfl)) (pss_cons (ps_expr (pe_bm PySem.F.plainAttrs_list PySem.F.slot_list_append PySem.F.type_list_append mt_append (pv 2) (pa_cons (pe_cmpR (op_eqD hr.units) (LamX.pe_lamcall (T := TS) (TT := TTref K) (a := "_law_call") (k := 12) rfl Rm Rk Rl Rc Rb sc_law_refused rfl (.inl rfl) (ref_gives R) TB rfl hmT hu (hr.mono (by decide)) (LamX.lamS_by (sc := defScope s_law_are_statements_right) (by decide +kernel)) rfl (fun _ _ _ _ _ => rfl) (fun _ _ _ _ _ _ _ hr2 => (pe_dx (K := K) dDeal rfl hr2 (fun σ => passAt (takes_of rfl rfl rfl rfl) σ) (pa_cons (pv 0) (pa_cons pe_int (pa_cons (pv 4) pa_nil)))))) (pe_tup (pa_cons pe_str (pa_cons (pv 4) pa_nil))) (nomark _)) pa_nil)))
      (pss_one (ps_expr (pe_bm PySem.F.plainAttrs_list PySem.F.slot_list_append PySem.F.type_list_append mt_append (pv 2) (pa_cons (pe_cmpR (op_eqD hr.units) (LamX.pe_lamcall (T := TS) (TT := TTref K) (a := "_law_call") (k := 12) rfl Rm Rk Rl Rc Rb sc_law_refused rfl (.inl rfl) (ref_gives R) TB rfl hmT hu (hr.mono (by decide)) (LamX.lamS_by (sc := defScope s_law_are_statements_right) (by decide +kernel)) rfl (fun _ _ _ _ _ => rfl) (fun _ _ _ _ _ _ _ hr2 => (pe_dx (K := K) dUnr rfl hr2 (fun σ => passAt (takes_of rfl rfl rfl rfl) σ) (pa_cons (pv 0) (pa_cons pe_int (pa_cons (pv 4) pa_nil)))))) (pe_tup (pa_cons pe_str (pa_cons (pv 4) pa_nil))) (nomark _)) pa_nil))))))
      (pss_cons (ps_for PassesOwn.never rfl (pi_tup (pe_tup (pa_cons pe_int (pa_cons pe_int (pa_cons pe_int (pa_cons (pe_op op_pow pe_int pe_int) pa_nil)))))) (pg_name (i := 4) sc_law_are_statements_right.nd rfl (.inr rfl)) (pss_one (ps_expr (pe_bm PySem.F.plainAttrs_list PySem.F.slot_list_append PySem.F.type_list_append mt_append (pv 2) (pa_cons (pe_cmpR (op_eqD hr.units) (LamX.pe_lamcall (T := TS) (TT := TTref K) (a := "_law_call") (k := 12) rfl Rm Rk Rl Rc Rb sc_law_refused rfl (.inl rfl) (ref_gives R) TB rfl hmT hu (hr.mono (by decide)) (LamX.lamS_by (sc := defScope s_law_are_statements_right) (by decide +kernel)) rfl (fun _ _ _ _ _ => rfl) (fun _ _ _ _ _ _ _ hr2 => (pe_dx (K := K) dDeal rfl hr2 (fun σ => passAt (takes_of rfl rfl rfl rfl) σ) (pa_cons (pv 0) (pa_cons pe_int (pa_cons (pv 4) pa_nil)))))) (pe_tup (pa_cons pe_str (pa_cons (pv 4) pa_nil))) (nomark _)) pa_nil)))))
      (pss_one (ps_ret (pe_cmpR op_notIn_seq pe_bl (pv 2) (by with_unfolding_all rfl)))))))))))), ?_⟩
    have lz : 0 < ls.length := (List.getElem?_eq_some_iff.mp hl).1
    have b1 := (po.2 l (List.mem_of_getElem? hl)).1
    refine ⟨sz0, fun lf hlf => ?_⟩
    have s1 := Same.new (.lst []) (Same.refl H) hlf
    refine normG (σ' := [some v, some (.int (l.sts.length : Nat)), some (.ref lf), none, none]) rfl ?_
    try dsimp only
    refine ⟨_, rfl, _, rfl, sz1l _ (by show 4 < 1000; decide), fun L hL => ?_⟩
    obtain ⟨Hl, eHl⟩ : ∃ X, X = upd (upd H lf (.lst [])) L (.lst [.int (-1), .int (l.sts.length : Nat), .non, .str "1", .bl false]) := ⟨_, rfl⟩
    have s3 := Same.new (.lst [.int (-1), .int (l.sts.length : Nat), .non, .str "1", .bl false]) (Same.refl (upd H lf (.lst []))) hL
    have eFl : Hl lf = some (.lst []) := by rw [eHl]; exact s3 _ _ upd_same
    have eL : Hl L = some (.lst [.int (-1), .int (l.sts.length : Nat), .non, .str "1", .bl false]) := by rw [eHl]; exact upd_same
    have sl : Same H Hl := by rw [eHl]; exact s1.trans s3
    have nLf : L ≠ lf := fun z => by
      rw [z, upd_same] at hL
      cases hL
    have hPl := hP.same sl
    have tl : LamX.Tabs TS Hl := tabs.ext fun b o e => sl _ _ e
    have bads : ∀ (i : Nat) (x : V), ([.int (-1), .int (l.sts.length : Nat), .non, .str "1", .bl false] : List V)[i]? = some x → ∃ d, BadL Hl l.sts.length x d := fun i x hx => by
      match i, hx with
      | 0, hx => cases hx; exact ⟨_, .int _, (lay_int _).mono (by decide), .inr ⟨_, rfl, fun z => absurd z.1 (by decide)⟩⟩
      | 1, hx => cases hx; exact ⟨_, .int _, (lay_int _).mono (by decide), .inr ⟨_, rfl, fun z => by omega⟩⟩
      | 2, hx => cases hx; exact ⟨_, .non, lay_non.mono (by decide), .inl .non⟩
      | 3, hx => cases hx; exact ⟨_, .str _, (lay_str (by decide +kernel)).mono (by decide), .inl (.str _)⟩
      | 4, hx => cases hx; exact ⟨.bool false, .bl _, ⟨rfl, by simp [PyData.depth]⟩, .inl (.bl _)⟩
    have ts : ∀ {H' : Hp}, KeepN lf Hl H' → TSame Hl H' := fun k a xs e => k a _ (fun z => by
      rw [z, eFl] at e
      cases e) (fun _ z => by cases z) e
    rw [← eHl]
    refine ⟨L, rfl, ⟨_, SqL.of eL⟩, ?_⟩
    refine for_list (K := K) (xs := [.int (-1), .int (l.sts.length : Nat), .non, .str "1", .bl false]) (fun i σ Hc => ∃ (v3 : Option V), σ = [some v, some (.int (l.sts.length : Nat)), some (.ref lf), v3, none] ∧ Hc lf = some (.lst (List.replicate (4 * i) (.bl true))) ∧ i ≤ 5 ∧ KeepN lf Hl Hc ∧ LamX.Tabs TS Hc) ⟨_, rfl, eFl, by omega, KeepN.refl _ _, tl⟩ (fun i σ' H' _ ⟨_, _, _, _, z, _⟩ => SqL.of (z _ _ nLf (fun _ z => by cases z) eL)) ?_ ?_
    · rintro i x σ Hc hx ⟨v3, rfl, e00, i7, k0, t0⟩
      obtain ⟨d, bl⟩ := bads i x hx
      have i6 : i < 5 := (List.getElem?_eq_some_iff.mp hx).1
      have lb : (List.replicate (4 * i) (V.bl true)).length = 4 * i := List.length_replicate
      refine normG (σ' := [some v, some (.int (l.sts.length : Nat)), some (.ref lf), some x, none]) rfl ?_
      try dsimp only
      refine app_ref (x := "NoStatement") (fs := ["loop", "statement"]) (tag := .str "statement") (vs := [.int (0 : Nat), x]) (ds := [.str "statement", .int (0 : Nat), d]) rfl e00 (by first | omega | (simp only [List.length_append, List.length_cons, List.length_nil]; omega)) t0 (fun H1 R1 E1 e1 rz => ⟨_, rfl, _, rfl, v, .int (0 : Nat), x, ls, rfl, (hPl.ms (ms_keepN eFl rfl k0)).ms (ms_ext e1), po, lp_zero lz fun l0 h0 => by rw [hl] at h0; cases h0; exact (bl.to ((ts k0).trans (tsame_ext e1))).sarg rz⟩) (by simp) rfl (fun H2 R2 e2 key => ⟨_, rfl, sz3, key⟩) (.cons (.str _) (.cons (.int _) (.cons (bl.to (ts k0)).dt .nil))) (tag3_sh (by decide +kernel) bl.lay) fun H1_ kk e01 t1 => ?_
      have k1 := k0.trans kk
      clear kk
      refine app_ref (x := "NoStatement") (fs := ["loop", "statement"]) (tag := .str "statement") (vs := [.int (0 : Nat), x]) (ds := [.str "statement", .int (0 : Nat), d]) rfl e01 (by first | omega | (simp only [List.length_append, List.length_cons, List.length_nil]; omega)) t1 (fun H1 R1 E1 e1 rz => ⟨_, rfl, _, rfl, v, .int (0 : Nat), x, ls, rfl, (hPl.ms (ms_keepN eFl rfl k1)).ms (ms_ext e1), po, lp_zero lz fun l0 h0 => by rw [hl] at h0; cases h0; exact (bl.to ((ts k1).trans (tsame_ext e1))).sarg rz⟩) (by simp) rfl (fun H2 R2 e2 key => ⟨_, rfl, sz3, key⟩) (.cons (.str _) (.cons (.int _) (.cons (bl.to (ts k1)).dt .nil))) (tag3_sh (by decide +kernel) bl.lay) fun H2_ kk e02 t2 => ?_
      have k2 := k1.trans kk
      clear kk
      refine app_ref (x := "NoStatement") (fs := ["loop", "statement"]) (tag := .str "statement") (vs := [.int (0 : Nat), x]) (ds := [.str "statement", .int (0 : Nat), d]) rfl e02 (by first | omega | (simp only [List.length_append, List.length_cons, List.length_nil]; omega)) t2 (fun H1 R1 E1 e1 rz => ⟨_, rfl, v, ls, rfl, (hPl.ms (ms_keepN eFl rfl k2)).ms (ms_ext e1), po, fun r o H2 s2 ⟨dx, dd, hr0⟩ => ⟨r, dx, _, rfl, hr0, rwf_no _ _ _ _ (by decide +kernel) (by decide +kernel) (by decide +kernel) (by decide +kernel), _, rfl, sz3, fun tw htw => ⟨r, tw, v, v, o, .int (0 : Nat), .int 5, x, ls, rfl, RwAt.same ⟨dx, dd, hr0⟩ (Same.new _ (Same.refl H2) htw), ((hPl.ms (ms_keepN eFl rfl k2)).ms (ms_ext e1)).same (s2.trans (Same.new _ (Same.refl H2) htw)), upd_same, lp_zero lz fun l0 h0 => by rw [hl] at h0; cases h0; exact (bl.to (((ts k2).trans (tsame_ext e1)).trans (TSame.of (s2.trans (Same.new _ (Same.refl H2) htw))))).sarg (rz.same (s2.trans (Same.new _ (Same.refl H2) htw)))⟩⟩⟩) (by simp) rfl (fun H2 R2 e2 key => ⟨_, rfl, sz3, key⟩) (.cons (.str _) (.cons (.int _) (.cons (bl.to (ts k2)).dt .nil))) (tag3_sh (by decide +kernel) bl.lay) fun H3_ kk e03 t3 => ?_
      have k3 := k2.trans kk
      clear kk
      refine app_ref (x := "NoStatement") (fs := ["loop", "statement"]) (tag := .str "statement") (vs := [.int (0 : Nat), x]) (ds := [.str "statement", .int (0 : Nat), d]) rfl e03 (by first | omega | (simp only [List.length_append, List.length_cons, List.length_nil]; omega)) t3 (fun H1 R1 E1 e1 rz => ⟨_, rfl, v, ls, rfl, (hPl.ms (ms_keepN eFl rfl k3)).ms (ms_ext e1), po, fun r o H2 s2 ⟨dx, dd, hr0⟩ => ⟨r, dx, _, rfl, hr0, rwf_no _ _ _ _ (by decide +kernel) (by decide +kernel) (by decide +kernel) (by decide +kernel), _, rfl, _, rfl, sz3, fun tw htw => ⟨r, tw, .int (-1), v, v, o, .int (0 : Nat), .int 5, x, ls, rfl, RwAt.same ⟨dx, dd, hr0⟩ (Same.new _ (Same.refl H2) htw), ((hPl.ms (ms_keepN eFl rfl k3)).ms (ms_ext e1)).same (s2.trans (Same.new _ (Same.refl H2) htw)), upd_same, lp_zero lz fun l0 h0 => by rw [hl] at h0; cases h0; exact (bl.to (((ts k3).trans (tsame_ext e1)).trans (TSame.of (s2.trans (Same.new _ (Same.refl H2) htw))))).sarg (rz.same (s2.trans (Same.new _ (Same.refl H2) htw)))⟩⟩⟩) (by simp) rfl (fun H2 R2 e2 key => ⟨_, rfl, sz3, key⟩) (.cons (.str _) (.cons (.int _) (.cons (bl.to (ts k3)).dt .nil))) (tag3_sh (by decide +kernel) bl.lay) fun H4_ kk e04 t4 => ?_
      have k4 := k3.trans kk
      clear kk
      refine ⟨_, rfl, ?_, by omega, k4, t4⟩
      rw [e04]
      simp only [List.append_assoc, List.cons_append, List.nil_append]
      rw [show 4 * (i + 1) = 4 * i + 4 by omega, ← List.replicate_append_replicate]
      rfl
    · rintro σ H7 ⟨v3, rfl, e7, _, k7, t7⟩
      have e7 : H7 lf = some (.lst (List.replicate 20 (.bl true))) := e7
      have l6 := po.1
      have sh2 : SeqAt.shaped (.tuple [.str "size", .int (-1)]) = true := (Lay.tup fun e he => by
        simp only [List.mem_cons, List.not_mem_nil, or_false] at he
        rcases he with rfl | rfl
        · exact lay_str (by decide +kernel)
        · exact lay_int _ : Lay 1 (.tuple [.str "size", .int (-1)])).shaped (by decide)
      try dsimp only
      refine app_ref (x := "NoStatement") (fs := ["loop", "statement"]) (tag := .str "statement") (vs := [.int (0 : Nat), .int ((l.sts.length : Nat) - 1 : Int)]) (ds := [.str "statement", .int (0 : Nat), .int ((l.sts.length : Nat) - 1 : Int)]) rfl e7 (by first | (simp only [List.length_append, List.length_cons, List.length_nil, List.length_replicate]; omega)) t7 (fun H1 R1 E1 e1 rz => ⟨_, rfl, _, rfl, _, _, rfl, rfl, v, .int (0 : Nat), _, ls, rfl, (hPl.ms (ms_keepN eFl rfl k7)).ms (ms_ext e1), po, lp_zero lz fun l0 h0 => by rw [hl] at h0; cases h0; exact .inr ⟨_, rfl, fun z => absurd ⟨by omega, by omega⟩ z, fun kk ek hk => ⟨by omega, by rw [← ek]; exact rz⟩⟩⟩) (by simp) rfl (fun H2 R2 e2 key => ⟨_, rfl, _, _, rfl, rfl, sz3, key⟩) (.cons (.str _) (.cons (.int _) (.cons (.int _) .nil))) (tag3_sh (by decide +kernel) ((lay_int _).mono (by decide))) fun H8 kk e8 t8 => ?_
      have k8 := k7.trans kk
      clear kk
      refine app_ref (x := "NoStatement") (fs := ["loop", "statement"]) (tag := .str "statement") (vs := [.int (0 : Nat), .int 0]) (ds := [.str "statement", .int (0 : Nat), .int 0]) rfl e8 (by first | (simp only [List.length_append, List.length_cons, List.length_nil, List.length_replicate]; omega)) t8 (fun H1 R1 E1 e1 rz => ⟨_, rfl, v, .int (0 : Nat), .int 0, ls, rfl, (hPl.ms (ms_keepN eFl rfl k8)).ms (ms_ext e1), po, lp_zero lz fun l0 h0 => by rw [hl] at h0; cases h0; exact .inr ⟨0, rfl, fun z => absurd ⟨by omega, by omega⟩ z, fun kk ek hk => ⟨fun _ => rz, fun nz => absurd (show kk = 0 by omega) nz⟩⟩⟩) (by simp) rfl (fun H2 R2 e2 key => ⟨sz3, key⟩) (.cons (.str _) (.cons (.int _) (.cons (.int _) .nil))) (tag3_sh (by decide +kernel) ((lay_int _).mono (by decide))) fun H9 kk e9 t9 => ?_
      have k9 := k8.trans kk
      clear kk
      refine app_ref (x := "BadSize") (fs := ["n"]) (tag := .str "size") (vs := [.int (-1)]) (ds := [.str "size", .int (-1)]) rfl e9 (by first | (simp only [List.length_append, List.length_cons, List.length_nil, List.length_replicate]; omega)) t9 (fun H1 R1 E1 e1 rz => ⟨_, rfl, v, ls, rfl, (hPl.ms (ms_keepN eFl rfl k9)).ms (ms_ext e1), po, fun r o H2 s2 ⟨dx, dd, hr0⟩ => ⟨r, dx, _, rfl, hr0, rwf_no _ _ _ _ (by decide +kernel) (by decide +kernel) (by decide +kernel) (by decide +kernel), _, rfl, sz3, fun tw htw => ⟨r, tw, .int (-1), v, v, o, .int (0 : Nat), .int 5, .int 0, ls, rfl, RwAt.same ⟨dx, dd, hr0⟩ (Same.new _ (Same.refl H2) htw), ((hPl.ms (ms_keepN eFl rfl k9)).ms (ms_ext e1)).same (s2.trans (Same.new _ (Same.refl H2) htw)), upd_same, lp_zero lz fun l0 h0 => by rw [hl] at h0; cases h0; exact .inr ⟨0, rfl, fun z => absurd ⟨by omega, by omega⟩ z, fun kk ek hk => .inr ⟨-1, rfl, fun z => absurd z.1 (by decide), rz.same (s2.trans (Same.new _ (Same.refl H2) htw))⟩⟩⟩⟩⟩) (by simp) rfl (fun H2 R2 e2 key => ⟨_, rfl, sz2, key⟩) (.cons (.str _) (.cons (.int _) .nil)) sh2 fun H10 kk e10 t10 => ?_
      have k10 := k9.trans kk
      clear kk
      refine app_ref (x := "NoLoop") (fs := ["loop"]) (tag := .int 1) (vs := [.int 9]) (ds := [.int 1, .int 9]) rfl e10 (by first | (simp only [List.length_append, List.length_cons, List.length_nil, List.length_replicate]; omega)) t10 (fun H1 R1 E1 e1 rz => ⟨_, rfl, v, ls, rfl, (hPl.ms (ms_keepN eFl rfl k10)).ms (ms_ext e1), po, fun r o H2 s2 ⟨dx, dd, hr0⟩ => ⟨r, dx, _, rfl, hr0, rwf_no _ _ _ _ (by decide +kernel) (by decide +kernel) (by decide +kernel) (by decide +kernel), _, _, rfl, rfl, ⟨by decide, by decide, by decide⟩, _, _, rfl, rfl, sz3, fun tw htw => ⟨r, tw, _, v, v, o, .int 9, .int 5, .int 0, ls, rfl, RwAt.same ⟨dx, dd, hr0⟩ (Same.new _ (Same.refl H2) htw), ((hPl.ms (ms_keepN eFl rfl k10)).ms (ms_ext e1)).same (s2.trans (Same.new _ (Same.refl H2) htw)), upd_same, .inr ⟨9, rfl, fun _ => rz.same (s2.trans (Same.new _ (Same.refl H2) htw)), fun j ej hj => absurd l6 (by omega)⟩⟩⟩⟩) (by simp) rfl (fun H2 R2 e2 key => ⟨sz2, key⟩) (.cons (.int _) (.cons (.int _) .nil)) (tag1_sh ((lay_int _).mono (by decide))) fun H11 kk e11 t11 => ?_
      have k11 := k10.trans kk
      clear kk
      have e11 : H11 lf = some (.lst (List.replicate 24 (.bl true))) := e11
      have e30 : (10 : Int) ^ (30 : Int).toNat = 1000000000000000000000000000000 := by decide +kernel
      try dsimp only
      refine ⟨_, rfl, sz1l _ (by show 6 < 1000; decide), fun L2 hL2 => ?_⟩
      have s12 := Same.new (.lst [.int 1, .int 0, .int (-2), .non, .bl true, .str "2", .int 17]) (Same.refl H11) hL2
      have n2 : L2 ≠ lf := fun z => by
        rw [z, e11] at hL2
        cases hL2
      have bads2 : ∀ (i : Nat) (x : V), ([.int 1, .int 0, .int (-2), .non, .bl true, .str "2", .int 17] : List V)[i]? = some x → ∃ d, BadM 16 x d := fun i x hx => by
        match i, hx with
        | 0, hx => cases hx; exact ⟨_, fun _ => .int _, (lay_int _).mono (by decide), .inr ⟨_, rfl, fun z => absurd z.1 (by decide)⟩⟩
        | 1, hx => cases hx; exact ⟨_, fun _ => .int _, (lay_int _).mono (by decide), .inr ⟨_, rfl, fun z => absurd z.1 (by decide)⟩⟩
        | 2, hx => cases hx; exact ⟨_, fun _ => .int _, (lay_int _).mono (by decide), .inr ⟨_, rfl, fun z => absurd z.1 (by decide)⟩⟩
        | 3, hx => cases hx; exact ⟨_, fun _ => .non, lay_non.mono (by decide), .inl fun _ => .non⟩
        | 4, hx => cases hx; exact ⟨.bool true, fun _ => .bl _, ⟨rfl, by simp [PyData.depth]⟩, .inl fun _ => .bl _⟩
        | 5, hx => cases hx; exact ⟨_, fun _ => .str _, (lay_str (by decide +kernel)).mono (by decide), .inl fun _ => .str _⟩
        | 6, hx => cases hx; exact ⟨_, fun _ => .int _, (lay_int _).mono (by decide), .inr ⟨_, rfl, fun z => absurd z.2 (by decide)⟩⟩
      have eL2 : (upd H11 L2 (.lst [.int 1, .int 0, .int (-2), .non, .bl true, .str "2", .int 17])) L2 = some (.lst [.int 1, .int 0, .int (-2), .non, .bl true, .str "2", .int 17]) := upd_same
      have t12 : LamX.Tabs TS (upd H11 L2 (.lst [.int 1, .int 0, .int (-2), .non, .bl true, .str "2", .int 17])) := t11.ext fun b o e => s12 _ _ e
      have f12 := s12 _ _ e11
      have k12 : KeepN lf Hl (upd H11 L2 (.lst [.int 1, .int 0, .int (-2), .non, .bl true, .str "2", .int 17])) := k11.trans (KeepN.same s12)
      obtain ⟨H12, eH12⟩ : ∃ X, X = upd H11 L2 (.lst [.int 1, .int 0, .int (-2), .non, .bl true, .str "2", .int 17]) := ⟨_, rfl⟩
      rw [← eH12] at eL2 t12 f12 k12 ⊢
      refine ⟨L2, rfl, ⟨_, SqL.of eL2⟩, ?_⟩
      refine for_list (K := K) (xs := [.int 1, .int 0, .int (-2), .non, .bl true, .str "2", .int 17]) (fun i σ Hc => ∃ (v4 : Option V), σ = [some v, some (.int (l.sts.length : Nat)), some (.ref lf), v3, v4] ∧ Hc lf = some (.lst (List.replicate (24 + 2 * i) (.bl true))) ∧ i ≤ 7 ∧ KeepN lf H12 Hc ∧ LamX.Tabs TS Hc) ⟨_, rfl, f12, by omega, KeepN.refl _ _, t12⟩ (fun i σ' H' _ ⟨_, _, _, _, z, _⟩ => SqL.of (z _ _ n2 (fun _ z => by cases z) eL2)) ?_ ?_
      · rintro i x σ Hc hx ⟨v4, rfl, q0, i7, w0, u0⟩
        obtain ⟨d, bm⟩ := bads2 i x hx
        have i6 : i < 7 := (List.getElem?_eq_some_iff.mp hx).1
        have lb : (List.replicate (24 + 2 * i) (V.bl true)).length = 24 + 2 * i := List.length_replicate
        refine normG (σ' := [some v, some (.int (l.sts.length : Nat)), some (.ref lf), v3, some x]) rfl ?_
        try dsimp only
        refine app_ref (x := "BadMany") (fs := ["many"]) (tag := .str "many") (vs := [x]) (ds := [.str "many", d]) rfl q0 (by first | omega | (simp only [List.length_append, List.length_cons, List.length_nil]; omega)) u0 (fun H1 R1 E1 e1 rz => ⟨_, rfl, _, rfl, v, .int (0 : Nat), x, ls, rfl, (hPl.ms (ms_keepN eFl rfl (k12.trans w0))).ms (ms_ext e1), po, lp_zero lz fun l0 h0 => bm.arg (by decide) rz⟩) (by simp) rfl (fun H2 R2 e2 key => ⟨_, rfl, sz2, key⟩) (.cons (.str _) (.cons (bm.dt _) .nil)) (tag2_sh (by decide +kernel) bm.lay) fun H1_ kk q1 u1 => ?_
        have w1 := w0.trans kk
        clear kk
        refine app_ref (x := "BadMany") (fs := ["many"]) (tag := .str "many") (vs := [x]) (ds := [.str "many", d]) rfl q1 (by first | omega | (simp only [List.length_append, List.length_cons, List.length_nil]; omega)) u1 (fun H1 R1 E1 e1 rz => ⟨_, rfl, _, rfl, v, .int (0 : Nat), x, ls, rfl, (hPl.ms (ms_keepN eFl rfl (k12.trans w1))).ms (ms_ext e1), po, lp_zero lz fun l0 h0 => bm.arg (by decide) rz⟩) (by simp) rfl (fun H2 R2 e2 key => ⟨_, rfl, sz2, key⟩) (.cons (.str _) (.cons (bm.dt _) .nil)) (tag2_sh (by decide +kernel) bm.lay) fun H2_ kk q2 u2 => ?_
        have w2 := w1.trans kk
        clear kk
        refine ⟨_, rfl, ?_, by omega, w2, u2⟩
        rw [q2]
        simp only [List.append_assoc, List.cons_append, List.nil_append]
        rw [show 24 + 2 * (i + 1) = (24 + 2 * i) + 2 by omega, show [V.bl true, V.bl true] = List.replicate 2 (V.bl true) from rfl, List.replicate_append_replicate]
      rintro σ H13 ⟨v4, rfl, e13, _, k13, t13⟩
      have e13 : H13 lf = some (.lst (List.replicate 38 (.bl true))) := e13
      have k13 := k12.trans k13
      try dsimp only
      refine ⟨_, _, rfl, rfl, ⟨by decide, by decide, by decide⟩, sz1l _ (by show 3 < 1000; decide), fun L3 hL3 => ?_⟩
      have s14 := Same.new (.tup [.int 5, .int 6, .int 16, .int ((10 : Int) ^ (30 : Int).toNat)]) (Same.refl H13) hL3
      have n3 : L3 ≠ lf := fun z => by
        rw [z, e13] at hL3
        cases hL3
      have bads3 : ∀ (i : Nat) (x : V), ([.int 5, .int 6, .int 16, .int ((10 : Int) ^ (30 : Int).toNat)] : List V)[i]? = some x → ∃ d, BadM 4 x d := fun i x hx => by
        match i, hx with
        | 0, hx => cases hx; exact ⟨_, fun _ => .int _, (lay_int _).mono (by decide), .inr ⟨_, rfl, fun z => absurd z.2 (by decide)⟩⟩
        | 1, hx => cases hx; exact ⟨_, fun _ => .int _, (lay_int _).mono (by decide), .inr ⟨_, rfl, fun z => absurd z.2 (by decide)⟩⟩
        | 2, hx => cases hx; exact ⟨_, fun _ => .int _, (lay_int _).mono (by decide), .inr ⟨_, rfl, fun z => absurd z.2 (by decide)⟩⟩
        | 3, hx => cases hx; exact ⟨_, fun _ => .int _, (lay_int _).mono (by decide), .inr ⟨_, rfl, fun z => by rw [e30] at z; omega⟩⟩
      have eL3 : (upd H13 L3 (.tup [.int 5, .int 6, .int 16, .int ((10 : Int) ^ (30 : Int).toNat)])) L3 = some (.tup [.int 5, .int 6, .int 16, .int ((10 : Int) ^ (30 : Int).toNat)]) := upd_same
      have t14 : LamX.Tabs TS (upd H13 L3 (.tup [.int 5, .int 6, .int 16, .int ((10 : Int) ^ (30 : Int).toNat)])) := t13.ext fun b o e => s14 _ _ e
      have f14 := s14 _ _ e13
      have k14 : KeepN lf Hl (upd H13 L3 (.tup [.int 5, .int 6, .int 16, .int ((10 : Int) ^ (30 : Int).toNat)])) := k13.trans (KeepN.same s14)
      obtain ⟨H14, eH14⟩ : ∃ X, X = upd H13 L3 (.tup [.int 5, .int 6, .int 16, .int ((10 : Int) ^ (30 : Int).toNat)]) := ⟨_, rfl⟩
      rw [← eH14] at eL3 t14 f14 k14 ⊢
      refine ⟨L3, rfl, ⟨_, SqT.of eL3⟩, ?_⟩
      refine for_tup (K := K) (xs := [.int 5, .int 6, .int 16, .int ((10 : Int) ^ (30 : Int).toNat)]) (fun i σ Hc => ∃ (v4 : Option V), σ = [some v, some (.int (l.sts.length : Nat)), some (.ref lf), v3, v4] ∧ Hc lf = some (.lst (List.replicate (38 + i) (.bl true))) ∧ i ≤ 4 ∧ KeepN lf H14 Hc ∧ LamX.Tabs TS Hc) ⟨_, rfl, f14, by omega, KeepN.refl _ _, t14⟩ (fun i σ' H' _ ⟨_, _, _, _, z, _⟩ => SqT.of (z _ _ n3 (fun _ z => by cases z) eL3)) ?_ ?_
      · rintro i x σ Hc hx ⟨v5, rfl, q0, i7, w0, u0⟩
        obtain ⟨d, bm⟩ := bads3 i x hx
        have i6 : i < 4 := (List.getElem?_eq_some_iff.mp hx).1
        have lb : (List.replicate (38 + i) (V.bl true)).length = 38 + i := List.length_replicate
        refine normG (σ' := [some v, some (.int (l.sts.length : Nat)), some (.ref lf), v3, some x]) rfl ?_
        try dsimp only
        refine app_ref (x := "BadMany") (fs := ["many"]) (tag := .str "many") (vs := [x]) (ds := [.str "many", d]) rfl q0 (by first | omega | (simp only [List.length_append, List.length_cons, List.length_nil]; omega)) u0 (fun H1 R1 E1 e1 rz => ⟨_, rfl, _, rfl, v, .int (0 : Nat), x, ls, rfl, (hPl.ms (ms_keepN eFl rfl (k14.trans w0))).ms (ms_ext e1), po, lp_zero lz fun l0 h0 => bm.arg (by decide) rz⟩) (by simp) rfl (fun H2 R2 e2 key => ⟨_, rfl, sz2, key⟩) (.cons (.str _) (.cons (bm.dt _) .nil)) (tag2_sh (by decide +kernel) bm.lay) fun H1_ kk q1 u1 => ?_
        have w1 := w0.trans kk
        clear kk
        refine ⟨_, rfl, ?_, by omega, w1, u1⟩
        rw [q1, show 38 + (i + 1) = (38 + i) + 1 by omega, show [V.bl true] = List.replicate 1 (V.bl true) from rfl, List.replicate_append_replicate]
      rintro σ H15 ⟨v5, rfl, e15, _, k15, t15⟩
      have e15 : H15 lf = some (.lst (List.replicate 42 (.bl true))) := e15
      have k16 := k14.trans k15
      try dsimp only
      refine ⟨_, rfl, _, _, rfl, .inl (SqL.of e15), rfl, by decide, ?_⟩
      exact k H15 (fun a o h n => k16 a o (ne_of_none h hlf) n (sl _ _ h)) t15
end
end K49
set_option maxHeartbeats 2000000
namespace GQ
open PySem PySem.SeqAt
open AutoSeq1 (wpAny_loadPart')
open MeetsSeq MeetsSeq2 MeetsSeq3 SeqRoads2
section
variable {prog : Program} {w : World} {A : Around} {R : Result → Shared → Prop}
def HasL (l b : Addr) (N : Nat) (s : Shared) : Prop := ∃ (items items2 : Array Value) (n n2 : Nat), s.heap.get? l = some { cls := .type "list", data := .seq items n } ∧ s.heap.get? b = some { cls := .type "list", data := .seq items2 n2 } ∧ items.size = N ∧ items2.size = N
def ListF (prog : Program) (w : World) (A : Around) (E : Value → Shared → Prop) (l b : Addr) (N k : Nat) (I : Nat → Shared → Prop) (J : Shared → Prop) : Prop :=
  ∀ i s, I i s → ∃ (items items2 : Array Value) (n n2 : Nat), s.heap.get? l = some { cls := .type "list", data := .seq items n } ∧ s.heap.get? b = some { cls := .type "list", data := .seq items2 n2 } ∧ items.size = N ∧ items2.size = N ∧
    ∀ (h1 : i < items.size) (h2 : i < items2.size), (i < k → wpAny (model prog w) A.in1 (eqBool items[i] items2[i]) (fun r s' => r = true ∧ I (i + 1) s') E s) ∧ (i = k → wpAny (model prog w) A.in1 (eqBool items[i] items2[i]) (fun r s' => r = false ∧ J s') E s)
theorem eq_loopF (l b : Addr) (N k : Nat) (hk : k < N) (I : Nat → Shared → Prop) (J : Shared → Prop) (hl : ListF prog w A (fun e s' => R (.error e) s') l b N k I J) (hJ : ∀ s, J s → HasL l b N s)
    (fin : ∀ s, J s → R (.ok (.ret (.bool false))) s) (m : Nat) :
    ∀ i : Nat, k - i = m → i ≤ k → ∀ s, I i s →
      wpAny (model prog w) A.in1 (Builtin.«list.__eq__.loop» ⟨[.ref l, .ref b, rawInt i, rawInt 2], []⟩) (FinOf prog w A R) (fun e s' => R (.error e) s') s := by
  induction m with
  | zero =>
    intro i hm hi s h
    have hik : i = k := by omega
    obtain ⟨items, items2, n, n2, hl1, hb1, hs1, hs2, turn⟩ := hl _ _ h
    have hlt : i < items.size := by omega
    have hlt2 : i < items2.size := by omega
    have ht := (turn hlt hlt2).2 hik
    obtain ⟨hp, g, d, tk, os⟩ := s
    wp_walk using wpAny_loadPart' hl1, wpAny_loadPart' hb1
    have hi1 : items[((i : Nat) : Int).toNat]? = some items[i] := by simp [hlt]
    have hi2 : items2[((i : Nat) : Int).toNat]? = some items2[i] := by simp [hlt2]
    rw [hi1, hi2]
    refine wpAny_bind (wpAny_mono ht (fun r s2 h2 => ?_) fun _ _ x => x)
    obtain ⟨hr, h2⟩ := h2
    subst hr
    have hR : R (.ok (.ret (.bool false))) s2 := fin _ h2
    obtain ⟨its, its2, k1, k2, g1, g2, z1, z2⟩ := hJ _ h2
    have hj1 : i < its.size := by omega
    have hj2 : i < its2.size := by omega
    obtain ⟨hp2, g2', d2, tk2, os2⟩ := s2
    wp_walk using wpAny_loadPart' g1, wpAny_loadPart' g2
    have hi3 : its[((i : Nat) : Int).toNat]? = some its[i] := by simp [hj1]
    have hi4 : its2[((i : Nat) : Int).toNat]? = some its2[i] := by simp [hj2]
    rw [hi3, hi4]
    wp_walk
    exact hR
  | succ m ih =>
    intro i hm hi s h
    obtain ⟨items, items2, n, n2, hl1, hb1, hs1, hs2, turn⟩ := hl _ _ h
    have hlt : i < items.size := by omega
    have hlt2 : i < items2.size := by omega
    have ht := (turn hlt hlt2).1 (by omega)
    obtain ⟨hp, g, d, tk, os⟩ := s
    wp_walk using wpAny_loadPart' hl1, wpAny_loadPart' hb1
    have hi1 : items[((i : Nat) : Int).toNat]? = some items[i] := by simp [hlt]
    have hi2 : items2[((i : Nat) : Int).toNat]? = some items2[i] := by simp [hlt2]
    have hc : ((i : Int) + 1) = ((i + 1 : Nat) : Int) := by omega
    rw [hi1, hi2]
    refine wpAny_bind (wpAny_mono ht (fun r s2 h2 => ?_) fun _ _ x => x)
    obtain ⟨hr, h2⟩ := h2
    subst hr
    have hrec := ih (i + 1) (by omega) (by omega) s2 h2
    obtain ⟨hp2, g2, d2, tk2, os2⟩ := s2
    wp_walk
    rw [hc]
    exact ⟨plainId_quiet plain_eq_loop _, codeAny_builtin entry_eq_loop (by
      rw [Around.under_plainId plain_eq_loop _]
      exact hrec)⟩
theorem list_eqF (l b : Addr) (N k : Nat) (hk : k < N) (I : Nat → Shared → Prop) (J : Shared → Prop) (hl : ListF prog w A (fun e s' => R (.error e) s') l b N k I J) (hJ : ∀ s, J s → HasL l b N s)
    (fin : ∀ s, J s → R (.ok (.ret (.bool false))) s) {s : Shared} (h : I 0 s) :
    wpAny (model prog w) A.in1 (Builtin.«list.__eq__» ⟨[.ref l, .ref b], []⟩) (FinOf prog w A R) (fun e s' => R (.error e) s') s := by
  obtain ⟨items, items2, n, n2, hl1, hb1, hs1, hs2, _⟩ := hl _ _ h
  have hrec := eq_loopF (A := A) (R := R) l b N k hk I J hl hJ fin _ 0 rfl (Nat.zero_le _) s h
  obtain ⟨hp, g, d, tk, os⟩ := s
  have f3 := AutoSeq1.sub_list_list
  have hne : ¬ (items.size != items2.size) = true := by simp [hs1, hs2]
  wp_walk using wpAny_loadPart' hl1, wpAny_loadPart' hb1
  exact ⟨plainId_quiet plain_eq_loop _, codeAny_builtin entry_eq_loop (by
    rw [Around.under_plainId plain_eq_loop _]
    exact hrec)⟩
theorem tuple_eqF (l b : Addr) (items items2 : Array Value) (n n2 : Nat) (dd dd2 : Option Addr) (sl sl2 : Array (Option Value)) (hsz : items.size = items2.size) (k : Nat) (hk : k < items.size) (I : Nat → Shared → Prop) (J : Shared → Prop)
    (turn : ∀ i (h1 : i < items.size) (h2 : i < items2.size) s, I i s → (i < k → wpAny (model prog w) A.in1 (eqBool items[i] items2[i]) (fun r s' => r = true ∧ I (i + 1) s') (fun e s' => R (.error e) s') s) ∧ (i = k → wpAny (model prog w) A.in1 (eqBool items[i] items2[i]) (fun r s' => r = false ∧ J s') (fun e s' => R (.error e) s') s))
    (fin : ∀ s, J s → R (.ok (.ret (.bool false))) s) {s : Shared} (hl1 : s.heap.get? l = some { cls := .type "tuple", dict := dd, data := .seq items n, slots := sl }) (hb1 : s.heap.get? b = some { cls := .type "tuple", dict := dd2, data := .seq items2 n2, slots := sl2 }) (h : I 0 s) :
    wpAny (model prog w) A.in1 (Builtin.«tuple.__eq__» ⟨[.ref l, .ref b], []⟩) (FinOf prog w A R) (fun e s' => R (.error e) s') s := by
  have f2 := AutoSeq1.sub_tuple_tuple
  have hZ : (items.toList.zip items2.toList).length = items.size := by simp [hsz]
  have h0 := h
  obtain ⟨hp, g, d, tk, os⟩ := s
  wp_walk using wpAny_loadPart' hl1, wpAny_loadPart' hb1, wpAny_forIn_list _ (fun rest b s' => (b.1 = none ∧ ∃ i, rest = (items.toList.zip items2.toList).drop i ∧ i ≤ k ∧ I i s') ∨ (rest = [] ∧ b.1 = some (.done (.ret (.bool false))) ∧ J s')) _
  case turn =>
    rintro ⟨y, x⟩ rest b s' (⟨hb', i, hz, hi, hI⟩ | ⟨hz, _, _⟩)
    rotate_left
    · cases hz
    have hlt : i < (items.toList.zip items2.toList).length := by
      rcases Nat.lt_or_ge i (items.toList.zip items2.toList).length with h' | h'
      · exact h'
      · rw [List.drop_of_length_le h'] at hz; cases hz
    have h1 : i < items.size := hZ ▸ hlt
    have h2 : i < items2.size := hsz ▸ h1
    rw [List.drop_eq_getElem_cons hlt] at hz
    injection hz with hyx hrest
    have hy : y = items[i] := by have := congrArg Prod.fst hyx; simpa using this
    have hx : x = items2[i] := by have := congrArg Prod.snd hyx; simpa using this
    subst hy hx
    rcases Nat.lt_or_ge i k with q | q
    · refine wpAny_bind (wpAny_mono ((turn i h1 h2 s' hI).1 q) (fun r s2 q2 => ?_) fun _ _ x => x)
      obtain ⟨hr, q2⟩ := q2
      subst hr
      wp_walk
      exact .inl ⟨rfl, i + 1, hrest, q, q2⟩
    · have hik : i = k := by omega
      refine wpAny_bind (wpAny_mono ((turn i h1 h2 s' hI).2 hik) (fun r s2 q2 => ?_) fun _ _ x => x)
      obtain ⟨hr, q2⟩ := q2
      subst hr
      wp_walk
      exact fin _ q2
  case fin =>
    rintro ⟨b1, b2⟩ s' (⟨hb', i, hz, hi, hI⟩ | ⟨_, hb', hJ⟩)
    · have hge : items.size ≤ i := by
        rcases Nat.lt_or_ge i (items.toList.zip items2.toList).length with h' | h'
        · rw [List.drop_eq_getElem_cons h'] at hz; cases hz
        · exact hZ ▸ h'
      omega
    · simp only at hb'
      subst hb'
      have hR : R (.ok (.ret (.bool false))) s' := fin s' hJ
      wp_walk
      exact hR
  case h =>
    exact .inl ⟨rfl, 0, rfl, Nat.zero_le _, h0⟩
end
section
variable {prog : Program} {w : World} {A : Around} {E : Value → Shared → Prop} {s : Shared}
theorem rc_listF {l b : Addr} {N k : Nat} {Q : Value → Shared → Prop} (hu : A.units < cLine) (hk : k < N) (I : Nat → Shared → Prop) (J : Shared → Prop) (hl : ListF prog w A E l b N k I J) (hJ : ∀ s, J s → HasL l b N s)
    (fin : ∀ s, J s → Q (.bool false) s) (h : I 0 s) : wpAny (model prog w) A (richCompare .Eq (.ref l) (.ref b)) Q E s := by
  obtain ⟨items, items2, n, n2, hl1, hb1, _, _, _⟩ := hl _ _ h
  refine wpAny_richCompare_same_room (op := .Eq) ⟨_, hl1, rfl⟩ ⟨_, hb1, rfl⟩ F.slot_list_eq (call_here F.slot_list_eq ⟨_, hl1, rfl⟩ F.entry_list_eq (F.args_list_eq_2 _ _) ?_) hu
  exact list_eqF (R := wants (fun v s' => v ≠ .notImplemented ∧ Q v s') E) l b N k hk I J hl hJ (fun s' q => ⟨(fun x => nomatch x), fin s' q⟩) h
theorem rc_tupF {l b : Addr} {items items2 : Array Value} {Q : Value → Shared → Prop} (hsz : items.size = items2.size) (hu : A.units < cLine) (k : Nat) (hk : k < items.size) (I : Nat → Shared → Prop) (J : Shared → Prop)
    (hl : s.heap.IsTuple l items) (hb : s.heap.IsTuple b items2)
    (turn : ∀ i (h1 : i < items.size) (h2 : i < items2.size) s, I i s → (i < k → wpAny (model prog w) A.in1 (eqBool items[i] items2[i]) (fun r s' => r = true ∧ I (i + 1) s') E s) ∧ (i = k → wpAny (model prog w) A.in1 (eqBool items[i] items2[i]) (fun r s' => r = false ∧ J s') E s))
    (fin : ∀ s, J s → Q (.bool false) s) (h : I 0 s) : wpAny (model prog w) A (richCompare .Eq (.ref l) (.ref b)) Q E s := by
  obtain ⟨⟨cls, dd, data, sl⟩, ho, hc, n, hd⟩ := id hl
  obtain ⟨⟨cls2, dd2, data2, sl2⟩, ho2, hc2, n2, hd2⟩ := id hb
  simp only at hc hd hc2 hd2
  subst hc hd hc2 hd2
  refine wpAny_richCompare_same_room (op := .Eq) ⟨_, ho, rfl⟩ ⟨_, ho2, rfl⟩ F.slot_tuple_eq (call_here F.slot_tuple_eq ⟨_, ho, rfl⟩ F.entry_tuple_eq (F.args_tuple_eq_2 _ _) ?_) hu
  exact tuple_eqF (R := wants (fun v s' => v ≠ .notImplemented ∧ Q v s') E) l b items items2 n n2 dd dd2 sl sl2 hsz k hk I J turn (fun s' q => ⟨(fun x => nomatch x), fin s' q⟩) ho ho2 h
end
end GQ
namespace Z
open PySem PySem.Spec PyProof.Rows L2
/-- == gives False for what D says, and only makes objects -/
def EqF (X : Cx) (n : Nat) (D : Eqv) : Prop :=
  ∀ (A : Around) (pins : List (Addr × Obj)) (s : Shared) (σ : L2.St) (H : Hp) (x y : V) (u v : Value), Sub X n A → Inv X pins σ H s → RelV x u → RelV y v → D x y H →
    wpAny (model X.prog X.w) A (eqBool u v) (fun r s' => r = false ∧ ∃ H', Inv X pins σ H' s' ∧ Ext H H') X.xe s
def RcF (X : Cx) (n : Nat) (D : Eqv) : Prop :=
  ∀ (A : Around) (pins : List (Addr × Obj)) (s : Shared) (σ : L2.St) (H : Hp) (x y : V) (u v : Value), Sub X n A → Inv X pins σ H s → RelV x u → RelV y v → D x y H →
    wpAny (model X.prog X.w) A (richCompare .Eq u v) (fun r s' => r = .bool false ∧ ∃ H', Inv X pins σ H' s' ∧ Ext H H') X.xe s
/-- flat values that differ -/
def NFlat : Eqv := fun x y _ => flatV x = true ∧ flatV y = true ∧ eqV x y = false
theorem mon_nflat : Mon NFlat := fun _ _ _ _ _ d => d
section
variable {X : Cx} {n m : Nat} {D F : Eqv}
theorem EqF.mono (h : EqF X n D) (hn : n ≤ m) : EqF X m D := fun A pins s σ H x y u v sb => h A pins s σ H x y u v (sb.mono hn)
theorem eqF_flat : EqF X 0 NFlat := by
  intro A pins s σ H x y u v sb I rx ry d
  obtain ⟨fx, fy, e⟩ := d
  have q := eqAt_V (A := A) (s := s) rx ry fx fy
  rw [e] at q
  exact q X.prog X.w X.xe _ ⟨rfl, H, I, Ext.rfl'⟩
/-- equal ahead of k, not equal there -/
def PrF (D F : Eqv) (k : Nat) (xs ys : List V) (H : Hp) : Prop := xs.length = ys.length ∧ k < xs.length ∧ (∀ (i : Nat) x y, i < k → xs[i]? = some x → ys[i]? = some y → D x y H) ∧ ∀ x y, xs[k]? = some x → ys[k]? = some y → F x y H
theorem PrF.mon (hD : Mon D) (hF : Mon F) {k : Nat} {xs ys : List V} {H H' : Hp} (e : Ext H H') (p : PrF D F k xs ys H) : PrF D F k xs ys H' := ⟨p.1, p.2.1, fun i x y hi h1 h2 => hD x y H H' e (p.2.2.1 i x y hi h1 h2), fun x y h1 h2 => hF x y H H' e (p.2.2.2 x y h1 h2)⟩
theorem turnF (hD : Mon D) (hF : Mon F) (h : EqG X n D) (h' : EqF X n F) {A : Around} (sb : Sub X (n + 1) A) {pins : List (Addr × Obj)} {σ : L2.St} {H : Hp} {k : Nat} {xs ys : List V} {its its2 : List Value} (p : PrF D F k xs ys H) (r : Vals xs its) (r2 : Vals ys its2)
    (i : Nat) (h1 : i < its.toArray.size) (h2 : i < its2.toArray.size) (s' : Shared) (l : LoopI X pins σ H s') :
    (i < k → wpAny (model X.prog X.w) A.in1 (eqBool its.toArray[i] its2.toArray[i]) (fun r s2 => r = true ∧ LoopI X pins σ H s2) X.xe s') ∧ (i = k → wpAny (model X.prog X.w) A.in1 (eqBool its.toArray[i] its2.toArray[i]) (fun r s2 => r = false ∧ LoopI X pins σ H s2) X.xe s') := by
  obtain ⟨H1, I1, e1⟩ := l
  have g1 : its[i]? = some its.toArray[i] := by
    have h1' : i < its.length := by simpa using h1
    rw [List.getElem?_eq_getElem h1'] <;> simp
  have g2 : its2[i]? = some its2.toArray[i] := by
    have h2' : i < its2.length := by simpa using h2
    rw [List.getElem?_eq_getElem h2'] <;> simp
  have k1 : i < xs.length := by rw [r.length]; simpa using h1
  have k2 : i < ys.length := by rw [r2.length]; simpa using h2
  obtain ⟨u, hu, ru⟩ := r.get (List.getElem?_eq_getElem k1)
  obtain ⟨v, hv, rv⟩ := r2.get (List.getElem?_eq_getElem k2)
  rw [g1] at hu
  rw [g2] at hv
  rw [Option.some.inj hu, Option.some.inj hv]
  refine ⟨fun hi => ?_, fun hi => ?_⟩
  · refine wpAny_mono (h A.in1 pins s' σ H1 _ _ u v sb.in1 I1 ru rv (hD _ _ _ _ e1 (p.2.2.1 i _ _ hi (List.getElem?_eq_getElem k1) (List.getElem?_eq_getElem k2)))) (fun r s2 q => ?_) fun _ _ x => x
    obtain ⟨hr, H2, I2, e2⟩ := q
    exact ⟨hr, H2, I2, e1.trans e2⟩
  · subst hi
    refine wpAny_mono (h' A.in1 pins s' σ H1 _ _ u v sb.in1 I1 ru rv (hF _ _ _ _ e1 (p.2.2.2 _ _ (List.getElem?_eq_getElem k1) (List.getElem?_eq_getElem k2)))) (fun r s2 q => ?_) fun _ _ x => x
    obtain ⟨hr, H2, I2, e2⟩ := q
    exact ⟨hr, H2, I2, e1.trans e2⟩
def DListF (D F : Eqv) : Eqv := fun x y H => ∃ a b xs ys k, x = .ref a ∧ y = .ref b ∧ H a = some (.lst xs) ∧ H b = some (.lst ys) ∧ PrF D F k xs ys H
def DTupF (K : PySem.W.Frag) (D F : Eqv) : Eqv := fun x y H => ∃ a b xs ys k, x = .ref a ∧ y = .ref b ∧ a ≠ b ∧ SqT K H a xs ∧ SqT K H b ys ∧ PrF D F k xs ys H
theorem mon_tupF {K : PySem.W.Frag} (hD : Mon D) (hF : Mon F) : Mon (DTupF K D F) := fun x y H H' e d => by
  obtain ⟨a, b, xs, ys, k, hx, hy, n, h1, h2, p⟩ := d
  exact ⟨a, b, xs, ys, k, hx, hy, n, h1.ext e, h2.ext e, p.mon hD hF e⟩
theorem rcF_list (hD : Mon D) (hF : Mon F) (h : EqG X n D) (h' : EqF X n F) : RcF X (n + 1) (DListF D F) := by
  intro A pins s σ H x y u v sb I rx ry d
  obtain ⟨a, b, xs, ys, k, rfl, rfl, ha, hb, p⟩ := d
  cases rx
  cases ry
  have has : ∀ s', LoopI X pins σ H s' → GQ.HasL a b xs.length s' := fun s' q => by
    obtain ⟨H1, I1, e1⟩ := id q
    obtain ⟨z, its, k, r, e⟩ := I1.hok a _ (e1 _ _ ha)
    obtain ⟨z2, its2, k2, r2, e2⟩ := I1.hok b _ (e1 _ _ hb)
    exact ⟨its.toArray, its2.toArray, k, k2, e, e2, by rw [List.size_toArray, ← r.length], by rw [List.size_toArray, ← r2.length, ← p.1]⟩
  refine GQ.rc_listF (N := xs.length) (k := k) sb.room.units0 p.2.1 (fun _ s' => LoopI X pins σ H s') (fun s' => LoopI X pins σ H s') (fun i s' q => ?_) has (fun s' q => ⟨rfl, q⟩) ⟨H, I, Ext.rfl'⟩
  obtain ⟨H1, I1, e1⟩ := id q
  obtain ⟨z, its, k, r, e⟩ := I1.hok a _ (e1 _ _ ha)
  obtain ⟨z2, its2, k2, r2, e2⟩ := I1.hok b _ (e1 _ _ hb)
  refine ⟨its.toArray, its2.toArray, k, k2, e, e2, by rw [List.size_toArray, ← r.length], by rw [List.size_toArray, ← r2.length, ← p.1], fun h1 h2 => ?_⟩
  exact turnF hD hF h h' sb p r r2 i h1 h2 s' q
theorem rcF_tup (hD : Mon D) (hF : Mon F) (h : EqG X n D) (h' : EqF X n F) : RcF X (n + 1) (DTupF X.K D F) := by
  intro A pins s σ H x y u v sb I rx ry d
  obtain ⟨a, b, xs, ys, k, rfl, rfl, _, ha, hb, p⟩ := d
  cases rx
  cases ry
  obtain ⟨its, r, e, z⟩ := I.tuple ha
  obtain ⟨its2, r2, e2, z2⟩ := I.tuple hb
  have hsz : its.toArray.size = its2.toArray.size := by rw [List.size_toArray, List.size_toArray, ← r.length, ← r2.length]; exact p.1
  exact GQ.rc_tupF hsz sb.room.units0 k (by rw [List.size_toArray, ← r.length]; exact p.2.1) (fun _ s' => LoopI X pins σ H s') (fun s' => LoopI X pins σ H s') e e2 (fun i h1 h2 s' q => turnF hD hF h h' sb p r r2 i h1 h2 s' q) (fun s' q => ⟨rfl, q⟩) ⟨H, I, Ext.rfl'⟩
theorem RcF.eqF (h : RcF X n D) (hr : ∀ x y H, D x y H → ∃ a b, x = .ref a ∧ y = .ref b ∧ a ≠ b) : EqF X n D := by
  intro A pins s σ H x y u v sb I rx ry d
  obtain ⟨a, b, rfl, rfl, hab⟩ := hr _ _ _ d
  cases rx
  cases ry
  refine GQ.eqBool_refG hab (wpAny_mono (h A pins s σ H (.ref a) (.ref b) _ _ sb I rfl rfl d) (fun r s' q => ?_) fun _ _ x => x)
  obtain ⟨hr', q⟩ := q
  exact ⟨false, hr', rfl, q⟩
theorem eqF_tup (hD : Mon D) (hF : Mon F) (h : EqG X n D) (h' : EqF X n F) : EqF X (n + 1) (DTupF X.K D F) := (rcF_tup hD hF h h').eqF fun _ _ _ d => let ⟨a, b, _, _, _, hx, hy, hn, _⟩ := d; ⟨a, b, hx, hy, hn⟩
def rEqF (F : Eqv) : R2 := fun x y H Q => F x y H ∧ ∀ H', Ext H H' → Q (.bl false) H'
theorem op_eqF (h : RcF X n D) (hr : Room n X.A) : OpR X (compareOp .Eq) (rEqF D) := by
  intro pins s σ H x y v u Q I rx ry hq
  obtain ⟨d, q⟩ := hq
  show wpAny (model X.prog X.w) X.A (richCompare .Eq v u) (EP X pins σ Q) X.xe s
  refine wpAny_mono (h X.A pins s σ H x y v u ⟨hr, rfl⟩ I rx ry d) (fun r s' z => ?_) fun _ _ x => x
  obtain ⟨hr', H', I', e⟩ := z
  subst hr'
  exact ⟨.bl false, H', I', rfl, q H' e⟩
/-- an own == that is True, by what its def promises -/
theorem eqG_own {C : Addr} {R : Addr → Addr → Hp → Prop} {sp : Sp} (O : Om X.prog X.w X.K X.mg X.base C n "__eq__" sp) (hR : ∀ a b H (Q : VK) (E : XK), R a b H → Q (.bl true) H → sp [.ref a, .ref b] H Q E) : EqG X n (DIns C R) := by
  obtain ⟨f, fd, ps, F, hs, hf, hbd⟩ := O
  refine eqG_ins (CX := CX0) (E := E0) (F.imp (fun vs H Q E z => ?_)) hs hf hbd pass0
  obtain ⟨a, b, rfl, r, k⟩ := z
  exact hR a b H Q E r (k H Ext.rfl')
end
end Z
set_option maxHeartbeats 4000000
namespace K49
open PySem PySem.Spec PyProof.Rows L2 Z
structure EqTx (K : PySem.W.Frag) : Prop where
  iA : Inx K (CA K)
  iR : Inx K (CR K)
  kAR : PySem.W.kitOne K (.ref (CA K)) (.ref (CR K)) = some false
  kRR : PySem.W.kitOne K (.ref (CR K)) (.ref (CR K)) = some true
section
variable (K : PySem.W.Frag)
def RdP (H : Hp) (v : V) (r : RdX) : Prop := ∃ t q, v = .ref t ∧ H t = some (.tup [.str r.x, .ref q, .int r.f]) ∧ PlcAt K H q r.a r.b r.c r.d
def CdP (H : Hp) (v : V) : CdX → Prop
  | .atl a b c => ∃ t q, v = .ref t ∧ H t = some (.tup [.str "least", .ref q]) ∧ StrAt K H q a b c
  | .rst a b m r => ∃ t q, v = .ref t ∧ H t = some (.tup [.str "rest", .ref q, .int m, .int r]) ∧ StrAt K H q a b 0
def StP (P : Addr → Prop) (H : Hp) (v : V) (s : StX) : Prop := ∃ t q rl cl rs cs, v = .ref t ∧ H t = some (.tup [.str s.x, .ref q, .int s.k, .ref rl, .ref cl]) ∧ StrAt K H q s.a s.b s.c ∧ P rl ∧ H rl = some (.lst rs) ∧ Fa (RdP K H) rs s.rds ∧ P cl ∧ H cl = some (.lst cs) ∧ Fa (CdP K H) cs s.gds
def LpP (P : Addr → Prop) (H : Hp) (v : V) (l : LpX) : Prop := ∃ t lo hi pl ss, v = .ref t ∧ H t = some (.tup [.ref lo, .ref hi, .int l.S, .bl l.dn, .ref pl]) ∧ Pl4 K H lo l.t ∧ Pl4 K H hi l.u ∧ P pl ∧ H pl = some (.lst ss) ∧ Fa (StP K P H) ss l.sts
end
section
variable {K : PySem.W.Frag} {P P' : Addr → Prop} {H H' : Hp} {v : V}
theorem RdP.ms {r : RdX} (h : RdP K H v r) (m : MS H H') : RdP K H' v r := by
  obtain ⟨t, q, e, h1, h2⟩ := h
  exact ⟨t, q, e, m _ _ h1 rfl, ms_plc m h2⟩
theorem CdP.ms {g : CdX} (h : CdP K H v g) (m : MS H H') : CdP K H' v g := by
  cases g with
  | atl a b c =>
    obtain ⟨t, q, e, h1, h2⟩ := h
    exact ⟨t, q, e, m _ _ h1 rfl, ms_str m h2⟩
  | rst a b c d =>
    obtain ⟨t, q, e, h1, h2⟩ := h
    exact ⟨t, q, e, m _ _ h1 rfl, ms_str m h2⟩
theorem StP.to {s : StX} (h : StP K P H v s) (m : MS H H') (l : ∀ a xs, P a → H a = some (.lst xs) → H' a = some (.lst xs)) (i : ∀ a xs, H a = some (.lst xs) → P a → P' a) : StP K P' H' v s := by
  obtain ⟨t, q, rl, cl, rs, cs, e, h1, h2, p1, h3, f3, p2, h4, f4⟩ := h
  exact ⟨t, q, rl, cl, rs, cs, e, m _ _ h1 rfl, ms_str m h2, i _ _ h3 p1, l _ _ p1 h3, f3.imp fun _ _ z => z.ms m, i _ _ h4 p2, l _ _ p2 h4, f4.imp fun _ _ z => z.ms m⟩
theorem LpP.to {s : LpX} (h : LpP K P H v s) (m : MS H H') (l : ∀ a xs, P a → H a = some (.lst xs) → H' a = some (.lst xs)) (i : ∀ a xs, H a = some (.lst xs) → P a → P' a) : LpP K P' H' v s := by
  obtain ⟨t, lo, hi, pl, ss, e, h1, h2, h3, p1, h4, f4⟩ := h
  exact ⟨t, lo, hi, pl, ss, e, m _ _ h1 rfl, ms_plc m h2, ms_plc m h3, i _ _ h4 p1, l _ _ p1 h4, f4.imp fun _ _ z => z.to m l i⟩
theorem StP.same {s : StX} (h : StP K P H v s) (s1 : Same H H') : StP K P H' v s := h.to (.of s1) (fun _ _ _ z => s1 _ _ z) fun _ _ _ z => z
theorem LpP.same {l : LpX} (h : LpP K P H v l) (s1 : Same H H') : LpP K P H' v l := h.to (.of s1) (fun _ _ _ z => s1 _ _ z) fun _ _ _ z => z
end
def spCParts (K : PySem.W.Frag) : Sp := fun vs H Q _ => ∃ (v : V) (g : CdX), vs = [v] ∧ CdXo K H v g ∧ ∀ v' H', Same H H' → CdP K H' v' g → Q v' H'
def spSParts (K : PySem.W.Frag) : Sp := fun vs H Q _ => ∃ (v : V) (l : LpX), vs = [v] ∧ LpXo K H v l ∧ l.sts.length ≤ 16 ∧ (∀ s ∈ l.sts, StXk s) ∧ ∀ pl ss H', Same H H' → H pl = none → H' pl = some (.lst ss) → Fa (StP K (fun a => H a = none) H') ss l.sts → Q (.ref pl) H'
def spPParts (K : PySem.W.Frag) : Sp := fun vs H Q _ => ∃ (v : V) (ls : List LpX), vs = [v] ∧ PrXo K H v ls ∧ PO ls ∧ ∀ pl ws H', Same H H' → H pl = none → H' pl = some (.lst ws) → Fa (LpP K (fun _ => True) H') ws ls → Q (.ref pl) H'
section
variable (K : PySem.W.Frag)
def eqS : Eqv := DIns (CS K) fun a b H => ∃ x y z, StrAt K H a x y z ∧ StrAt K H b x y z
def eqP : Eqv := DIns (CP K) fun a b H => ∃ t, Pl4 K H a t ∧ Pl4 K H b t
def eq0 : Eqv := fun x y H => DFlat x y H ∨ (eqS K x y H ∨ eqP K x y H)
def eq1 : Eqv := DTup K (eq0 K)
def eq2 : Eqv := DList (eq1 K)
def eq3 : Eqv := DTup K fun x y H => eq0 K x y H ∨ eq2 K x y H
def eq4 : Eqv := DList (eq3 K)
def eq5 : Eqv := DTup K fun x y H => eq0 K x y H ∨ eq4 K x y H
end
section
variable {K : PySem.W.Frag} {H : Hp} {v w : V}
theorem mon0 : Mon (eq0 K) := Mon.or mon_flat (Mon.or (mon_ins fun a b H H' e ⟨x, y, z, h1, h2⟩ => ⟨x, y, z, h1.same e, h2.same e⟩) (mon_ins fun a b H H' e ⟨t, h1, h2⟩ => ⟨t, h1.same e, h2.same e⟩))
theorem mon2 : Mon (eq2 K) := mon_list (mon_tup mon0)
theorem mon4 : Mon (eq4 K) := mon_list (mon_tup (Mon.or mon0 mon2))
theorem eq0_str {x : Str} : eq0 K (.str x) (.str x) H := .inl ⟨rfl, rfl, by simp [eqV]⟩
theorem eq0_int {i : Int} : eq0 K (.int i) (.int i) H := .inl ⟨rfl, rfl, by simp [eqV]⟩
theorem eq0_bl {b : Bool} : eq0 K (.bl b) (.bl b) H := .inl ⟨rfl, rfl, by cases b <;> rfl⟩
theorem eq0_s {p q : Addr} {a b c : Int} (h1 : StrAt K H p a b c) (h2 : StrAt K H q a b c) : eq0 K (.ref p) (.ref q) H := by
  obtain ⟨d1, e1⟩ := id h1
  obtain ⟨d2, e2⟩ := id h2
  exact .inr (.inl ⟨p, q, d1, d2, _, _, rfl, rfl, e1, e2, a, b, c, h1, h2⟩)
theorem eq0_p {p q : Addr} {t : P4} (h1 : Pl4 K H p t) (h2 : Pl4 K H q t) : eq0 K (.ref p) (.ref q) H := by
  obtain ⟨d1, q1, e1, _⟩ := id h1
  obtain ⟨d2, q2, e2, _⟩ := id h2
  exact .inr (.inr ⟨p, q, d1, d2, _, _, rfl, rfl, e1, e2, t, h1, h2⟩)
theorem prs_fa {α : Type} {R R' : V → α → Prop} {D : Eqv} {xs ys : List V} {ms : List α} (h1 : Fa R xs ms) (h2 : Fa R' ys ms) (k : ∀ v w m, R v m → R' w m → D v w H) : Prs D xs ys H := by
  refine ⟨h1.1.trans h2.1.symm, fun i x y e1 e2 => ?_⟩
  obtain ⟨m, em, r⟩ := h1.at e1
  exact k _ _ m r (h2.2 i y m e2 em)
theorem eq_rd {r : RdX} (h1 : RdP K H v r) (h2 : RdP K H w r) : eq1 K v w H := by
  obtain ⟨t, q, rfl, e1, p1⟩ := h1
  obtain ⟨u, q', rfl, e2, p2⟩ := h2
  exact ⟨t, u, _, _, rfl, rfl, .inl (.inl e1), .inl (.inl e2), .cons eq0_str (.cons (eq0_p (t := (r.a, r.b, r.c, r.d)) p1 p2) (.cons eq0_int .nil))⟩
theorem eq_cd {g : CdX} (h1 : CdP K H v g) (h2 : CdP K H w g) : eq1 K v w H := by
  cases g with
  | atl a b c =>
    obtain ⟨t, q, rfl, e1, p1⟩ := h1
    obtain ⟨u, q', rfl, e2, p2⟩ := h2
    exact ⟨t, u, _, _, rfl, rfl, .inl (.inl e1), .inl (.inl e2), .cons eq0_str (.cons (eq0_s p1 p2) .nil)⟩
  | rst a b m r =>
    obtain ⟨t, q, rfl, e1, p1⟩ := h1
    obtain ⟨u, q', rfl, e2, p2⟩ := h2
    exact ⟨t, u, _, _, rfl, rfl, .inl (.inl e1), .inl (.inl e2), .cons eq0_str (.cons (eq0_s p1 p2) (.cons eq0_int (.cons eq0_int .nil)))⟩
theorem eq_st {P P' : Addr → Prop} {s : StX} (h1 : StP K P H v s) (h2 : StP K P' H w s) : eq3 K v w H := by
  obtain ⟨t, q, rl, cl, rs, cs, rfl, e1, s1, _, r1, f1, _, c1, g1⟩ := h1
  obtain ⟨t', q', rl', cl', rs', cs', rfl, e2, s2, _, r2, f2, _, c2, g2⟩ := h2
  exact ⟨t, t', _, _, rfl, rfl, .inl (.inl e1), .inl (.inl e2), .cons (.inl eq0_str) (.cons (.inl (eq0_s s1 s2)) (.cons (.inl eq0_int) (.cons (.inr ⟨rl, rl', rs, rs', rfl, rfl, r1, r2, prs_fa f1 f2 fun _ _ _ a b => eq_rd a b⟩) (.cons (.inr ⟨cl, cl', cs, cs', rfl, rfl, c1, c2, prs_fa g1 g2 fun _ _ _ a b => eq_cd a b⟩) .nil))))⟩
theorem eq_lp {P P' : Addr → Prop} {l : LpX} (h1 : LpP K P H v l) (h2 : LpP K P' H w l) : eq5 K v w H := by
  obtain ⟨t, lo, hi, pl, ss, rfl, e1, a1, b1, _, p1, f1⟩ := h1
  obtain ⟨t', lo', hi', pl', ss', rfl, e2, a2, b2, _, p2, f2⟩ := h2
  exact ⟨t, t', _, _, rfl, rfl, .inl (.inl e1), .inl (.inl e2), .cons (.inl (eq0_p a1 a2)) (.cons (.inl (eq0_p b1 b2)) (.cons (.inl eq0_int) (.cons (.inl eq0_bl) (.cons (.inr ⟨pl, pl', ss, ss', rfl, rfl, p1, p2, prs_fa f1 f2 fun _ _ _ a b => eq_st a b⟩) .nil))))⟩
/-- two loops that first differ in their steps -/
theorem ne_lp {P P' : Addr → Prop} {l l' : LpX} (h1 : LpP K P H v l) (h2 : LpP K P' H w l') (et : l.t = l'.t) (eu : l.u = l'.u) (n : l.S ≠ l'.S) : DTupF K (eq0 K) NFlat v w H := by
  obtain ⟨t, lo, hi, pl, ss, rfl, e1, a1, b1, _, p1, f1⟩ := h1
  obtain ⟨t', lo', hi', pl', ss', rfl, e2, a2, b2, _, p2, f2⟩ := h2
  rw [← et] at a2
  rw [← eu] at b2
  refine ⟨t, t', _, _, 2, rfl, rfl, fun z => ?_, .inl (.inl e1), .inl (.inl e2), rfl, (by show 2 < 5; decide), fun i x y hi h1 h2 => ?_, fun x y h1 h2 => ?_⟩
  · rw [z, e2] at e1
    have := (List.cons.inj (List.cons.inj (List.cons.inj (HO.tup.inj (Option.some.inj e1))).2).2).1
    exact n (V.int.inj this).symm
  · match i, hi, h1, h2 with
    | 0, _, h1, h2 => cases h1; cases h2; exact eq0_p a1 a2
    | 1, _, h1, h2 => cases h1; cases h2; exact eq0_p b1 b2
  · cases h1
    cases h2
    exact ⟨rfl, rfl, by simp [eqV, n]⟩
end
section
variable {X : Cx} {K : PySem.W.Frag}
theorem eqG0 (OS : Om X.prog X.w X.K X.mg X.base (CS X.K) 1 "__eq__" (spSEq X.K)) (OP : Om X.prog X.w X.K X.mg X.base (CP X.K) 2 "__eq__" (spPEq X.K)) : EqG X 2 (eq0 X.K) := by
  refine EqG.or (eqG_flat.mono (by decide)) (EqG.or ((eqG_own OS fun a b H Q E z k => ?_).mono (by decide)) (eqG_own OP fun a b H Q E z k => ?_))
  · obtain ⟨x, y, z, h1, h2⟩ := z
    refine ⟨a, x, y, z, _, rfl, h1, .inl ⟨b, x, y, z, rfl, h2, ?_⟩⟩
    rw [decide_eq_true ⟨rfl, rfl, rfl⟩]
    exact k
  · obtain ⟨t, h1, h2⟩ := z
    refine ⟨a, t.1, t.2.1, t.2.2.1, t.2.2.2, _, rfl, h1, .inl ⟨b, t.1, t.2.1, t.2.2.1, t.2.2.2, rfl, h2, ?_⟩⟩
    rw [decide_eq_true ⟨rfl, rfl, rfl, rfl⟩]
    exact k
theorem rc_parts0 (OS : Om X.prog X.w X.K X.mg X.base (CS X.K) 1 "__eq__" (spSEq X.K)) (OP : Om X.prog X.w X.K X.mg X.base (CP X.K) 2 "__eq__" (spPEq X.K)) : RcF X 8 (DListF (eq5 X.K) (DTupF X.K (eq0 X.K) NFlat)) := by
  have g0 := eqG0 OS OP
  have g2 : EqG X 4 (eq2 X.K) := eqG_list (mon_tup mon0) (eqG_tup mon0 g0)
  have g4 : EqG X 6 (eq4 X.K) := eqG_list (mon_tup (Mon.or mon0 mon2)) (eqG_tup (Mon.or mon0 mon2) (EqG.or (g0.mono (by decide)) g2))
  have g5 : EqG X 7 (eq5 X.K) := eqG_tup (Mon.or mon0 mon4) (EqG.or (g0.mono (by decide)) g4)
  exact rcF_list (mon_tup (Mon.or mon0 mon4)) (mon_tupF mon0 mon_nflat) g5 ((eqF_tup mon0 mon_nflat g0 (eqF_flat.mono (by decide))).mono (by decide))
theorem rc_parts (hK : X.K = K) (OS : Om X.prog X.w K X.mg X.base (CS K) 1 "__eq__" (spSEq K)) (OP : Om X.prog X.w K X.mg X.base (CP K) 2 "__eq__" (spPEq K)) : RcF X 8 (DListF (eq5 K) (DTupF K (eq0 K) NFlat)) := by
  subst hK
  exact rc_parts0 OS OP
end
section
variable {P : Program} {w : World} {K : PySem.W.Frag} {mg : Str → Option Value} {base : Heap}
theorem scStraight__eq__ : FnScope ["self", "other"] ["self", "other"] (defScope iStraight__eq__) := ⟨rfl, rfl, rfl, by decide +kernel, rfl, by decide +kernel, by decide +kernel⟩
theorem om_SEq {fd : FuncData} (F : FnM K "Straight" "__eq__" "Straight.__eq__" iStraight__eq__ fd) (T : StTx K mg) (hm : Meth K (CS K) "__eq__" (He.ma K (CS K) "__eq__")) : Om P w K mg base (CS K) 1 "__eq__" (spSEq K) := by
  refine ⟨_, fd, ["self", "other"], ?_, hm.at_, hm.fn, F.bindsN fun _ _ _ _ _ _ us hl => match us, hl with | [_, _], _ => rfl⟩
  refine F.ok scStraight__eq__ (fun vs H Q E h => ?_) (fun cdv A outer s H vs Q E hr h => ?_)
  · obtain ⟨p, a, b, c, v, rfl, _⟩ := h
    rfl
  · obtain ⟨p, a, b, c, v, rfl, hS, h⟩ := h
    refine ⟨_, PSs.nox (pss_one (ps_ret (pe_and (pe_callB call_isi (by rfl) T.isi (by decide +kernel) (pa_cons (pv 1) (pa_cons (pe_glob (v := .ref (CS K)) rfl T.gS rfl) pa_nil))) (pe_and (pe_cmpR op_eq (pe_fld (pv 0) rfl) (pe_fld (pv 1) rfl) (nomark _)) (pe_and (pe_cmpR op_eq (pe_fld (pv 0) rfl) (pe_fld (pv 1) rfl) (nomark _)) (pe_one (pe_cmpR op_eq (pe_fld (pv 0) rfl) (pe_fld (pv 1) rfl) (nomark _)))))))), ?_⟩
    obtain ⟨dx, hp⟩ := id hS
    rcases h with ⟨q, x, y, z, rfl, hS2, k⟩ | ⟨t, ty, kt, k⟩
    · obtain ⟨dy, hq⟩ := id hS2
      refine ⟨_, rfl, _, _, _, _, _, rfl, .own _, .base (T.ty hS2), T.kSS, _, rfl, iteT ?_⟩
      refine ⟨_, rfl, p, _, dx, _, _, rfl, hp, T.clS, T.nI, sf_i _ _ _, _, rfl, q, _, dy, _, _, rfl, hq, T.clS, T.nI, sf_i _ _ _, rfl, _, rfl, ?_⟩
      by_cases h1 : a = x
      · subst h1
        rw [decide_eq_true rfl]
        refine iteT ?_
        refine ⟨_, rfl, p, _, dx, _, _, rfl, hp, T.clS, T.nN, sf_n _ _ _, _, rfl, q, _, dy, _, _, rfl, hq, T.clS, T.nN, sf_n _ _ _, rfl, _, rfl, ?_⟩
        by_cases h2 : b = y
        · subst h2
          rw [decide_eq_true rfl]
          refine iteT ?_
          refine ⟨_, rfl, p, _, dx, _, _, rfl, hp, T.clS, T.nO, sf_one _ _ _, _, rfl, q, _, dy, _, _, rfl, hq, T.clS, T.nO, sf_one _ _ _, rfl, ?_⟩
          have e : decide (V.int c = V.int z) = decide (a = a ∧ b = b ∧ c = z) := decide_eq_decide.mpr ⟨fun q => ⟨rfl, rfl, V.int.inj q⟩, fun q => by rw [q.2.2]⟩
          show Q (.bl (decide (V.int c = V.int z))) H
          rw [e]
          exact k
        · have e : decide (a = a ∧ b = y ∧ c = z) = false := decide_eq_false fun q => h2 q.2.1
          rw [e] at k
          rw [decide_eq_false (fun q => h2 (V.int.inj q))]
          exact iteF k
      · have e : decide (a = x ∧ b = y ∧ c = z) = false := decide_eq_false fun q => h1 q.1
        rw [e] at k
        rw [decide_eq_false (fun q => h1 (V.int.inj q))]
        exact iteF k
    · exact ⟨_, rfl, _, _, _, _, _, rfl, .own _, .base ty, kt, _, rfl, iteF k⟩
theorem scPlace__eq__ : FnScope ["self", "other"] ["self", "other"] (defScope iPlace__eq__) := ⟨rfl, rfl, rfl, by decide +kernel, rfl, by decide +kernel, by decide +kernel⟩
theorem om_PEq {fd : FuncData} (F : FnM K "Place" "__eq__" "Place.__eq__" iPlace__eq__ fd) (T : PlTx K mg) (hm : Meth K (CP K) "__eq__" (He.ma K (CP K) "__eq__")) (OS : Om P w K mg base (CS K) 1 "__eq__" (spSEq K)) (nf : PySem.W.notFirst K (CS K) (.ref (CS K)) = true) : Om P w K mg base (CP K) 2 "__eq__" (spPEq K) := by
  refine ⟨_, fd, ["self", "other"], ?_, hm.at_, hm.fn, F.bindsN fun _ _ _ _ _ _ us hl => match us, hl with | [_, _], _ => rfl⟩
  refine F.ok scPlace__eq__ (fun vs H Q E h => ?_) (fun cdv A outer s H vs Q E hr h => ?_)
  · obtain ⟨p, a, b, c, d, v, rfl, _⟩ := h
    rfl
  · obtain ⟨p, a, b, c, d, v, rfl, hP, h⟩ := h
    refine ⟨_, PSs.nox (pss_one (ps_ret (pe_and (pe_callB call_isi (by rfl) T.isi (by decide +kernel) (pa_cons (pv 1) (pa_cons (pe_glob (v := .ref (CP K)) rfl T.gP rfl) pa_nil))) (pe_and (pe_cmpR (op_eqOwn OS hr) (pe_fld (pv 0) rfl) (pe_fld (pv 1) rfl) (nomark _)) (pe_one (pe_cmpR op_eq (pe_fld (pv 0) rfl) (pe_fld (pv 1) rfl) (nomark _))))))), ?_⟩
    obtain ⟨dx, q, hp, hq⟩ := id hP
    rcases h with ⟨r, x, y, z, u, rfl, hP2, k⟩ | ⟨t, ty, kt, k⟩
    · obtain ⟨dy, q2, hp2, hq2⟩ := id hP2
      refine ⟨_, rfl, _, _, _, _, _, rfl, .own _, .base (T.pty hP2), T.kPP, _, rfl, iteT ?_⟩
      obtain ⟨dq, hqq⟩ := id hq
      refine ⟨_, rfl, p, _, dx, _, _, rfl, hp, T.clP, T.nS, pf_s _ _, _, rfl, r, _, dy, _, _, rfl, hp2, T.clP, T.nS, pf_s _ _, q, dq, _, _, rfl, hqq, T.ty hq2, nf, ?_⟩
      refine ⟨q, a, b, c, _, rfl, hq, .inl ⟨q2, x, y, z, rfl, hq2, _, rfl, ?_⟩⟩
      by_cases h1 : a = x ∧ b = y ∧ c = z
      · rw [decide_eq_true h1]
        refine iteT ?_
        refine ⟨_, rfl, p, _, dx, _, _, rfl, hp, T.clP, T.nD, pf_d _ _, _, rfl, r, _, dy, _, _, rfl, hp2, T.clP, T.nD, pf_d _ _, rfl, ?_⟩
        have e : decide (V.int d = V.int u) = decide (a = x ∧ b = y ∧ c = z ∧ d = u) := decide_eq_decide.mpr ⟨fun q => ⟨h1.1, h1.2.1, h1.2.2, V.int.inj q⟩, fun q => by rw [q.2.2.2]⟩
        show Q (.bl (decide (V.int d = V.int u))) H
        rw [e]
        exact k
      · rw [decide_eq_false h1]
        have e : decide (a = x ∧ b = y ∧ c = z ∧ d = u) = false := decide_eq_false fun q => h1 ⟨q.1, q.2.1, q.2.2.1⟩
        rw [e] at k
        exact iteF k
    · exact ⟨_, rfl, _, _, _, _, _, rfl, .own _, .base ty, kt, _, rfl, iteF k⟩
end
theorem nnD {H Hc : Hp} {D a : Addr} {o : HO} (sc : Same H Hc) (e : Hc D = some o) (n : Hc a = none) : H a = none ∧ a ≠ D := by
  refine ⟨?_, fun z => by rw [z, e] at n; cases n⟩
  cases hh : H a with
  | none => rfl
  | some o =>
    rw [sc _ _ hh] at n
    cases n
section
variable {P : Program} {w : World} {K : PySem.W.Frag} {mg : Str → Option Value} {base : Heap}
theorem sc_condition_parts : FnScope ["condition"] ["condition"] (defScope s_condition_parts) := ⟨rfl, rfl, rfl, by decide +kernel, rfl, by decide +kernel, by decide +kernel⟩
theorem ok_cParts {f : Addr} {fd : FuncData} (F : FnP K "condition_parts" s_condition_parts f fd) (T : RwTx K mg) (U : EqTx K) : FnOk P w K mg base CX0 1 f fd ["condition"] (spCParts K) := by
  refine F.ok sc_condition_parts (fun vs H Q E h => ?_) (fun cdv A outer s H vs Q E hr h => ?_)
  · obtain ⟨v, g, rfl, _⟩ := h
    rfl
  · obtain ⟨v, g, rfl, hg, k⟩ := h
    refine ⟨_, PSs.nox (pss_cons (ps_if (pt_val (pe_callB call_isi (by rfl) T.isi (by decide +kernel) (pa_cons (pv 0) (pa_cons (pe_glob (v := .ref (CR K)) rfl T.gR rfl) pa_nil)))) (pss_one (ps_ret (pe_tup (pa_cons pe_str (pa_cons (pe_fldK (K := K) rfl (pv 0)) (pa_cons (pe_fldK (K := K) rfl (pv 0)) (pa_cons (pe_fldK (K := K) rfl (pv 0)) pa_nil))))))) pss_nil)
      (pss_one (ps_ret (pe_tup (pa_cons pe_str (pa_cons (pe_fldK (K := K) rfl (pv 0)) pa_nil)))))), ?_⟩
    cases g with
    | atl a b c =>
      obtain ⟨p, rfl, dx, q, hp, hq⟩ := hg
      refine ⟨_, rfl, _, _, _, _, _, rfl, .own _, .base (.ins hp T.clA U.iA.ha U.iA.hn U.iA.ht U.iA.hm), U.kAR, _, rfl, iteF ?_⟩
      refine un_next ?_
      try dsimp only
      refine ⟨_, rfl, p, _, dx, _, _, rfl, hp, T.clA, T.nAS, af_s _, sz1l _ (by show 1 < 1000; decide), fun t ht => ?_⟩
      have s1 := Same.new (.tup [.str "least", .ref q]) (Same.refl H) ht
      exact k _ _ s1 ⟨t, q, rfl, upd_same, hq.same s1⟩
    | rst a b m r =>
      obtain ⟨p, rfl, dx, q, hp, hq⟩ := hg
      refine ⟨_, rfl, _, _, _, _, _, rfl, .own _, .base (.ins hp T.clQ U.iR.ha U.iR.hn U.iR.ht U.iR.hm), U.kRR, _, rfl, iteT ?_⟩
      refine ⟨_, rfl, p, _, dx, _, _, rfl, hp, T.clQ, T.nRS, rf_s _ _ _, ?_⟩
      refine ⟨_, rfl, p, _, dx, _, _, rfl, hp, T.clQ, T.nRM, rf_m _ _ _, ?_⟩
      refine ⟨_, rfl, p, _, dx, _, _, rfl, hp, T.clQ, T.nRR, rf_r _ _ _, sz1l _ (by show 3 < 1000; decide), fun t ht => ?_⟩
      have s1 := Same.new (.tup [.str "rest", .ref q, .int m, .int r]) (Same.refl H) ht
      exact k _ _ s1 ⟨t, q, rfl, upd_same, hq.same s1⟩
theorem sc_statements_parts : FnScope ["loop", "told", "statement", "reads", "read", "conditions", "condition"] ["loop"] (defScope s_statements_parts) := ⟨rfl, rfl, rfl, by decide +kernel, rfl, by decide +kernel, by decide +kernel⟩
theorem ok_sParts {f : Addr} {fd : FuncData} (F : FnP K "statements_parts" s_statements_parts f fd) (T : RwTx K mg) (dCParts : Dn P w K mg base 1 "condition_parts" ["condition"] (spCParts K)) : FnOk P w K mg base CX0 3 f fd ["loop"] (spSParts K) := by
  refine F.ok sc_statements_parts (fun vs H Q E h => ?_) (fun cdv A outer s H vs Q E hr h => ?_)
  · obtain ⟨v, l, rfl, _⟩ := h
    rfl
  · obtain ⟨v, l, rfl, ⟨p, xs, rfl, ⟨dx, lo, hi, st, hp, hlo, hhi, hst⟩, fs⟩, l16, sk, k⟩ := h
    refine ⟨_, PSs.nox (pss_cons (ps_set (i := 1) sc_statements_parts.nd rfl (Or.inl rfl) (pe_lst pa_nil))
      (pss_cons (ps_for PassesOwn.never rfl (pi_tup (pe_fldK (K := K) rfl (pv 0))) (pg_name (i := 2) sc_statements_parts.nd rfl (.inl rfl)) (pss_cons (ps_setLc (i := 3) (own := [("read", 4)]) (g := gName 4) (tt := tYes) rfl sc_statements_parts.nd rfl rfl (sw_true rfl rfl rfl (by decide +kernel)) (pi_tupK (K := K) rfl (pe_fldK (K := K) rfl (pv 2))) (blkOk_by (N := ["loop", "told", "statement", "reads", "read", "conditions", "condition"]) (sc := defScope s_statements_parts) (by decide +kernel)) (fun _ _ _ _ _ => (pg_name (i := 4) sc_statements_parts.nd rfl (.inl rfl))) (fun _ _ _ _ _ => pts_nil) (fun _ _ _ _ _ => (pe_tup (pa_cons (pe_fldK (K := K) rfl (pv 4)) (pa_cons (pe_fldK (K := K) rfl (pv 4)) (pa_cons (pe_fldK (K := K) rfl (pv 4)) pa_nil))))))
      (pss_cons (ps_setLc (i := 5) (own := [("condition", 6)]) (g := gName 6) (tt := tYes) rfl sc_statements_parts.nd rfl rfl (sw_true rfl rfl rfl (by decide +kernel)) (pi_tupK (K := K) rfl (pe_fldK (K := K) rfl (pv 2))) (blkOk_by (N := ["loop", "told", "statement", "reads", "read", "conditions", "condition"]) (sc := defScope s_statements_parts) (by decide +kernel)) (fun _ _ _ _ _ => (pg_name (i := 6) sc_statements_parts.nd rfl (.inl rfl))) (fun _ _ _ _ _ => pts_nil) (fun _ _ _ _ _ => (pe_dn dCParts hr (pa_cons (pv 6) pa_nil))))
      (pss_one (ps_expr (pe_bm PySem.F.plainAttrs_list PySem.F.slot_list_append PySem.F.type_list_append mt_append (pv 1) (pa_cons (pe_tup (pa_cons (pe_fldK (K := K) rfl (pv 2)) (pa_cons (pe_fldK (K := K) rfl (pv 2)) (pa_cons (pe_fldK (K := K) rfl (pv 2)) (pa_cons (pv 3) (pa_cons (pv 5) pa_nil)))))) pa_nil)))))))
      (pss_one (ps_ret (pv 1))))), ?_⟩
    refine ⟨sz0, fun D hD => ?_⟩
    have s1 := Same.new (.lst []) (Same.refl H) hD
    refine normG (σ' := [some (.ref p), some (.ref D), none, none, none, none, none]) rfl ?_
    try dsimp only
    refine ⟨_, rfl, p, _, dx, _, _, rfl, s1 _ _ hp, T.clL, T.nSt, lp_tt _ _ _ _ _, st, rfl, ⟨_, SqT.same hst s1⟩, ?_⟩
    refine for_tup (K := K) (xs := xs) (fun i σ Hc => ∃ (v2 v3 v4 v5 v6 : Option V) (ws : List V), σ = [some (.ref p), some (.ref D), v2, v3, v4, v5, v6] ∧ Hc D = some (.lst ws) ∧ Fa (StP K (fun a => H a = none ∧ a ≠ D) Hc) ws (l.sts.take i) ∧ Same H Hc) ⟨_, _, _, _, _, [], rfl, upd_same, by rw [List.take_zero]; exact .nil, s1⟩ (fun _ _ _ _ ⟨_, _, _, _, _, _, _, _, _, z⟩ => SqT.same hst z) ?_ ?_
    · rintro i x σ Hc hx ⟨v2, v3, v4, v5, v6, ws, rfl, eD, fw, sc⟩
      obtain ⟨s0, es, y, rs, cs, rfl, ⟨dy, q, r, g, hy, hq, hr1, hg1⟩, fr, fg⟩ := (fs.imp fun _ _ z => z.same sc).at hx
      have i16 : i < l.sts.length := (List.getElem?_eq_some_iff.mp es).1
      obtain ⟨nm, _, _, _, lr, lg, _, _⟩ := sk s0 (List.mem_of_getElem? es)
      refine normG (σ' := [some (.ref p), some (.ref D), some (.ref y), v3, v4, v5, v6]) rfl ?_
      try dsimp only
      refine ⟨_, rfl, y, _, dy, _, _, rfl, hy, T.clM, T.nMR, stf_r _ _ _ _ _, r, rfl, ⟨_, hr1⟩, fun D1 hD1 => ?_⟩
      refine lc_tup (K := K) (xs := rs) (fun j Hb => ∃ us, Hb D1 = some (.lst us) ∧ Fa (RdP K Hb) us (s0.rds.take j) ∧ Same Hc Hb) ⟨[], upd_same, by rw [List.take_zero]; exact .nil, Same.new _ (Same.refl Hc) hD1⟩ (fun _ _ _ z => SqT.same hr1 z.choose_spec.2.2) ?_ ?_
      · rintro j u Hb hu ⟨us, eD1, f1, sb⟩
        obtain ⟨r0, er, z, rfl, dz, qz, hz, pz⟩ := (fr.imp fun _ _ z => z.same sb).at hu
        have jr : j < s0.rds.length := (List.getElem?_eq_some_iff.mp er).1
        refine ⟨rfl, yes_of ?_⟩
        refine ⟨_, rfl, z, _, dz, _, _, rfl, hz, T.clR, T.nRA, rdf_a _ _ _, ?_⟩
        refine ⟨_, rfl, z, _, dz, _, _, rfl, hz, T.clR, T.nRP, rdf_p _ _ _, ?_⟩
        refine ⟨_, rfl, z, _, dz, _, _, rfl, hz, T.clR, T.nRF, rdf_f _ _ _, sz1l _ (by show 2 < 1000; decide), fun t ht => ?_⟩
        have s3 := Same.new (.tup [.str r0.x, .ref qz, .int r0.f]) (Same.refl Hb) ht
        have eD2 := s3 _ _ eD1
        refine ⟨us, eD2, sz1l _ (by rw [f1.1, List.length_take]; omega), us ++ [.ref t], upd_same, ?_, fun b o e => by rw [upd_ne (ne_of_none e hD1)]; exact s3 _ _ (sb b o e)⟩
        rw [List.take_add_one, er]
        have ms : MS (upd Hb t (.tup [.str r0.x, .ref qz, .int r0.f])) (upd (upd Hb t (.tup [.str r0.x, .ref qz, .int r0.f])) D1 (.lst (us ++ [.ref t]))) := .updL eD2
        exact (f1.imp fun _ _ z => (z.ms (.of s3)).ms ms).snoc (RdP.ms ⟨t, qz, rfl, upd_same, pz.same s3⟩ ms)
      rintro H2 ⟨us, eD1, f1, s2⟩
      rw [fr.1, List.take_length] at f1
      refine normG (σ' := [some (.ref p), some (.ref D), some (.ref y), some (.ref D1), v4, v5, v6]) rfl ?_
      try dsimp only
      refine ⟨_, rfl, y, _, dy, _, _, rfl, s2 _ _ hy, T.clM, T.nMG, stf_g _ _ _ _ _, g, rfl, ⟨_, SqT.same hg1 s2⟩, fun D2 hD2 => ?_⟩
      refine lc_tup (K := K) (xs := cs) (fun j Hb => ∃ ws, Hb D2 = some (.lst ws) ∧ Fa (CdP K Hb) ws (s0.gds.take j) ∧ Same H2 Hb) ⟨[], upd_same, by rw [List.take_zero]; exact .nil, Same.new _ (Same.refl H2) hD2⟩ (fun _ _ _ z => SqT.same hg1 (s2.trans z.choose_spec.2.2)) ?_ ?_
      · rintro j u Hb hu ⟨qs, eD2, f2, sb⟩
        obtain ⟨g0, eg, og⟩ := (fg.imp fun _ _ z => z.same (s2.trans sb)).at hu
        have jr : j < s0.gds.length := (List.getElem?_eq_some_iff.mp eg).1
        refine ⟨rfl, yes_of ?_⟩
        refine ⟨_, rfl, u, g0, rfl, og, fun v' H3 s3 cp => ?_⟩
        have eD3 := s3 _ _ eD2
        refine ⟨qs, eD3, sz1l _ (by rw [f2.1, List.length_take]; omega), qs ++ [v'], upd_same, ?_, fun b o e => by rw [upd_ne (ne_of_none e hD2)]; exact s3 _ _ (sb b o e)⟩
        rw [List.take_add_one, eg]
        have ms : MS H3 (upd H3 D2 (.lst (qs ++ [v']))) := .updL eD3
        exact (f2.imp fun _ _ z => (z.ms (.of s3)).ms ms).snoc (cp.ms ms)
      rintro H3 ⟨qs, eD2, f2, s3⟩
      rw [fg.1, List.take_length] at f2
      refine normG (σ' := [some (.ref p), some (.ref D), some (.ref y), some (.ref D1), v4, some (.ref D2), v6]) rfl ?_
      try dsimp only
      have s23 := s2.trans s3
      have hy3 := s23 _ _ hy
      refine ⟨_, rfl, .inl ⟨rfl, _, SqL.of (s23 _ _ eD)⟩, ?_⟩
      refine ⟨_, rfl, y, _, dy, _, _, rfl, hy3, T.clM, T.nMA, stf_a _ _ _ _ _, ?_⟩
      refine ⟨_, rfl, y, _, dy, _, _, rfl, hy3, T.clM, T.nMC, stf_c _ _ _ _ _, ?_⟩
      refine ⟨_, rfl, y, _, dy, _, _, rfl, hy3, T.clM, T.nMK, stf_k _ _ _ _ _, _, rfl, _, rfl, sz1l _ (by show 4 < 1000; decide), fun t ht => ?_⟩
      have s4 := Same.new (.tup [.str s0.x, .ref q, .int s0.k, .ref D1, .ref D2]) (Same.refl H3) ht
      obtain ⟨H4, eH4⟩ : ∃ X, X = upd H3 t (.tup [.str s0.x, .ref q, .int s0.k, .ref D1, .ref D2]) := ⟨_, rfl⟩
      have et : H4 t = some (.tup [.str s0.x, .ref q, .int s0.k, .ref D1, .ref D2]) := by rw [eH4]; exact upd_same
      rw [← eH4] at s4 ⊢
      have s14 := s23.trans s4
      have eD4 := s14 _ _ eD
      refine ⟨D, ws, _, rfl, rfl, eD4, sz1l _ (by rw [fw.1, List.length_take]; omega), _, _, _, _, _, ws ++ [.ref t], rfl, upd_same, ?_, fun b o e => by rw [upd_ne (ne_of_none e hD)]; exact s14 _ _ (sc b o e)⟩
      rw [List.take_add_one, es]
      have ms : MS H4 (upd H4 D (.lst (ws ++ [.ref t]))) := .updL eD4
      have ls : ∀ a ys, (H a = none ∧ a ≠ D) → H4 a = some (.lst ys) → (upd H4 D (.lst (ws ++ [.ref t]))) a = some (.lst ys) := fun a ys n e => by
        rw [upd_ne n.2]
        exact e
      refine (fw.imp fun _ _ z => (z.same s14).to ms ls fun _ _ _ q => q).snoc (StP.to (P := fun a => H a = none ∧ a ≠ D) ⟨t, q, D1, D2, us, qs, rfl, et, hq.same s14, nnD sc eD hD1, s4 _ _ (s3 _ _ eD1), f1.imp fun _ _ z => z.ms (.of (s3.trans s4)), nnD (sc.trans s2) (s2 _ _ eD) hD2, s4 _ _ eD2, f2.imp fun _ _ z => z.ms (.of s4)⟩ ms ls fun _ _ _ q => q)
    · rintro σ H5 ⟨v2, v3, v4, v5, v6, ws, rfl, eD, fw, s5⟩
      rw [fs.1, List.take_length] at fw
      try dsimp only
      exact ⟨_, rfl, k D ws H5 s5 hD eD (fw.imp fun _ _ z => z.to (.refl _) (fun _ _ _ z => z) fun _ _ _ q => q.1)⟩
theorem sc_program_parts : FnScope ["program", "loop"] ["program"] (defScope s_program_parts) := ⟨rfl, rfl, rfl, by decide +kernel, rfl, by decide +kernel, by decide +kernel⟩
theorem ok_pParts {f : Addr} {fd : FuncData} (F : FnP K "program_parts" s_program_parts f fd) (T : RwTx K mg) (dSParts : Dn P w K mg base 3 "statements_parts" ["loop"] (spSParts K)) : FnOk P w K mg base CX0 5 f fd ["program"] (spPParts K) := by
  refine F.ok sc_program_parts (fun vs H Q E h => ?_) (fun cdv A outer s H vs Q E hr h => ?_)
  · obtain ⟨v, ls, rfl, _⟩ := h
    rfl
  · obtain ⟨v, ls, rfl, ⟨p, xs, ys, rfl, ⟨dx, lt, at_, dk, hp, hlt, hat⟩, fa⟩, po, k⟩ := h
    refine ⟨_, PSs.nox (pss_one (ps_ret (pe_lc (own := [("loop", 1)]) (g := gName 1) (tt := tYes) rfl sc_program_parts.nd (pi_tupK (K := K) rfl (pe_fldK (K := K) rfl (pv 0))) (blkOk_by (N := ["program", "loop"]) (sc := defScope s_program_parts) (by decide +kernel)) (fun _ _ _ _ _ => (pg_name (i := 1) sc_program_parts.nd rfl (.inl rfl))) (fun _ _ _ _ _ => pts_nil) (fun _ _ _ _ _ => (pe_tup (pa_cons (pe_fldK (K := K) rfl (pv 1)) (pa_cons (pe_fldK (K := K) rfl (pv 1)) (pa_cons (pe_fldK (K := K) rfl (pv 1)) (pa_cons (pe_fldK (K := K) rfl (pv 1)) (pa_cons (pe_dn dSParts hr (pa_cons (pv 1) pa_nil)) pa_nil)))))))))), ?_⟩
    refine ⟨_, rfl, p, _, dx, _, _, rfl, hp, T.clP, T.nPL, prf_l _ _ _, lt, rfl, ⟨_, hlt⟩, fun D hD => ?_⟩
    refine lc_tup (K := K) (xs := xs) (fun i Hc => ∃ ws, Hc D = some (.lst ws) ∧ Fa (LpP K (fun a => H a = none ∧ a ≠ D) Hc) ws (ls.take i) ∧ Same H Hc) ⟨[], upd_same, by rw [List.take_zero]; exact .nil, Same.new _ (Same.refl H) hD⟩ (fun _ _ _ z => SqT.same hlt z.choose_spec.2.2) ?_ ?_
    · rintro i x Hc hx ⟨ws, eD, fw, sc⟩
      obtain ⟨l, el, q, ss, rfl, ⟨dq, lo, hi, st, hq, hlo, hhi, hst⟩, fs⟩ := (fa.imp fun _ _ z => z.same sc).at hx
      have i6 : i < ls.length := (List.getElem?_eq_some_iff.mp el).1
      obtain ⟨b16, bk⟩ := po.2 l (List.mem_of_getElem? el)
      have l6 := po.1
      refine ⟨rfl, yes_of ?_⟩
      refine ⟨_, rfl, q, _, dq, _, _, rfl, hq, T.clL, T.nLo, lp_lo _ _ _ _ _, ?_⟩
      refine ⟨_, rfl, q, _, dq, _, _, rfl, hq, T.clL, T.nHi, lp_hi _ _ _ _ _, ?_⟩
      refine ⟨_, rfl, q, _, dq, _, _, rfl, hq, T.clL, T.nSp, lp_st _ _ _ _ _, ?_⟩
      refine ⟨_, rfl, q, _, dq, _, _, rfl, hq, T.clL, T.nDn, lp_dn _ _ _ _ _, ?_⟩
      refine ⟨_, rfl, .ref q, l, rfl, ⟨q, ss, rfl, ⟨dq, lo, hi, st, hq, hlo, hhi, hst⟩, fs⟩, b16, bk, fun pl us H2 s2 npl hpl fp => ⟨sz1l _ (by show 4 < 1000; decide), fun t ht => ?_⟩⟩
      have s4 := Same.new (.tup [.ref lo, .ref hi, .int l.S, .bl l.dn, .ref pl]) (Same.refl H2) ht
      obtain ⟨H4, eH4⟩ : ∃ X, X = upd H2 t (.tup [.ref lo, .ref hi, .int l.S, .bl l.dn, .ref pl]) := ⟨_, rfl⟩
      have et : H4 t = some (.tup [.ref lo, .ref hi, .int l.S, .bl l.dn, .ref pl]) := by rw [eH4]; exact upd_same
      rw [← eH4] at s4 ⊢
      have s14 := s2.trans s4
      have eD4 := s14 _ _ eD
      refine ⟨ws, eD4, sz1l _ (by rw [fw.1, List.length_take]; omega), ws ++ [.ref t], upd_same, ?_, fun b o e => by rw [upd_ne (ne_of_none e hD)]; exact s14 _ _ (sc b o e)⟩
      rw [List.take_add_one, el]
      have ms : MS H4 (upd H4 D (.lst (ws ++ [.ref t]))) := .updL eD4
      have lk : ∀ a ys, (H a = none ∧ a ≠ D) → H4 a = some (.lst ys) → (upd H4 D (.lst (ws ++ [.ref t]))) a = some (.lst ys) := fun a ys n e => by
        rw [upd_ne n.2]
        exact e
      refine (fw.imp fun _ _ z => (z.same s14).to ms lk fun _ _ _ q => q).snoc (LpP.to (P := fun a => H a = none ∧ a ≠ D) ⟨t, lo, hi, pl, us, rfl, et, hlo.same s14, hhi.same s14, nnD sc eD npl, s4 _ _ hpl, fp.imp fun _ _ z => (z.same s4).to (.refl _) (fun _ _ _ z => z) fun _ _ _ n => nnD sc eD n⟩ ms lk fun _ _ _ q => q)
    · rintro H3 ⟨ws, eD, fw, s3⟩
      rw [fa.1, List.take_length] at fw
      exact k D ws H3 s3 hD eD (fw.imp fun _ _ z => z.to (.refl _) (fun _ _ _ z => z) fun _ _ _ _ => trivial)
theorem sc_same_programs : FnScope ["one", "other"] ["one", "other"] (defScope s_same_programs) := ⟨rfl, rfl, rfl, by decide +kernel, rfl, by decide +kernel, by decide +kernel⟩
theorem ok_sameP {f : Addr} {fd : FuncData} (F : FnP K "same_programs" s_same_programs f fd) (T : RwTx K mg) (OS : Om P w K mg base (CS K) 1 "__eq__" (spSEq K)) (OP : Om P w K mg base (CP K) 2 "__eq__" (spPEq K)) (dPParts : Dn P w K mg base 5 "program_parts" ["program"] (spPParts K)) : FnOk P w K mg base CX0 10 f fd ["one", "other"] (spSameP K) := by
  refine F.ok sc_same_programs (fun vs H Q E h => ?_) (fun cdv A outer s H vs Q E hr h => ?_)
  · obtain ⟨v1, v2, ls1, ls2, rfl, _⟩ := h
    rfl
  · obtain ⟨v1, v2, ls1, ls2, rfl, p1, p2, po1, po2, ⟨le, i, l1, l2, et, e1, e2, t1, u1, nS⟩, k⟩ := h
    refine ⟨_, PSs.nox (pss_one (ps_ret (pe_cmpR (op_eqF (rc_parts rfl OS OP) (hr.mono (by decide))) (pe_dn dPParts hr (pa_cons (pv 0) pa_nil)) (pe_dn dPParts hr (pa_cons (pv 1) pa_nil)) (nomark _)))), ?_⟩
    refine ⟨_, rfl, v1, ls1, rfl, p1, po1, fun a ws H1 s1 na ha fa => ⟨_, rfl, v2, ls2, rfl, p2.same s1, po2, fun b ys H2 s2 nb hb fb => ?_⟩⟩
    refine ⟨⟨a, b, ws, ys, i, rfl, rfl, s2 _ _ ha, hb, ?_⟩, fun H3 e3 => k H3 (s1.trans (s2.trans e3))⟩
    have fa2 := fa.imp fun _ _ z => z.same s2
    refine ⟨by rw [fa.1, fb.1, le], by rw [fa.1]; exact (List.getElem?_eq_some_iff.mp e1).1, fun j x y hj h1 h2 => ?_, fun x y h1 h2 => ?_⟩
    · obtain ⟨m, em, r⟩ := fa2.at h1
      have em2 : ls2[j]? = some m := by
        have q1 : (ls1.take i)[j]? = some m := by rw [List.getElem?_take_of_lt hj]; exact em
        rw [et, List.getElem?_take_of_lt hj] at q1
        exact q1
      exact eq_lp r (fb.2 j y m h2 em2)
    · exact ne_lp (fa2.2 i x l1 h1 e1) (fb.2 i y l2 h2 e2) t1 u1 nS
end
end K49
set_option maxHeartbeats 2000000
namespace Z
open PySem PySem.Spec PyProof.Rows L2
def Gv (σ : L2.St) (H : Hp) (t : TE) (d : PyData) : Prop := ∀ H1 (Q : VK), Same H H1 → (∀ v H2, Same H1 H2 → DT H2 v d → Q v H2) → t σ H1 Q
def GvA (σ : L2.St) (H : Hp) (t : TA) (ds : List PyData) : Prop := ∀ H1 (Q : List V → Hp → Prop), Same H H1 → (∀ vs H2, Same H1 H2 → DTs H2 vs ds → Q vs H2) → t σ H1 Q
section
variable {σ : L2.St} {H : Hp} {t u : TE} {ta : TA} {d e : PyData} {ds es : List PyData}
theorem Gv.go {Q : VK} (h : Gv σ H t d) (k : ∀ v H2, Same H H2 → DT H2 v d → Q v H2) : t σ H Q := h H Q (Same.refl H) k
theorem GvA.go {Q : List V → Hp → Prop} (h : GvA σ H ta ds) (k : ∀ vs H2, Same H H2 → DTs H2 vs ds → Q vs H2) : ta σ H Q := h H Q (Same.refl H) k
theorem gv_set {g : TG} {b : TS} {D : Ends} (h : Gv σ H t d) (k : ∀ v H2, Same H H2 → DT H2 v d → g v σ H2 fun σ' H' => b D σ' H') : tSeq (tAsg t g) b D σ H := h H _ (Same.refl H) k
theorem gv_int {i : Int} : Gv σ H (tC (.int i)) (.int i) := fun H1 Q s k => k _ _ (Same.refl H1) (.int i)
theorem gv_str {x : Str} : Gv σ H (tC (.str x)) (.str x) := fun H1 Q s k => k _ _ (Same.refl H1) (.str x)
theorem gv_bl {b : Bool} : Gv σ H (tC (.bl b)) (.bool b) := fun H1 Q s k => k _ _ (Same.refl H1) (.bl b)
theorem gv_var {i : Nat} {v : V} (h : σ[i]? = some (some v)) (dt : DT H v d) : Gv σ H (tVar i) d := fun H1 Q s k => ⟨v, h, k v H1 (Same.refl H1) (dt.to (.of s))⟩
theorem gva_nil : GvA σ H tNil [] := fun H1 Q s k => k _ _ (Same.refl H1) .nil
theorem gva_cons (h : Gv σ H t d) (r : GvA σ H ta ds) : GvA σ H (tCons t ta) (d :: ds) := fun H1 Q s k => h H1 _ s fun v H2 s2 dv => r H2 _ (s.trans s2) fun vs H3 s3 dvs => k _ _ (s2.trans s3) (.cons (dv.to (.of s3)) dvs)
theorem gv_tup (h : GvA σ H ta ds) (z : ds.length ≤ 100000) : Gv σ H (tTup ta) (.tuple ds) := fun H1 Q s k => h H1 _ s fun vs H2 s2 dvs => ⟨by
    have : (100000 : Nat) ≤ sizeLine := by decide
    have := dvs.len
    omega, fun p hp => by
    have s3 := Same.new (.tup vs) (Same.refl H2) hp
    exact k _ _ (s2.trans s3) (.tup upd_same (dvs.to (.of s3)))⟩
theorem DTs.repl : ∀ {n : Nat} {vs : List V}, DTs H vs ds → DTs H (List.replicate n vs).flatten (List.replicate n ds).flatten
  | 0, _, _ => .nil
  | n + 1, vs, h => by
    rw [List.replicate_succ, List.replicate_succ, List.flatten_cons, List.flatten_cons]
    exact h.app h.repl
theorem gv_rep {K : PySem.W.Frag} {k : Int} (h : Gv σ H t (.tuple ds)) (n : ds ≠ []) (k2 : 2 ≤ k) (k3 : k ≤ 1000) (z : ds.length ≤ 1000) : Gv σ H (tOp (rRepT K) t (tC (.int k))) (.tuple (List.replicate k.toNat ds).flatten) := fun H1 Q s q => h H1 _ s fun v H2 s2 dv => by
  cases dv with
  | tup e r =>
    rename_i a xs
    have l := r.len
    refine ⟨a, k, xs, rfl, rfl, SqT.of e, fun z => ?_, k2, k3, by omega, fun p hp => ?_⟩
    · rw [z] at l
      exact n (List.eq_nil_of_length_eq_zero l.symm)
    · have s3 := Same.new (.tup (List.replicate k.toNat xs).flatten) (Same.refl H2) hp
      exact q _ _ (s2.trans s3) (.tup upd_same (r.repl.to (.of s3)))
theorem gv_cat {K : PySem.W.Frag} (h : Gv σ H t (.tuple ds)) (h2 : Gv σ H u (.tuple es)) (n : ds ≠ []) (n2 : es ≠ []) (z : ds.length + es.length ≤ 100000) : Gv σ H (tOp (rCatT K) t u) (.tuple (ds ++ es)) := fun H1 Q s q => h H1 _ s fun v H2 s2 dv => h2 H2 _ (s.trans s2) fun w H3 s3 dw => by
  have dv := dv.to (.of s3)
  cases dv with
  | tup e r =>
    rename_i a xs
    cases dw with
    | tup e2 r2 =>
      rename_i b ys
      have l := r.len
      have l2 := r2.len
      refine ⟨a, b, xs, ys, rfl, rfl, SqT.of e, SqT.of e2, fun z => ?_, ?_, fun z => ?_, fun _ p hp => ?_⟩
      · rw [z] at l
        exact n (List.eq_nil_of_length_eq_zero l.symm)
      · have : (100000 : Nat) ≤ sizeLine := by decide
        omega
      · rw [z] at l2
        exact absurd (List.eq_nil_of_length_eq_zero l2.symm) n2
      · have s4 := Same.new (.tup (xs ++ ys)) (Same.refl H3) hp
        exact q _ _ ((s2.trans s3).trans s4) (.tup upd_same ((r.app r2).to (.of s4)))
/-- v[:k], not the whole of v -/
theorem DTs.take : ∀ {k : Nat} {ds : List PyData} {vs : List V}, DTs H vs ds → DTs H (vs.take k) (ds.take k)
  | 0, _, _, h => by rw [List.take_zero, List.take_zero]; exact .nil
  | k + 1, _, _, h => by
    cases h with
    | nil => exact .nil
    | cons a b => exact .cons a b.take
theorem cutV_upto {xs : List V} {k : Nat} (h : k < xs.length) : cutV xs none (some (k : Int)) = xs.take k := by
  unfold cutV
  have e1 : HT.sIx xs.length 0 none = 0 := rfl
  have e2 : HT.sIx xs.length xs.length (some (k : Int)) = k := by
    rw [HT.sIx_nat]
    omega
  rw [e1, e2]
  simp
theorem gv_upto {K : PySem.W.Frag} {k : Nat} {i : Int} (hi : i = (k : Int)) (h : Gv σ H t (.tuple ds)) (z : k < ds.length) : Gv σ H (tSl (rSlT K) t tNoPart (tPart (tC (.int i)))) (.tuple (ds.take k)) := fun H1 Q s q => h H1 _ s fun v H2 s2 dv => by
  subst hi
  cases dv with
  | tup e r =>
    rename_i a xs
    have l := r.len
    have hk : k < xs.length := by omega
    refine ⟨_, rfl, a, xs, rfl, SqT.of e, fun z => ?_, fun p hp => ?_⟩
    · have e2 : HT.sIx xs.length xs.length (some (k : Int)) = k := by
        rw [HT.sIx_nat]
        omega
      have := z.2
      omega
    · rw [cutV_upto hk] at *
      have s3 := Same.new (.tup (xs.take k)) (Same.refl H2) hp
      exact q _ _ (s2.trans s3) (.tup upd_same (r.take.to (.of s3)))
theorem gv_lst {Q : VK} (h : GvA σ H ta ds) (z : ds.length ≤ 100000) (k : ∀ p xs H2, Same H H2 → H p = none → H2 p = some (.lst xs) → DTs H2 xs ds → Q (.ref p) H2) : tLst ta σ H Q := h H _ (Same.refl H) fun vs H2 s2 dvs => ⟨by
    have : (100000 : Nat) ≤ sizeLine := by decide
    have := dvs.len
    omega, fun p hp => by
    have s3 := Same.new (.lst vs) (Same.refl H2) hp
    refine k p vs _ (s2.trans s3) ?_ upd_same (dvs.to (.of s3))
    cases hh : H p with
    | none => rfl
    | some o =>
      rw [s2 _ _ hh] at hp
      cases hp⟩
theorem gv_setL {g : TG} {b : TS} {D : Ends} (h : GvA σ H ta ds) (z : ds.length ≤ 100000) (k : ∀ p xs H2, Same H H2 → H p = none → H2 p = some (.lst xs) → DTs H2 xs ds → g (.ref p) σ H2 fun σ' H' => b D σ' H') : tSeq (tAsg (tLst ta) g) b D σ H := by
  show tLst ta σ H fun x H1 => g x σ H1 (b D)
  exact gv_lst h z k
theorem gv_setC {g : TG} {b : TS} {D : Ends} {i : Nat} {q : Addr} {ys : List V} (hσ : σ[i]? = some (some (.ref q))) (e : H q = some (.lst ys)) (dy : DTs H ys es) (h : GvA σ H ta ds) (z : ds.length ≤ 1000) (z2 : es.length ≤ 1000) (k : ∀ p xs H2, Same H H2 → H p = none → H2 p = some (.lst xs) → DTs H2 xs (es ++ ds) → g (.ref p) σ H2 fun σ' H' => b D σ' H') : tSeq (tAsg (tOp rCat (tVar i) (tLst ta)) g) b D σ H := by
  refine ⟨_, hσ, gv_lst h (by omega) fun p xs H2 s2 n e2 dx => ?_⟩
  have l1 := dy.len
  have l2 := dx.len
  refine ⟨q, p, ys, xs, rfl, rfl, s2 _ _ e, e2, ?_, fun p3 hp3 => ?_⟩
  · have : (100000 : Nat) ≤ sizeLine := by decide
    omega
  · have s3 := Same.new (.lst (ys ++ xs)) (Same.refl H2) hp3
    refine k p3 _ _ (s2.trans s3) ?_ upd_same (((dy.to (.of s2)).app dx).to (.of s3))
    cases hh : H p3 with
    | none => rfl
    | some o =>
      rw [s2 _ _ hh] at hp3
      cases hp3
theorem gv_app {K : PySem.W.Frag} {b : TS} {D : Ends} {i : Nat} {q : Addr} {ys : List V} (hσ : σ[i]? = some (some (.ref q))) (e : H q = some (.lst ys)) (z : ys.length < 100000) (h : Gv σ H t d) (k : ∀ v H2, Same H H2 → DT H2 v d → b D σ (upd H2 q (.lst (ys ++ [v])))) : tSeq (tDrop (tBM K "list" rAppend (tVar i) (tCons t tNil))) b D σ H := by
  refine ⟨_, hσ, .inl ⟨rfl, _, SqL.of e⟩, h H _ (Same.refl H) fun v H2 s2 dv => ?_⟩
  refine ⟨q, ys, _, rfl, rfl, s2 _ _ e, ?_, k v H2 s2 dv⟩
  have : (100000 : Nat) ≤ sizeLine := by decide
  omega
theorem set_call {sp : Sp} {dvs : List V} {E : XK} {g : TG} {b : TS} {D : Ends} (h : t σ H fun x H1 => sp ([x] ++ dvs) H1 (fun y H2 => g y σ H2 fun σ' H' => b D σ' H') E) : tSeq (tAsg (tCall sp dvs E (tCons t tNil)) g) b D σ H := h
theorem gv_repL {Q : VK} {k : Int} (h : GvA σ H ta ds) (k0 : 0 ≤ k) (k1 : k ≤ 1000) (z : ds.length ≤ 100) (q : ∀ p xs H2, Same H H2 → H p = none → H2 p = some (.lst xs) → DTs H2 xs (List.replicate k.toNat ds).flatten → Q (.ref p) H2) : tOp rRep (tLst ta) (tC (.int k)) σ H Q := by
  refine gv_lst h (by omega) fun p xs H2 s2 n e2 dx => ⟨p, k, xs, rfl, rfl, e2, by omega, by omega, ?_, fun p3 hp3 => ?_⟩
  · have l := dx.len
    have : (100000 : Nat) ≤ sizeLine := by decide
    have : xs.length * k.toNat ≤ 100 * 1000 := Nat.mul_le_mul (by omega) (by omega)
    omega
  · have s3 := Same.new (.lst (List.replicate k.toNat xs).flatten) (Same.refl H2) hp3
    refine q p3 _ _ (s2.trans s3) ?_ upd_same (dx.repl.to (.of s3))
    cases hh : H p3 with
    | none => rfl
    | some o =>
      rw [s2 _ _ hh] at hp3
      cases hp3
theorem gv_ix {K : PySem.W.Frag} {j : Nat} {i : Int} (hi : i = (j : Int)) (h : Gv σ H t (.tuple ds)) (e : ds[j]? = some d) : Gv σ H (tOp (rIxT K) t (tC (.int i))) d := fun H1 Q s q => h H1 _ s fun v H2 s2 dv => by
  subst hi
  cases dv with
  | tup ea r =>
    obtain ⟨u, hu, du⟩ := DTs.get j d r e
    exact ⟨_, _, _, _, rfl, rfl, SqT.of ea, atI_nat hu, q _ _ s2 du⟩
theorem seq_asg {g : TG} {b : TS} {D : Ends} (h : t σ H fun x H1 => g x σ H1 fun σ' H' => b D σ' H') : tSeq (tAsg t g) b D σ H := h
theorem tup_go {Q : VK} (h : ta σ H fun xs H1 => xs.length ≤ sizeLine ∧ ∀ p, H1 p = none → Q (.ref p) (upd H1 p (.tup xs))) : tTup ta σ H Q := h
theorem cons_go {Q : List V → Hp → Prop} (h : t σ H fun x H1 => ta σ H1 fun xs H2 => Q (x :: xs) H2) : tCons t ta σ H Q := h
theorem call1_go {sp : Sp} {dvs : List V} {E : XK} {Q : VK} (h : t σ H fun x H1 => sp ([x] ++ dvs) H1 Q E) : tCall sp dvs E (tCons t tNil) σ H Q := h
theorem gv_addI {i j : Int} (h : Gv σ H t (.int i)) (h2 : Gv σ H u (.int j)) : Gv σ H (tOp (rI0 fun i j => V.int (i + j)) t u) (.int (i + j)) := fun H1 Q s q => h H1 _ s fun v H2 s2 dv => h2 H2 _ (s.trans s2) fun w H3 s3 dw => by
  cases dv
  cases dw
  exact ⟨i, j, rfl, rfl, q _ _ (s2.trans s3) (.int _)⟩
theorem gv_notV {b : Bool} (h : Gv σ H t (.bool b)) : Gv σ H (tNotV t) (.bool (!b)) := fun H1 Q s q => h H1 _ s fun v H2 s2 dv => by
  cases dv
  exact ⟨b, rfl, q _ _ s2 (.bl _)⟩
theorem seq_if {c : TT} {a b u : TS} {D : Ends} (h : c σ H fun q H1 => if q = true then a { D with nx := u D } σ H1 else b { D with nx := u D } σ H1) : tSeq (tIfS c a b) u D σ H := h
end
end Z
set_option maxHeartbeats 4000000
namespace K49
open PySem PySem.Spec PyProof.Rows L2 Z
theorem op_catTK {X : Cx} {K : PySem.W.Frag} (hK : X.K = K) : OpR X (binaryOp Operator.Add) (rCatT K) := hK ▸ op_catT
theorem op_repTK {X : Cx} {K : PySem.W.Frag} (hK : X.K = K) : OpR X (binaryOp Operator.Mult) (rRepT K) := hK ▸ op_repT
def rowM (S : Int) (dn : Bool) (sts : List StM) : LpM := { l0 := 0, l1 := 0, l2 := 1, h0 := 1, h1 := 0, h2 := 1, S := S, dn := dn, sts := sts }
def stNear : StM := { x := "a", a := 1, b := 0, c := 990, k := 1, rds := [], gds := [] }
def stZero : StM := { x := "a", a := 1, b := 0, c := 0, k := 1, rds := [], gds := [] }
def stFar : StM := { x := "a", a := 1, b := 0, c := 990, k := 1, rds := [{ x := "b", a := 1, b := 0, c := 991, d := 1, f := 1 }], gds := [] }
def stFull : StM := { x := "a", a := 1, b := 0, c := 0, k := 1, rds := [], gds := [.lea 1 0 0, .lea 1 0 0, .lea 1 0 0] }
def zeroD : List PyData := [.str "a", i3 1 0 0, .int 1, .tuple [], .tuple []]
def leaD : PyData := .tuple [.str "least", i3 1 0 0]
structure LotM where
  l : LpM
  m : Nat
  er : Er
def lotA : LotM := { l := rowM 1 false [stNear], m := 16, er := .num "one" 1000 }
def lotB : LotM := { l := rowM 1 true [stNear], m := 16, er := .num "one" 1005 }
def lotC : LotM := { l := rowM 1 true [stFar], m := 16, er := .num "one" 1006 }
def lotD : LotM := { l := rowM 2 false [stZero], m := 16, er := .num "step" 32 }
def lotE : LotM := { l := rowM 1 false (List.replicate 9 stZero), m := 2, er := .many "statements" 18 16 }
def erD : Er → PyData
  | .num w v => .tuple [.str "number", .str w, .int v]
  | .many w m l => .tuple [.str "too many", .str w, .int m, .int l]
  | .name _ => .none
def erOk : Er → Bool
  | .num w _ => PyData.strOk w
  | .many w _ _ => PyData.strOk w
  | .name _ => false
def lotData (q : LotM) : PyData := .tuple [.tuple [.int q.l.S, .bool q.l.dn, .tuple (q.l.sts.map stD)], .int q.m, erD q.er]
theorem nm_a : NmOk ("a" : Str) := ⟨by decide +kernel, by decide +kernel, by decide +kernel⟩
theorem nm_b : NmOk ("b" : Str) := ⟨by decide +kernel, by decide +kernel, by decide +kernel⟩
structure LotOk (q : LotM) : Prop where
  row : ∃ S dn sts, q.l = rowM S dn sts ∧ 1 ≤ S ∧ S ≤ 16 ∧ sts.length ≤ 16 ∧ ∀ s ∈ sts, StMk s
  m2 : 2 ≤ q.m
  m16 : q.m ≤ 16
  ok : erOk q.er = true
  ck : ckRw [oL q.l] (planOf [oL q.l] 0 1 [unrPt (oL q.l) 0 q.m]) = some q.er
theorem mk_near : StMk stNear := ⟨nm_a, by decide, by decide, by decide, by decide, by decide, (fun _ h => by cases h), fun _ h => by cases h⟩
theorem mk_zero : StMk stZero := ⟨nm_a, by decide, by decide, by decide, by decide, by decide, (fun _ h => by cases h), fun _ h => by cases h⟩
theorem mk_far : StMk stFar := ⟨nm_a, by decide, by decide, by decide, by decide, by decide, (fun r h => by
  obtain rfl := List.mem_singleton.mp h
  exact ⟨nm_b, by decide, by decide, by decide, by decide, by decide, by decide⟩), fun _ h => by cases h⟩
theorem mk_full : StMk stFull := ⟨nm_a, by decide, by decide, by decide, by decide, by decide, (fun _ h => by cases h), fun g h => by
  have : g = .lea 1 0 0 := by
    simp only [stFull, List.mem_cons, List.not_mem_nil, or_false, or_self] at h
    exact h
  subst this
  exact (by decide : -12 ≤ (1 : Int) ∧ (1 : Int) ≤ 12 ∧ -12 ≤ (0 : Int) ∧ (0 : Int) ≤ 12 ∧ -999 ≤ (0 : Int) ∧ (0 : Int) ≤ 999)⟩
theorem one_st {s : StM} (h : StMk s) : ∀ t ∈ [s], StMk t := fun t ht => by
  obtain rfl := List.mem_singleton.mp ht
  exact h
theorem ok_lotA : LotOk lotA := ⟨⟨_, _, _, rfl, by decide, by decide, by decide, one_st mk_near⟩, by decide, by decide, by decide +kernel, by kernel_rfl⟩
theorem ok_lotB : LotOk lotB := ⟨⟨_, _, _, rfl, by decide, by decide, by decide, one_st mk_near⟩, by decide, by decide, by decide +kernel, by kernel_rfl⟩
theorem ok_lotC : LotOk lotC := ⟨⟨_, _, _, rfl, by decide, by decide, by decide, one_st mk_far⟩, by decide, by decide, by decide +kernel, by kernel_rfl⟩
theorem ok_lotD : LotOk lotD := ⟨⟨_, _, _, rfl, by decide, by decide, by decide, one_st mk_zero⟩, by decide, by decide, by decide +kernel, by kernel_rfl⟩
theorem ok_lotE : LotOk lotE := ⟨⟨_, _, _, rfl, by decide, by decide, by decide, fun t ht => by
  obtain rfl := List.eq_of_mem_replicate ht
  exact mk_zero⟩, by decide, by decide, by decide +kernel, by kernel_rfl⟩
theorem six_ck : ckRw ((List.replicate 6 (rowM 1 false [stFull])).map oL) (planOf ((List.replicate 6 (rowM 1 false [stFull])).map oL) 0 1 (dealPts (oL (rowM 1 false [stFull])) 0 2)) = some (.many "conditions" 4 3) := by kernel_rfl
theorem rz_num {K : PySem.W.Frag} {H : Hp} {E : XK} {w : Str} {v : Int} (h : RzV K "BadNumber" ["what", "number"] [.str w, .int v] H E) : Rz K H E (.num w v) := fun d H' s e => h d H' s e
theorem rz_many {K : PySem.W.Frag} {H : Hp} {E : XK} {w : Str} {m l : Int} (h : RzV K "TooMany" ["what", "many", "limit"] [.str w, .int m, .int l] H E) : Rz K H E (.many w m l) := fun d H' s e => h d H' s e
theorem erD_num {w : Str} {v : Int} (h : erOk (.num w v) = true) : SeqAt.shaped (erD (.num w v)) = true := (Lay.tup fun e he => by
  simp only [List.mem_cons, List.not_mem_nil, or_false] at he
  rcases he with rfl | rfl | rfl
  · exact lay_str (by decide +kernel)
  · exact lay_str h
  · exact lay_int _ : Lay 1 (erD (.num w v))).shaped (by decide)
theorem erD_many {w : Str} {m l : Int} (h : erOk (.many w m l) = true) : SeqAt.shaped (erD (.many w m l)) = true := (Lay.tup fun e he => by
  simp only [List.mem_cons, List.not_mem_nil, or_false] at he
  rcases he with rfl | rfl | rfl | rfl
  · exact lay_str (by decide +kernel)
  · exact lay_str h
  · exact lay_int _
  · exact lay_int _ : Lay 1 (erD (.many w m l))).shaped (by decide)
section
variable {K : PySem.W.Frag} {TS : List (Addr × Str)} {t : XK → TE} {tt : TE} {σ : L2.St} {H : Hp} {x : Str} {fs : List Str} {tag : V} {vs : List V} {d : PyData}
/-- .. held against any data -/
theorem refuse_D {r : R2} {Q : VK} (tabs : LamX.Tabs TS H) (call : ∀ (H1 : Hp) (R : VK) (E : XK), LamX.ExtN H H1 → RzV K x fs vs H1 E → t E σ H1 R) (mem : (x, fs, tag) ∈ refT) (lv : vs.length = fs.length) (dv : DTs H (tag :: vs) ds)
    (due : ∀ H2, LamX.ExtN H H2 → LamX.Tabs TS H2 → ∀ u, DT H2 (.ref u) (.tuple ds) → tt σ H2 fun y H3 => r (.ref u) y H3 Q) : tOp r (LamX.tLam TS (TTref K) t) tt σ H Q := by
  refine ⟨tabs, fun H1 e1 tb1 R E _ hE => call H1 R E e1 fun D H2 s2 hd => hE _ _ _ (.inl ⟨x, fs, tag, vs, D, mem, rfl, rfl, hd, lv, fun u hu => ?_⟩)⟩
  have s3 := Same.new (.tup (tag :: vs)) s2 hu
  have e3 : LamX.ExtN H (upd H2 u (.tup (tag :: vs))) := e1.trans (LamX.ExtN.of fun b o e => s3 _ _ e)
  exact due _ e3 (tb1.ext fun b o e => s3 _ _ e) u (.tup upd_same (dv.to (tsame_ext e3)))
theorem refuse_D2 {r : R2} {Q : VK} {er : Er} (ok : erOk er = true) (tabs : LamX.Tabs TS H) (call : ∀ (H1 : Hp) (R : VK) (E : XK), LamX.ExtN H H1 → Rz K H1 E er → t E σ H1 R)
    (due : ∀ H2, LamX.ExtN H H2 → LamX.Tabs TS H2 → ∀ u, DT H2 (.ref u) (erD er) → tt σ H2 fun y H3 => r (.ref u) y H3 Q) : tOp r (LamX.tLam TS (TTref K) t) tt σ H Q := by
  cases er with
  | num w v => exact refuse_D (x := "BadNumber") (fs := ["what", "number"]) (tag := .str "number") (vs := [.str w, .int v]) tabs (fun H1 R E e rz => call H1 R E e (rz_num rz)) (by simp) rfl (.cons (.str _) (.cons (.str _) (.cons (.int _) .nil))) due
  | many w m l => exact refuse_D (x := "TooMany") (fs := ["what", "many", "limit"]) (tag := .str "too many") (vs := [.str w, .int m, .int l]) tabs (fun H1 R E e rz => call H1 R E e (rz_many rz)) (by simp) rfl (.cons (.str _) (.cons (.str _) (.cons (.int _) (.cons (.int _) .nil)))) due
  | name y => cases ok
theorem erD_sh {er : Er} (ok : erOk er = true) : SeqAt.shaped (erD er) = true := by
  cases er with
  | num w v => exact erD_num ok
  | many w m l => exact erD_many ok
  | name y => cases ok
theorem refuse_eqE {Q : VK} {er : Er} (ok : erOk er = true) (tabs : LamX.Tabs TS H) (call : ∀ (H1 : Hp) (R : VK) (E : XK), LamX.ExtN H H1 → Rz K H1 E er → t E σ H1 R) (due : ∀ H2, LamX.ExtN H H2 → Gv σ H2 tt (erD er))
    (k : ∀ H3, LamX.ExtN H H3 → LamX.Tabs TS H3 → Q (.bl true) H3) : tOp (rEqD K) (LamX.tLam TS (TTref K) t) tt σ H Q := refuse_D2 ok tabs call fun H2 e2 tb2 u du => due H2 e2 H2 _ (Same.refl H2) fun v H3 s3 dv => by
  refine ⟨_, _, DT.dp _ (du.to (.of s3)), DT.dp _ dv, erD_sh ok, erD_sh ok, ?_⟩
  rw [SeqAt.eqv_refl _ (SeqAt.canLay_of_shaped (erD_sh ok))]
  exact k _ (e2.trans (LamX.ExtN.of fun b o e => s3 _ _ e)) (tb2.ext fun b o e => s3 _ _ e)
theorem refuse_neE {Q : Bool → Hp → Prop} {er : Er} (ok : erOk er = true) (tabs : LamX.Tabs TS H) (call : ∀ (H1 : Hp) (R : VK) (E : XK), LamX.ExtN H H1 → Rz K H1 E er → t E σ H1 R) (due : ∀ H2, LamX.ExtN H H2 → Gv σ H2 tt (erD er))
    (k : ∀ H3, LamX.ExtN H H3 → LamX.Tabs TS H3 → Q false H3) : tTest (tOp (rNeD K) (LamX.tLam TS (TTref K) t) tt) σ H Q := refuse_D2 ok tabs call fun H2 e2 tb2 u du => due H2 e2 H2 _ (Same.refl H2) fun v H3 s3 dv => by
  refine ⟨_, _, DT.dp _ (du.to (.of s3)), DT.dp _ dv, erD_sh ok, erD_sh ok, _, rfl, ?_⟩
  rw [SeqAt.eqv_refl _ (SeqAt.canLay_of_shaped (erD_sh ok))]
  exact k _ (e2.trans (LamX.ExtN.of fun b o e => s3 _ _ e)) (tb2.ext fun b o e => s3 _ _ e)
end
theorem my_in {K : PySem.W.Frag} {H : Hp} {E : XK} {top : Int} {m : Nat} {G : Nat → Prop} (h2 : 2 ≤ m) (ht : (m : Int) ≤ top) (g : G m) : MyArg K H E (.int m) top G := .inr ⟨m, rfl, fun z => absurd ⟨by omega, by omega⟩ z, fun k ek _ _ => by
  obtain rfl : m = k := by omega
  exact g⟩
theorem po_ls {ls : List LpM} (n : ls.length ≤ 6) (h : ∀ l ∈ ls, LpMk l) : PO (ls.map oL) := ⟨by rw [List.length_map]; exact n, fun l' hl => by
  obtain ⟨l, hm, rfl⟩ := List.mem_map.mp hl
  have q := oL_ok (h l hm)
  obtain ⟨a0, a1, b0, b1, c0, c1, x0, x1, y0, y1, z0, z1, S0, S1, hS, n0, n3, okS⟩ := h l hm
  exact ⟨by show (l.sts.map oS).length ≤ 16; rw [List.length_map]; exact n3, q.2⟩⟩
theorem po_one {l : LpM} (h : LpMk l) : PO ([l].map oL) := po_ls (by show 1 ≤ 6; decide) fun l' hl => by
  obtain rfl := List.mem_singleton.mp hl
  exact h
theorem row_mk {S : Int} {dn : Bool} {sts : List StM} (h1 : 1 ≤ S) (h2 : S ≤ 16) (h3 : sts.length ≤ 16) (h4 : ∀ s ∈ sts, StMk s) : LpMk (rowM S dn sts) := by
  have q : (0 : Int) ≤ 0 ∧ (0 : Int) ≤ 3 ∧ (-999 : Int) ≤ 0 ∧ (0 : Int) ≤ 999 ∧ (1 : Int) ≤ 1 ∧ (1 : Int) ≤ 3 ∧ (0 : Int) ≤ 1 := by decide
  obtain ⟨q1, q2, q3, q4, q5, q6, q7⟩ := q
  exact ⟨q1, q2, q3, q4, q5, q6, q7, q6, q3, q4, q5, q6, h1, h2, fun _ => rfl, by omega, h3, h4⟩
theorem gv_row2 {K : PySem.W.Frag} {σ : L2.St} {H : Hp} {i : Nat} {r : V} {S S' : Int} {dn dn' : Bool} {sts sts' : List StM} {u : TE} (hσ : σ[i]? = some (some r)) (dr : DT H r (lpD (rowM S dn sts))) (h : Gv σ H u (.tuple [.int S', .bool dn', .tuple (sts'.map stD)])) : Gv σ H (tOp (rCatT K) (tSl (rSlT K) (tVar i) tNoPart (tPart (tC (.int 2)))) u) (lpD (rowM S' dn' sts')) :=
  gv_cat (gv_upto (k := 2) rfl (gv_var hσ (show DT H r (.tuple [i3 0 0 1, i3 1 0 1, .int S, .bool dn, .tuple (sts.map stD)]) from dr)) (by show 2 < 5; decide)) h (List.cons_ne_nil _ _) (List.cons_ne_nil _ _) (by show 2 + 3 ≤ 100000; decide)
def spLotsR (K : PySem.W.Frag) (TS : List (Addr × Str)) : Sp := fun vs H Q _ => ∃ (r : V) (S : Int) (dn : Bool) (sts : List StM), vs = [r] ∧ DT H r (lpD (rowM S dn sts)) ∧ LamX.Tabs TS H ∧ ∀ H', LamX.ExtN H H' → LamX.Tabs TS H' → Q (.bl true) H'
section
variable {P : Program} {w : World} {K : PySem.W.Frag} {mg : Str → Option Value} {base : Heap}
theorem sc_law_are_lots_right : FnScope ["_law_row", "_law_near", "_law_zero", "_law_far", "_law_full", "_law_lots", "_law_parts", "_law_many", "_law_due", "_law_program", "_law_six"] ["_law_row"] (defScope s_law_are_lots_right) := ⟨rfl, rfl, rfl, by decide +kernel, rfl, by decide +kernel, by decide +kernel⟩
theorem ok_lotsR {f c TT : Addr} {fd : FuncData} {TS : List (Addr × Str)} (F : FnP K "_law_are_lots_right" s_law_are_lots_right f fd) (hcode : fd.code = .ref c) (M : MkL base mg TS "_law_are_lots_right.<locals>.<lambda>" c TT) (RD : RefDef K mg) (R : RfTx K mg) (T : RwTx K mg) (dMade : Dn P w K mg base 11 "_law_made" ["_law_rows"] (spMadeX K)) (dDeal : Dx P w K mg base 11 "deal_loop" ["program", "loop", "many"] (spDeal K)) (dUnr : Dx P w K mg base 11 "unroll_loop" ["program", "loop", "many"] (spUnr K)) :
    FnOk P w K mg base CX0 16 f fd ["_law_row"] (spLotsR K TS) := by
  refine okC F hcode sc_law_are_lots_right (fun vs H Q E h => ?_) (fun A outer s H vs Q E hr h => ?_)
  · obtain ⟨r, S, dn, sts, rfl, _⟩ := h
    rfl
  · obtain ⟨r, S, dn, sts, rfl, dr, tabs, k⟩ := h
    obtain ⟨g, oc, od, dV, kV, doc, pm, an, cdv, ct, osl, Rm, Rk, Rl, Rc, Rb⟩ := RD
    have TB := M.tb
    have hmT := M.mem
    have hu := M.uni
    refine ⟨_, PSs.nox (pss_cons (ps_asg (pe_tup (pa_cons (pe_tup (pa_cons pe_str (pa_cons (pe_tup (pa_cons pe_int (pa_cons pe_int (pa_cons pe_int pa_nil)))) (pa_cons pe_int (pa_cons (pe_tup pa_nil) (pa_cons (pe_tup pa_nil) pa_nil)))))) (pa_cons (pe_tup (pa_cons pe_str (pa_cons (pe_tup (pa_cons pe_int (pa_cons pe_int (pa_cons pe_int pa_nil)))) (pa_cons pe_int (pa_cons (pe_tup pa_nil) (pa_cons (pe_tup pa_nil) pa_nil)))))) pa_nil))) (pg_tup (by rfl) (pgs_cons (pg_name (i := 1) sc_law_are_lots_right.nd rfl (.inl rfl)) (pgs_cons (pg_name (i := 2) sc_law_are_lots_right.nd rfl (.inl rfl)) pgs_nil))))
      (pss_cons (ps_set (i := 3) sc_law_are_lots_right.nd rfl (Or.inl rfl) (pe_tup (pa_cons pe_str (pa_cons (pe_tup (pa_cons pe_int (pa_cons pe_int (pa_cons pe_int pa_nil)))) (pa_cons pe_int (pa_cons (pe_tup (pa_cons (pe_tup (pa_cons pe_str (pa_cons (pe_tup (pa_cons pe_int (pa_cons pe_int (pa_cons pe_int (pa_cons pe_int pa_nil))))) (pa_cons pe_int pa_nil)))) pa_nil)) (pa_cons (pe_tup pa_nil) pa_nil)))))))
      (pss_cons (ps_set (i := 4) sc_law_are_lots_right.nd rfl (Or.inl rfl) (pe_op (op_catTK (K := K) rfl) (pe_slice (sl_tupK (K := K) rfl) (pv 2) po_none (po_some pe_int)) (pe_tup (pa_cons (pe_op (op_repTK (K := K) rfl) (pe_tup (pa_cons (pe_tup (pa_cons pe_str (pa_cons (pe_tup (pa_cons pe_int (pa_cons pe_int (pa_cons pe_int pa_nil)))) pa_nil))) pa_nil)) pe_int) pa_nil))))
      (pss_cons (ps_set (i := 5) sc_law_are_lots_right.nd rfl (Or.inl rfl) (pe_lst (pa_cons (pe_tup (pa_cons (pe_tup (pa_cons pe_int (pa_cons pe_bl (pa_cons (pe_tup (pa_cons (pv 1) pa_nil)) pa_nil)))) (pa_cons pe_int (pa_cons (pe_tup (pa_cons pe_str (pa_cons pe_str (pa_cons pe_int pa_nil)))) pa_nil)))) (pa_cons (pe_tup (pa_cons (pe_tup (pa_cons pe_int (pa_cons pe_bl (pa_cons (pe_tup (pa_cons (pv 1) pa_nil)) pa_nil)))) (pa_cons pe_int (pa_cons (pe_tup (pa_cons pe_str (pa_cons pe_str (pa_cons pe_int pa_nil)))) pa_nil)))) pa_nil))))
      (pss_cons (ps_set (i := 5) sc_law_are_lots_right.nd rfl (Or.inl rfl) (pe_op op_cat (pv 5) (pe_lst (pa_cons (pe_tup (pa_cons (pe_tup (pa_cons pe_int (pa_cons pe_bl (pa_cons (pe_tup (pa_cons (pv 3) pa_nil)) pa_nil)))) (pa_cons pe_int (pa_cons (pe_tup (pa_cons pe_str (pa_cons pe_str (pa_cons pe_int pa_nil)))) pa_nil)))) (pa_cons (pe_tup (pa_cons (pe_tup (pa_cons pe_int (pa_cons pe_bl (pa_cons (pe_tup (pa_cons (pv 2) pa_nil)) pa_nil)))) (pa_cons pe_int (pa_cons (pe_tup (pa_cons pe_str (pa_cons pe_str (pa_cons pe_int pa_nil)))) pa_nil)))) pa_nil)))))
      (pss_cons (ps_expr (pe_bm PySem.F.plainAttrs_list PySem.F.slot_list_append PySem.F.type_list_append mt_append (pv 5) (pa_cons (pe_tup (pa_cons (pe_tup (pa_cons pe_int (pa_cons pe_bl (pa_cons (pe_op (op_repTK (K := K) rfl) (pe_tup (pa_cons (pv 2) pa_nil)) pe_int) pa_nil)))) (pa_cons pe_int (pa_cons (pe_tup (pa_cons pe_str (pa_cons pe_str (pa_cons pe_int (pa_cons pe_int pa_nil))))) pa_nil)))) pa_nil)))
      (pss_cons (ps_for PassesOwn.never rfl (pi_list (pv 5)) (pg_tup (by rfl) (pgs_cons (pg_name (i := 6) sc_law_are_lots_right.nd rfl (.inl rfl)) (pgs_cons (pg_name (i := 7) sc_law_are_lots_right.nd rfl (.inr rfl)) (pgs_cons (pg_name (i := 8) sc_law_are_lots_right.nd rfl (.inl rfl)) pgs_nil)))) (pss_cons (ps_set (i := 9) sc_law_are_lots_right.nd rfl (Or.inr rfl) (pe_dn dMade hr (pa_cons (pe_lst (pa_cons (pe_op (op_catTK (K := K) rfl) (pe_slice (sl_tupK (K := K) rfl) (pv 0) po_none (po_some pe_int)) (pv 6)) pa_nil)) pa_nil)))
      (pss_one (ps_if (pt_cmpR (op_neD hr.units) (LamX.pe_lamcall (T := TS) (TT := TTref K) (a := "_law_call") (k := 12) rfl Rm Rk Rl Rc Rb sc_law_refused rfl (.inl rfl) (ref_gives R) TB rfl hmT hu (hr.mono (by decide)) (LamX.lamS_by (sc := defScope s_law_are_lots_right) (by decide +kernel)) rfl (fun _ _ _ _ _ => rfl) (fun _ _ _ _ _ _ _ hr2 => (pe_dx (K := K) dUnr rfl hr2 (fun σ => passAt (takes_of rfl rfl rfl rfl) σ) (pa_cons (pv 9) (pa_cons pe_int (pa_cons (pv 7) pa_nil)))))) (pv 8) (nomark _)) (pss_one (ps_ret pe_bl)) pss_nil))))
      (pss_cons (ps_set (i := 10) sc_law_are_lots_right.nd rfl (Or.inr rfl) (pe_dn dMade hr (pa_cons (pe_op op_rep (pe_lst (pa_cons (pe_op (op_catTK (K := K) rfl) (pe_slice (sl_tupK (K := K) rfl) (pv 0) po_none (po_some pe_int)) (pe_tup (pa_cons pe_int (pa_cons pe_bl (pa_cons (pe_tup (pa_cons (pv 4) pa_nil)) pa_nil))))) pa_nil)) pe_int) pa_nil)))
      (pss_one (ps_ret (pe_cmpR (op_eqD hr.units) (LamX.pe_lamcall (T := TS) (TT := TTref K) (a := "_law_call") (k := 12) rfl Rm Rk Rl Rc Rb sc_law_refused rfl (.inl rfl) (ref_gives R) TB rfl hmT hu (hr.mono (by decide)) (LamX.lamS_by (sc := defScope s_law_are_lots_right) (by decide +kernel)) rfl (fun _ _ _ _ _ => rfl) (fun _ _ _ _ _ _ _ hr2 => (pe_dx (K := K) dDeal rfl hr2 (fun σ => passAt (takes_of rfl rfl rfl rfl) σ) (pa_cons (pv 10) (pa_cons pe_int (pa_cons pe_int pa_nil)))))) (pe_tup (pa_cons pe_str (pa_cons pe_str (pa_cons pe_int (pa_cons pe_int pa_nil))))) (nomark _)))))))))))), ?_⟩
    refine gv_set (d := .tuple [stD stNear, stD stZero]) (by repeat' (first | exact gva_nil | refine gva_cons ?_ ?_ | exact gv_int | exact gv_str | exact gv_bl | (refine gv_var rfl ?_; assumption) | refine gv_tup ?_ (by decide))) fun v H1 s1 dv => ?_
    cases dv with
    | tup e1 r1 =>
    cases r1 with
    | cons d1 r1 =>
    cases r1 with
    | cons d2 r1 =>
    cases r1
    rename_i _ va vz
    refine ⟨_, _, rfl, SqT.of e1, rfl, _, _, rfl, _, _, rfl, rfl, ?_⟩
    refine norm (N := fun σ _ => _) (σ' := [some r, some va, some vz, none, none, none, none, none, none, none, none]) rfl ?_
    refine gv_set (d := stD stFar) (by repeat' (first | exact gva_nil | refine gva_cons ?_ ?_ | exact gv_int | exact gv_str | exact gv_bl | (refine gv_var rfl ?_; assumption) | refine gv_tup ?_ (by decide))) fun vf H2 s2 d3 => ?_
    have d1 := d1.to (.of s2)
    have d2 := d2.to (.of s2)
    refine normG (σ' := [some r, some va, some vz, some vf, none, none, none, none, none, none, none]) rfl ?_
    refine gv_set (gv_cat (gv_upto (k := 4) rfl (gv_var rfl (show DT H2 vz (.tuple zeroD) from d2)) (by decide)) (gv_tup (ds := [.tuple (List.replicate (3 : Int).toNat [leaD]).flatten]) (gva_cons (gv_rep (ds := [leaD]) (by repeat' (first | exact gva_nil | refine gva_cons ?_ ?_ | exact gv_int | exact gv_str | exact gv_bl | (refine gv_var rfl ?_; assumption) | refine gv_tup ?_ (by decide))) (by decide) (by decide) (by decide) (by decide)) gva_nil) (by decide)) (by decide) (by decide) (by decide)) fun vu H3 s3 d4 => ?_
    have d4 : DT H3 vu (stD stFull) := d4
    have d1 := d1.to (.of s3)
    have d2 := d2.to (.of s3)
    have d3 := d3.to (.of s3)
    refine normG (σ' := [some r, some va, some vz, some vf, some vu, none, none, none, none, none, none]) rfl ?_
    refine gv_setL (ds := [lotData lotA, lotData lotB]) (by repeat' (first | exact gva_nil | refine gva_cons ?_ ?_ | exact gv_int | exact gv_str | exact gv_bl | (refine gv_var rfl ?_; assumption) | refine gv_tup ?_ (by decide))) (by decide) fun p5 xs5 H5 s5 _ e5 dx5 => ?_
    have d1 := d1.to (.of s5)
    have d2 := d2.to (.of s5)
    have d3 := d3.to (.of s5)
    refine normG (σ' := [some r, some va, some vz, some vf, some vu, some (.ref p5), none, none, none, none, none]) rfl ?_
    refine gv_setC (ds := [lotData lotC, lotData lotD]) rfl e5 dx5 (by repeat' (first | exact gva_nil | refine gva_cons ?_ ?_ | exact gv_int | exact gv_str | exact gv_bl | (refine gv_var rfl ?_; assumption) | refine gv_tup ?_ (by decide))) (by decide) (by decide) fun p6 xs6 H6 s6 n6 e6 dx6 => ?_
    have d2 := d2.to (.of s6)
    have dx6 : DTs H6 xs6 [lotData lotA, lotData lotB, lotData lotC, lotData lotD] := dx6
    refine normG (σ' := [some r, some va, some vz, some vf, some vu, some (.ref p6), none, none, none, none, none]) rfl ?_
    refine gv_app (d := lotData lotE) rfl e6 (by rw [dx6.len]; decide) (gv_tup (gva_cons (gv_tup (ds := [.int 1, .bool false, .tuple (List.replicate (9 : Int).toNat [stD stZero]).flatten]) (gva_cons gv_int (gva_cons gv_bl (gva_cons (gv_rep (ds := [stD stZero]) (by repeat' (first | exact gva_nil | refine gva_cons ?_ ?_ | exact gv_int | exact gv_str | exact gv_bl | (refine gv_var rfl ?_; assumption) | refine gv_tup ?_ (by decide))) (by decide) (by decide) (by decide) (by decide)) gva_nil))) (by decide)) (by repeat' (first | exact gva_nil | refine gva_cons ?_ ?_ | exact gv_int | exact gv_str | exact gv_bl | (refine gv_var rfl ?_; assumption) | refine gv_tup ?_ (by decide)))) (by decide)) fun ve H7 s7 de => ?_
    have e67 := s7 _ _ e6
    have t7 : TSame H7 (upd H7 p6 (.lst (xs6 ++ [ve]))) := TSame.updL e67
    have dxs : DTs (upd H7 p6 (.lst (xs6 ++ [ve]))) (xs6 ++ [ve]) [lotData lotA, lotData lotB, lotData lotC, lotData lotD, lotData lotE] := ((dx6.to (.of s7)).app (.one de)).to t7
    obtain ⟨H8, eH8⟩ : ∃ X, X = upd H7 p6 (.lst (xs6 ++ [ve])) := ⟨_, rfl⟩
    have e8 : H8 p6 = some (.lst (xs6 ++ [ve])) := by rw [eH8]; exact upd_same
    rw [← eH8] at dxs t7 ⊢
    have n56 : ∀ a o, H5 a = some o → a ≠ p6 := fun a o h z => by
      rw [z, n6] at h
      cases h
    have s58 : Same H5 H8 := fun a o h => by
      rw [eH8, upd_ne (n56 a o h)]
      exact s7 _ _ (s6 _ _ h)
    have s08 : Same H H8 := s1.trans (s2.trans (s3.trans (s5.trans s58)))
    have e08 : LamX.ExtN H H8 := LamX.ExtN.of fun b o e => s08 _ _ e
    have tb8 : LamX.Tabs TS H8 := tabs.ext fun b o e => s08 _ _ e
    have dr8 : DT H8 r (lpD (rowM S dn sts)) := dr.to (.of s08)
    have d48 : DT H8 vu (stD stFull) := (d4.to (.of s5)).to (.of s58)
    clear d1 d2 d3 d4 dx6 dx5 de
    have all : ∀ (i : Nat) (x : V), (xs6 ++ [ve])[i]? = some x → ∃ q : LotM, LotOk q ∧ DT H8 x (lotData q) := fun i x hx => by
      obtain ⟨d, ed, dt⟩ := dxs.get' hx
      match i, ed with
      | 0, ed => cases ed; exact ⟨_, ok_lotA, dt⟩
      | 1, ed => cases ed; exact ⟨_, ok_lotB, dt⟩
      | 2, ed => cases ed; exact ⟨_, ok_lotC, dt⟩
      | 3, ed => cases ed; exact ⟨_, ok_lotD, dt⟩
      | 4, ed => cases ed; exact ⟨_, ok_lotE, dt⟩
    refine ⟨_, rfl, p6, rfl, ⟨_, SqL.of e8⟩, ?_⟩
    refine for_list (K := K) (xs := xs6 ++ [ve]) (fun i σ Hc => ∃ (v6 v7 v8 v9 : Option V), σ = [some r, some va, some vz, some vf, some vu, some (.ref p6), v6, v7, v8, v9, none] ∧ LamX.ExtN H8 Hc ∧ LamX.Tabs TS Hc) ⟨_, _, _, _, rfl, LamX.ExtN.refl _, tb8⟩ (fun i σ' H' _ ⟨_, _, _, _, _, z, _⟩ => SqL.of (z _ _ e8 fun _ z => by cases z)) ?_ ?_
    · rintro i x σ Hc hx ⟨v6, v7, v8, v9, rfl, ec, tc⟩
      obtain ⟨⟨ql, qm, qe⟩, ⟨⟨S', dn', sts', el, S1, S16, l16, sk⟩, m2, m16, ok, ck⟩, dq⟩ := all i x hx
      have el : ql = rowM S' dn' sts' := el
      subst el
      have m16 : qm ≤ 16 := m16
      have lk := row_mk (dn := dn') S1 S16 l16 sk
      have dq := dq.to (tsame_ext ec)
      cases dq with
      | tup eq rq =>
      cases rq with
      | cons dp rq =>
      cases rq with
      | cons dm rq =>
      cases rq with
      | cons dd rq =>
      cases rq
      cases dm
      rename_i aq xp xd
      refine ⟨_, _, rfl, SqT.of eq, rfl, _, _, rfl, _, _, rfl, _, _, rfl, rfl, ?_⟩
      refine norm (N := fun σ _ => _) (σ' := [some r, some va, some vz, some vf, some vu, some (.ref p6), some xp, some (.int qm), some xd, v9, none]) rfl ?_
      try dsimp only
      refine set_call (gv_lst (ds := [lpD (rowM S' dn' sts')]) (gva_cons (gv_row2 rfl (dr8.to (tsame_ext ec)) (gv_var rfl dp)) gva_nil) (by show 1 ≤ 100000; decide) fun pl xl H9 s9 n9 e9 d9 => ⟨pl, xl, [rowM S' dn' sts'], rfl, e9, d9, (by show 1 ≤ 6; decide), (fun l hl => by
        obtain rfl := List.mem_singleton.mp hl
        exact lk), fun v' H10 s10 hP => ?_⟩)
      refine normG (σ' := [some r, some va, some vz, some vf, some vu, some (.ref p6), some xp, some (.int qm), some xd, some v', none]) rfl ?_
      have sc := s9.trans s10
      refine refuse_neE (er := qe) ok (tc.ext fun b o e => sc _ _ e) (fun H1 R E e1 rz => ⟨_, rfl, _, rfl, v', .int 0, .int qm, _, rfl, hP.ms (ms_ext e1), po_one lk, lp_zero (by show 0 < 1; decide) fun l hl => ?_⟩) (fun H2 e2 => gv_var rfl (dd.to ((TSame.of sc).trans (tsame_ext e2)))) fun H3 e3 tb3 => if_no rfl ?_
      · obtain rfl : oL (rowM S' dn' sts') = l := Option.some.inj hl
        exact my_in m2 (by omega) ⟨by show 0 ≤ S'; omega, by show S' ≤ 100; omega, qe, ck, rz⟩
      · exact ⟨_, _, _, _, rfl, ec.trans ((LamX.ExtN.of fun b o e => sc _ _ e).trans e3), tb3⟩
    · rintro σ Hf ⟨v6, v7, v8, v9, rfl, ef, tf⟩
      try dsimp only
      have s6k : ∀ l ∈ List.replicate 6 (rowM 1 false [stFull]), LpMk l := fun l hl => by
        obtain rfl := List.eq_of_mem_replicate hl
        exact row_mk (by decide) (by decide) (by decide) (one_st mk_full)
      refine set_call (gv_repL (ds := [lpD (rowM 1 false [stFull])]) (gva_cons (gv_row2 rfl (dr8.to (tsame_ext ef)) (gv_tup (gva_cons gv_int (gva_cons gv_bl (gva_cons (gv_tup (ds := [stD stFull]) (gva_cons (gv_var rfl (d48.to (tsame_ext ef))) gva_nil) (by decide)) gva_nil))) (by decide))) gva_nil) (by decide) (by decide) (by decide) fun pl xl H9 s9 n9 e9 d9 => ⟨pl, xl, List.replicate 6 (rowM 1 false [stFull]), rfl, e9, d9, by decide, s6k, fun v' H10 s10 hP => ?_⟩)
      refine normG (σ' := [some r, some va, some vz, some vf, some vu, some (.ref p6), v6, v7, v8, v9, some v']) rfl ?_
      have sc := s9.trans s10
      refine refuse_eqE (er := .many "conditions" 4 3) (by decide +kernel) (tf.ext fun b o e => sc _ _ e) (fun H1 R E e1 rz => ⟨_, rfl, v', .int 0, .int 2, _, rfl, hP.ms (ms_ext e1), po_ls (by decide) s6k, lp_zero (by decide) fun l hl => ?_⟩) (fun H2 e2 => (by repeat' (first | exact gva_nil | refine gva_cons ?_ ?_ | exact gv_int | exact gv_str | exact gv_bl | (refine gv_var rfl ?_; assumption) | refine gv_tup ?_ (by decide)))) fun H3 e3 tb3 => ?_
      · obtain rfl : oL (rowM 1 false [stFull]) = l := Option.some.inj hl
        exact my_in (by decide) (by decide) ⟨_, six_ck, rz⟩
      · exact k H3 (e08.trans (ef.trans ((LamX.ExtN.of fun b o e => sc _ _ e).trans e3))) tb3
end
end K49
set_option maxHeartbeats 4000000
namespace K49
open PySem PySem.Spec PyProof.Rows L2 Z
theorem ckAll_ok {α : Type} {f : α → Option Er} : ∀ {l : List α}, (∀ a ∈ l, f a = none) → ckAll f l = none
  | [], _ => rfl
  | x :: l, h => by
    show (f x).or (ckAll f l) = none
    rw [h x (List.mem_cons_self ..), ckAll_ok fun a ha => h a (List.mem_cons_of_mem _ ha)]
    rfl
theorem mvR0_ok {r : RdX} (h : RdXk r) : RdXk (mvR 0 r) := by
  obtain ⟨rnm, ra0, ra1, rb0, rb1, rc0, rc1, rd0, rd1, rf0, rf1, rf2⟩ := h
  have ga := fdiv_bd (x := r.a) (M := 12) (g := (gg r.a r.b r.d : Int)) (by have := gg_pos (a := r.a) (b := r.b) (d := r.d) (by omega); omega) (by decide) (by omega) (by omega)
  have gb := fdiv_bd (x := r.b) (M := 12) (g := (gg r.a r.b r.d : Int)) (by have := gg_pos (a := r.a) (b := r.b) (d := r.d) (by omega); omega) (by decide) (by omega) (by omega)
  have gc := fdiv_bd (x := r.c + r.a * 0) (M := 999) (g := (gg r.a r.b r.d : Int)) (by have := gg_pos (a := r.a) (b := r.b) (d := r.d) (by omega); omega) (by decide) (by omega) (by omega)
  have gd := dv_bd (a := r.a) (b := r.b) (d := r.d) (by omega)
  exact ⟨rnm, ga.1, ga.2, gb.1, gb.2, gc.1, gc.2, gd.1, Int.le_trans gd.2 rd1, rf0, rf1, rf2⟩
theorem mvC0_ok {g : CdX} (h : CdXk g) : CdXk (mvC 0 g) := by
  cases g with
  | atl a b c =>
    obtain ⟨h1, h2, h3, h4, h5, h6⟩ := h
    show -12 ≤ a.fdiv (g2 a b) ∧ a.fdiv (g2 a b) ≤ 12 ∧ -12 ≤ b.fdiv (g2 a b) ∧ b.fdiv (g2 a b) ≤ 12 ∧ -999 ≤ lf3 a b (c + a * 0) ∧ lf3 a b (c + a * 0) ≤ 999
    unfold lf3
    by_cases z : g2 a b = 0
    · obtain ⟨rfl, rfl⟩ := g2_zero z
      rw [if_pos z, Int.zero_fdiv]
      split <;> decide
    · rw [if_neg z]
      have g0 : (0 : Int) < (g2 a b : Int) := by omega
      have ga := fdiv_bd (x := a) (M := 12) g0 (by decide) (by omega) (by omega)
      have gb := fdiv_bd (x := b) (M := 12) g0 (by decide) (by omega) (by omega)
      have gc := fdiv_bd (x := c + a * 0) (M := 999) g0 (by decide) (by omega) (by omega)
      exact ⟨ga.1, ga.2, gb.1, gb.2, gc.1, gc.2⟩
  | rst a b m r =>
    obtain ⟨m2, m4, _⟩ := h
    have fa := fmod_range (x := a) (show 0 < m by omega)
    have fb := fmod_range (x := b) (show 0 < m by omega)
    have fr := fmod_range (x := r - (0 + a * 0)) (show 0 < m by omega)
    exact ⟨m2, m4, fa.1, fa.2, fb.1, fb.2, fr.1, fr.2⟩
theorem ckRs_ok {rs : List RdX} (h : ∀ r ∈ rs, RdXk r) : ckRs rs = none := ckAll_ok fun r hr => ckRead_ok (h r hr)
theorem ckStm_ok {m1 m2 : Int} {x : Str} {cs : List (Int × Int × Int)} {a b c k : Int} (h1 : m1 ≤ 3) (h2 : m2 ≤ 3) (nm : NmOk x) (hc : ckCs cs = none) (a1 : -12 ≤ a) (a2 : a ≤ 12) (b1 : -12 ≤ b) (b2 : b ≤ 12) (c1 : -999 ≤ c) (c2 : c ≤ 999) (k1 : -999 ≤ k) (k2 : k ≤ 999) : ckStm m1 m2 x cs a b c k = none := by
  unfold ckStm ckM
  rw [if_pos h1, if_pos h2, ck_name nm, hc, cks_ok a1 a2 b1 b2 c1 c2, ckn_ok k1 k2]
  rfl
theorem ckStm_many {m1 m2 : Int} {x : Str} {cs : List (Int × Int × Int)} {a b c k : Int} (h1 : m1 ≤ 3) (h2 : ¬ m2 ≤ 3) : ckStm m1 m2 x cs a b c k = some (.many "conditions" m2 3) := by
  unfold ckStm ckM
  rw [if_pos h1, if_neg h2]
  rfl
theorem mvS0_rds {ck : List CdX} {s : StX} (h : StXk s) : ckRs (mvS 0 ck s).rds = none := ckRs_ok fun r hr => by
  obtain ⟨q, hq, rfl⟩ := List.mem_map.mp (show r ∈ s.rds.map (mvR 0) from hr)
  exact mvR0_ok (h.2.2.2.2.2.2.1 q hq)
theorem mvS0_ok {ck : List CdX} {s : StX} (h : StXk s) (hk : ∀ g ∈ ck, CdXk g) (n : ck.length + s.gds.length ≤ 3) : ckMv (mvS 0 ck s) = none := by
  unfold ckMv
  rw [mvS0_rds h]
  obtain ⟨nm, ⟨a1, a2, b1, b2, c1, c2⟩, k1, k2, l1, l2, hr, hg⟩ := h
  show (ckStm (s.rds.map (mvR 0)).length (ck ++ s.gds.map (mvC 0)).length s.x ((ck ++ s.gds.map (mvC 0)).map cSum) s.a s.b (s.c + s.a * 0) s.k) = none
  rw [List.length_map, List.length_append, List.length_map]
  exact ckStm_ok (by omega) (by omega) nm (cks_x fun g h => by
    rcases List.mem_append.mp h with h | h
    · exact hk g h
    · obtain ⟨q, hq, rfl⟩ := List.mem_map.mp h
      exact mvC0_ok (hg q hq)) a1 a2 b1 b2 (by omega) (by omega) k1 k2
theorem mvS0_many {g : CdX} {s : StX} (h : StXk s) (n : s.gds.length = 3) : ckMv (mvS 0 [g] s) = some (.many "conditions" 4 3) := by
  unfold ckMv
  rw [mvS0_rds h]
  show (ckStm (s.rds.map (mvR 0)).length ([g] ++ s.gds.map (mvC 0)).length s.x _ s.a s.b _ s.k) = _
  rw [List.length_map, List.length_append, List.length_map, n]
  exact ckStm_many (by have := h.2.2.2.2.1; omega) (by show ¬ ((1 + 3 : Nat) : Int) ≤ 3; decide)
theorem ckLp_le {m m' S : Int} {t u : P4} (h : ckLp m S t u = none) (e : m' ≤ m) : ckLp m' S t u = none := by
  have l := ckLp_len h
  unfold ckLp ckLoop ckM at h ⊢
  rw [if_pos l] at h
  rw [if_pos (Int.le_trans e l)]
  exact h
theorem ckEs_kept {ls : List LpX} {es : List EnM} (h : ∀ e ∈ es, e.g = 0 ∧ e.ck = []) : ckEs ls es = none := ckAll_ok fun e he => by
  unfold ckEn
  rw [if_pos (h e he)]
theorem kept_00 {l : LpX} {j : Nat} : ∀ e ∈ keptEs l j, e.g = 0 ∧ e.ck = [] := fun e he => by
  obtain ⟨k, _, rfl⟩ := List.mem_map.mp he
  exact ⟨rfl, rfl⟩
theorem ckPt_of {ls : List LpX} {p : PtM} (h1 : ckEs ls p.es = none) (h2 : ckLp p.es.length p.S p.t p.u = none) : ckPt ls p = none := by
  unfold ckPt
  rw [h1, h2]
  rfl
theorem ck_plan {ls : List LpX} {j many : Nat} {pts : List PtM} (ok : ∀ l ∈ ls, LpXk l) (hj : j + many ≤ ls.length) (hp : ∀ p ∈ pts, ckPt ls p = none) : ckPl ls (planOf ls j many pts) = none := ckAll_ok fun p h => by
  have kept : ∀ a b, b ≤ ls.length → p ∈ kepts ls a b → ckPt ls p = none := fun a b hb h => by
    obtain ⟨j0, l0, h0, rfl⟩ := kepts_mem hb h
    refine ckPt_of (ckEs_kept kept_00) ?_
    show ckLp (keptEs l0 j0).length l0.S l0.t l0.u = none
    rw [keptEs_len]
    exact (ok l0 (List.mem_of_getElem? h0)).1
  rcases List.mem_append.mp h with h | h
  · rcases List.mem_append.mp h with h | h
    · exact kept _ _ (by omega) h
    · exact hp p h
  · exact kept _ _ (Nat.le_refl _) h
theorem ck_loops {ls : List LpX} {j many n : Nat} {pts : List PtM} (ok : ∀ l ∈ ls, LpXk l) (hj : j + many ≤ ls.length) (hp : ∀ p ∈ pts, ckPt ls p = none) (hn : n = j + pts.length + (ls.length - (j + many))) (h6 : 6 < n) : ckRw ls (planOf ls j many pts) = some (.many "loops" n 6) := by
  unfold ckRw
  rw [ck_plan ok hj hp]
  have e : (planOf ls j many pts).length = n := by
    unfold planOf
    rw [List.length_append, List.length_append, kepts_len, kepts_len]
    omega
  rw [e]
  unfold ckM
  rw [if_neg (by omega)]
  rfl
/-- dealt, nothing is refused -/
theorem ck_deal {ls : List LpX} {j m r : Nat} {l : LpX} (hl : ls[j]? = some l) (ok : LpXk l) (g2 : ∀ s ∈ l.sts, s.gds.length ≤ 2) (m2 : 2 ≤ m) (m4 : m ≤ 4) : ckPt ls (partL l (dealEs l j m r)) = none := by
  refine ckPt_of (ckAll_ok fun e he => ?_) ?_
  · obtain ⟨e0, h0, rfl⟩ := List.mem_map.mp (show e ∈ (keptEs l j).map _ from he)
    obtain ⟨k, hk, rfl⟩ := List.mem_map.mp (show e0 ∈ (List.range l.sts.length).map _ from h0)
    have hk := List.mem_range.mp hk
    have hs := List.getElem?_eq_getElem hk
    unfold ckEn
    rw [if_neg (fun z => by cases z.2)]
    show ckMv (mvS 0 [.rst ((1 : Int).fmod m) ((0 : Int).fmod m) m (((r : Int) - 0).fmod m)] (stAt ls j k)) = none
    rw [stAt_of hl hs]
    have hm := List.mem_of_getElem? hs
    refine mvS0_ok (ok.2 _ hm) (fun g hg => ?_) (by have := g2 _ hm; show 1 + _ ≤ 3; omega)
    obtain rfl := List.mem_singleton.mp hg
    have f1 := fmod_range (x := 1) (m := m) (by omega)
    have f2 := fmod_range (x := 0) (m := m) (by omega)
    have f3 := fmod_range (x := (r : Int) - 0) (m := m) (by omega)
    exact ⟨by omega, by omega, f1.1, f1.2, f2.1, f2.2, f3.1, f3.2⟩
  · show ckLp (dealEs l j m r).length l.S l.t l.u = none
    unfold dealEs
    rw [List.length_map, keptEs_len]
    exact ok.1
theorem ck_deal_many {ls : List LpX} {m : Nat} {l : LpX} {s : StX} {rest : List StX} (hl : ls[0]? = some l) (es : l.sts = s :: rest) (ok : StXk s) (n : s.gds.length = 3) (m1 : 1 ≤ m) : ckRw ls (planOf ls 0 1 (dealPts l 0 m)) = some (.many "conditions" 4 3) := by
  have e1 : planOf ls 0 1 (dealPts l 0 m) = dealPts l 0 m ++ kepts ls (0 + 1) ls.length := rfl
  rw [e1]
  obtain ⟨m', rfl⟩ : ∃ m', m = m' + 1 := ⟨m - 1, by omega⟩
  have e2 : dealPts l 0 (m' + 1) = partL l (dealEs l 0 (m' + 1) 0) :: ((List.range m').map Nat.succ).map fun r => partL l (dealEs l 0 (m' + 1) r) := by
    unfold dealPts
    rw [List.range_succ_eq_map]
    rfl
  have hs : l.sts[0]? = some s := by rw [es]; rfl
  have e3 : ∃ g tl, dealEs l 0 (m' + 1) 0 = { j := 0, k := 0, g := 0, ck := [g] } :: tl := by
    unfold dealEs keptEs
    rw [es, List.length_cons, List.range_succ_eq_map]
    exact ⟨_, _, rfl⟩
  obtain ⟨g, tl, e3⟩ := e3
  have e4 : ckEs ls (dealEs l 0 (m' + 1) 0) = some (.many "conditions" 4 3) := by
    rw [e3]
    show (ckEn ls { j := 0, k := 0, g := 0, ck := [g] }).or (ckAll (ckEn ls) tl) = _
    unfold ckEn
    rw [if_neg (fun z => by cases z.2)]
    show (ckMv (mvS 0 [g] (stAt ls 0 0))).or _ = _
    rw [stAt_of hl hs, mvS0_many ok n]
    rfl
  rw [e2]
  show ((ckPt ls (partL l (dealEs l 0 (m' + 1) 0))).or _).or _ = _
  unfold ckPt
  show (((ckEs ls (dealEs l 0 (m' + 1) 0)).or _).or _).or _ = _
  rw [e4]
  rfl
theorem tsame_keepN {H H' : Hp} {p : Addr} {xs : List V} (e : H p = some (.lst xs)) (k : KeepN p H H') : TSame H H' := fun a ys ea => k a _ (fun z => by
  rw [z, e] at ea
  cases ea) (fun _ z => by cases z) ea
/-- found.append(_law_refused(lambda: ..) == (..)), the error told -/
theorem app_refE {K : PySem.W.Frag} {TS : List (Addr × Str)} {t : XK → TE} {tt : TE} {σ : L2.St} {H : Hp} {b : L2.TS} {D : Ends} {i : Nat} {er : Er} {bs : List V} {lf : Addr} (hσ : σ[i]? = some (some (V.ref lf))) (e : H lf = some (.lst bs)) (lb : bs.length < 900)
    (ok : erOk er = true) (tabs : LamX.Tabs TS H) (call : ∀ (H1 : Hp) (R : VK) (E : XK), LamX.ExtN H H1 → Rz K H1 E er → t E σ H1 R) (due : ∀ H2, LamX.ExtN H H2 → Gv σ H2 tt (erD er))
    (k : ∀ H3, KeepN lf H H3 → H3 lf = some (.lst (bs ++ [.bl true])) → LamX.Tabs TS H3 → b D σ H3) : tSeq (tDrop (tBM K "list" rAppend (tVar i) (tCons (tOp (rEqD K) (LamX.tLam TS (TTref K) t) tt) tNil))) b D σ H := by
  refine ⟨_, hσ, .inl ⟨rfl, _, SqL.of e⟩, refuse_eqE ok tabs call due fun H3 e3 tb3 => ?_⟩
  have e4 := e3 _ _ e fun _ z => by cases z
  refine ⟨lf, bs, _, rfl, rfl, e4, sz1l _ (by omega), k _ (fun a o n t h => ?_) upd_same (tabs_upd tb3 e4)⟩
  rw [upd_ne n]
  exact e3 _ _ h t
theorem gv_row4 {K : PySem.W.Frag} {σ : L2.St} {H : Hp} {i : Nat} {r : V} {S : Int} {dn : Bool} {sts sts' : List StM} {u : TE} (hσ : σ[i]? = some (some r)) (dr : DT H r (lpD (rowM S dn sts))) (h : Gv σ H u (.tuple [.tuple (sts'.map stD)])) : Gv σ H (tOp (rCatT K) (tSl (rSlT K) (tVar i) tNoPart (tPart (tC (.int 4)))) u) (lpD (rowM S dn sts')) :=
  gv_cat (gv_upto (k := 4) rfl (gv_var hσ (show DT H r (.tuple [i3 0 0 1, i3 1 0 1, .int S, .bool dn, .tuple (sts.map stD)]) from dr)) (by show 4 < 5; decide)) h (List.cons_ne_nil _ _) (List.cons_ne_nil _ _) (by show 4 + 1 ≤ 100000; decide)
theorem lp_in {K : PySem.W.Frag} {H : Hp} {E : XK} {n j : Nat} {i : Int} {G : Nat → Prop} (hi : i = (j : Int)) (h : j < n) (g : G j) : LpArg K H E (.int i) n G := .inr ⟨i, rfl, fun z => absurd ⟨by omega, by omega⟩ z, fun k ek hk => by
  obtain rfl : j = k := by omega
  exact g⟩
theorem st_in {K : PySem.W.Frag} {H : Hp} {E : XK} {n j k : Nat} {i : Int} {G : Nat → Prop} (hi : i = (k : Int)) (h : k < n) (g : G k) : StArg K H E j (.int i) n G := .inr ⟨i, rfl, fun z => absurd ⟨by omega, by omega⟩ z, fun m ek hk => by
  obtain rfl : k = m := by omega
  exact g⟩
theorem gds_oS {s : StM} : (oS s).gds.length = s.gds.length := List.length_map ..
theorem ck_cutP {ls : List LpX} {S : Int} {dn : Bool} {sts : List StM} (h : LpMk (rowM S dn sts)) : ∀ p ∈ cutP (oL (rowM S dn sts)) 0 (0, 0, 0, 1), ckPt ls p = none := by
  obtain ⟨_, _, _, _, _, _, _, _, _, _, _, _, S1, S16, _, _, l16, _⟩ := h
  have n : ((keptEs (oL (rowM S dn sts)) 0).length : Int) ≤ 16 := by
    rw [keptEs_len]
    show ((sts.map oS).length : Int) ≤ 16
    rw [List.length_map]
    have : sts.length ≤ 16 := l16
    omega
  have S1 : 1 ≤ S := S1
  have S16 : S ≤ 16 := S16
  have e0 : ((0 : Int), (0 : Int), (0 : Int), (1 : Int)) = lf4 0 0 1 := by kernel_rfl
  have k1 : ckLp (keptEs (oL (rowM S dn sts)) 0).length S (0, 0, 0, 1) (lf4 1 0 1) = none := by
    rw [e0]
    exact ckLp_ok n S1 S16 (fun _ => rfl) (by decide) (by decide) (by decide) (by decide) (by decide) (by decide) (by decide) (by decide) (by decide) (by decide) (by decide) (by decide)
  have k2 : ckLp (keptEs (oL (rowM S dn sts)) 0).length S (lf4 0 0 1) (0, 0, 0, 1) = none := by
    rw [e0]
    exact ckLp_ok n S1 S16 (fun _ => rfl) (by decide) (by decide) (by decide) (by decide) (by decide) (by decide) (by decide) (by decide) (by decide) (by decide) (by decide) (by decide)
  intro p hp
  unfold cutP at hp
  cases dn with
  | true =>
    rw [if_pos (show (oL (rowM S true sts)).dn = true from rfl)] at hp
    simp only [List.mem_cons, List.not_mem_nil, or_false] at hp
    rcases hp with rfl | rfl
    · exact ckPt_of (ckEs_kept kept_00) k1
    · exact ckPt_of (ckEs_kept kept_00) k2
  | false =>
    rw [if_neg (show ¬ (oL (rowM S false sts)).dn = true from fun z => by cases z)] at hp
    simp only [List.mem_cons, List.not_mem_nil, or_false] at hp
    rcases hp with rfl | rfl
    · exact ckPt_of (ckEs_kept kept_00) k2
    · exact ckPt_of (ckEs_kept kept_00) k1
theorem ck_join {ls : List LpX} {l1 l2 : LpX} (n : ls.length = 2) (m : l1.sts.length + l2.sts.length = 18) : ckRw ls (planOf ls 0 2 [joinPt l1 l2 0]) = some (.many "statements" 18 16) := by
  have e : planOf ls 0 2 [joinPt l1 l2 0] = [joinPt l1 l2 0] := by
    unfold planOf kepts
    rw [n]
    rfl
  rw [e]
  have e2 : ckPt ls (joinPt l1 l2 0) = some (.many "statements" 18 16) := by
    unfold ckPt
    rw [show (joinPt l1 l2 0).es = keptEs l1 0 ++ keptEs l2 (0 + 1) from rfl, ckEs_kept (fun e he => by
      rcases List.mem_append.mp he with h | h
      · exact kept_00 e h
      · exact kept_00 e h), List.length_append, keptEs_len, keptEs_len, m]
    unfold ckLp ckLoop ckM
    rw [if_neg (by decide)]
    rfl
  show ((ckPt ls (joinPt l1 l2 0)).or none).or _ = _
  rw [e2]
  rfl
def spBoundsR (K : PySem.W.Frag) (TS : List (Addr × Str)) : Sp := fun vs H Q _ => ∃ (r : V) (S : Int) (dn : Bool) (s1 s2 : StM) (sts : List StM), vs = [r] ∧ DT H r (lpD (rowM S dn (s1 :: s2 :: sts))) ∧ 1 ≤ S ∧ S ≤ 16 ∧ sts.length ≤ 1 ∧ (∀ s ∈ s1 :: s2 :: sts, StMk s ∧ s.gds.length ≤ 2) ∧ LamX.Tabs TS H ∧ ∀ H', LamX.ExtN H H' → LamX.Tabs TS H' → Q (.bl true) H'
section
variable {P : Program} {w : World} {K : PySem.W.Frag} {mg : Str → Option Value} {base : Heap}
theorem sc_law_are_bounds_right : FnScope ["_law_row", "_law_found", "_law_one", "_law_six", "_law_wide", "_law_guard", "_law_full"] ["_law_row"] (defScope s_law_are_bounds_right) := ⟨rfl, rfl, rfl, by decide +kernel, rfl, by decide +kernel, by decide +kernel⟩
theorem ok_boundsR {f c TT : Addr} {fd : FuncData} {TS : List (Addr × Str)} (F : FnP K "_law_are_bounds_right" s_law_are_bounds_right f fd) (hcode : fd.code = .ref c) (M : MkL base mg TS "_law_are_bounds_right.<locals>.<lambda>" c TT) (RD : RefDef K mg) (R : RfTx K mg) (T : RwTx K mg) (dMade : Dn P w K mg base 11 "_law_made" ["_law_rows"] (spMadeX K)) (dJoin : Dx P w K mg base 11 "join_loops" ["program", "loop"] (spJoin K)) (dSplit : Dx P w K mg base 11 "split_loop" ["program", "loop", "statement"] (spSplit K)) (dCut : Dx P w K mg base 11 "cut_loop" ["program", "loop", "place"] (spCut K)) (dDeal : Dx P w K mg base 11 "deal_loop" ["program", "loop", "many"] (spDeal K)) (dLotsR : Dn P w K mg base 16 "_law_are_lots_right" ["_law_row"] (spLotsR K TS)) :
    FnOk P w K mg base CX0 18 f fd ["_law_row"] (spBoundsR K TS) := by
  refine okC F hcode sc_law_are_bounds_right (fun vs H Q E h => ?_) (fun A outer s H vs Q E hr h => ?_)
  · obtain ⟨r, S, dn, s1, s2, sts, rfl, _⟩ := h
    rfl
  · obtain ⟨r, S, dn, m1, m2, sts, rfl, dr, S1, S16, l1, sk, tabs, k⟩ := h
    obtain ⟨g, oc, od, dV, kV, doc, pm, an, cdv, ct, osl, Rm, Rk, Rl, Rc, Rb⟩ := RD
    have TB := M.tb
    have hmT := M.mem
    have hu := M.uni
    refine ⟨_, PSs.nox (pss_cons (ps_par (i := 1) (j := 2) (by rfl) sc_law_are_bounds_right.nd rfl rfl (by decide) rfl rfl (pa_cons (pe_lst pa_nil) (pa_cons (pe_ix (ix_tupK (K := K) rfl) (pe_ix (ix_tupK (K := K) rfl) (pv 0) pe_int (fun _ _ => rfl)) pe_int (fun _ _ => rfl)) pa_nil)) (by rfl))
      (pss_cons (ps_asg (pe_tup (pa_cons (pe_dn dMade hr (pa_cons (pe_op op_rep (pe_lst (pa_cons (pv 0) pa_nil)) pe_int) pa_nil)) (pa_cons (pe_dn dMade hr (pa_cons (pe_op op_rep (pe_lst (pa_cons (pe_op (op_catTK (K := K) rfl) (pe_slice (sl_tupK (K := K) rfl) (pv 0) po_none (po_some pe_int)) (pe_tup (pa_cons (pe_op (op_repTK (K := K) rfl) (pe_tup (pa_cons (pv 2) pa_nil)) pe_int) pa_nil))) pa_nil)) pe_int) pa_nil)) pa_nil))) (pg_tup (by rfl) (pgs_cons (pg_name (i := 3) sc_law_are_bounds_right.nd rfl (.inr rfl)) (pgs_cons (pg_name (i := 4) sc_law_are_bounds_right.nd rfl (.inr rfl)) pgs_nil))))
      (pss_cons (ps_expr (pe_bm PySem.F.plainAttrs_list PySem.F.slot_list_append PySem.F.type_list_append mt_append (pv 1) (pa_cons (pe_cmpR (op_eqD hr.units) (LamX.pe_lamcall (T := TS) (TT := TTref K) (a := "_law_call") (k := 12) rfl Rm Rk Rl Rc Rb sc_law_refused rfl (.inl rfl) (ref_gives R) TB rfl hmT hu (hr.mono (by decide)) (LamX.lamS_by (sc := defScope s_law_are_bounds_right) (by decide +kernel)) rfl (fun _ _ _ _ _ => rfl) (fun _ _ _ _ _ _ _ hr2 => (pe_dx (K := K) dSplit rfl hr2 (fun σ => passAt (takes_of rfl rfl rfl rfl) σ) (pa_cons (pv 3) (pa_cons pe_int (pa_cons pe_int pa_nil)))))) (pe_tup (pa_cons pe_str (pa_cons pe_str (pa_cons pe_int (pa_cons pe_int pa_nil))))) (nomark _)) pa_nil)))
      (pss_cons (ps_expr (pe_bm PySem.F.plainAttrs_list PySem.F.slot_list_append PySem.F.type_list_append mt_append (pv 1) (pa_cons (pe_cmpR (op_eqD hr.units) (LamX.pe_lamcall (T := TS) (TT := TTref K) (a := "_law_call") (k := 12) rfl Rm Rk Rl Rc Rb sc_law_refused rfl (.inl rfl) (ref_gives R) TB rfl hmT hu (hr.mono (by decide)) (LamX.lamS_by (sc := defScope s_law_are_bounds_right) (by decide +kernel)) rfl (fun _ _ _ _ _ => rfl) (fun _ _ _ _ _ _ _ hr2 => (pe_dx (K := K) dCut rfl hr2 (fun σ => passAt (takes_of rfl rfl rfl rfl) σ) (pa_cons (pv 3) (pa_cons pe_int (pa_cons pe_int pa_nil)))))) (pe_tup (pa_cons pe_str (pa_cons pe_str (pa_cons pe_int (pa_cons pe_int pa_nil))))) (nomark _)) pa_nil)))
      (pss_cons (ps_expr (pe_bm PySem.F.plainAttrs_list PySem.F.slot_list_append PySem.F.type_list_append mt_append (pv 1) (pa_cons (pe_cmpR (op_eqD hr.units) (LamX.pe_lamcall (T := TS) (TT := TTref K) (a := "_law_call") (k := 12) rfl Rm Rk Rl Rc Rb sc_law_refused rfl (.inl rfl) (ref_gives R) TB rfl hmT hu (hr.mono (by decide)) (LamX.lamS_by (sc := defScope s_law_are_bounds_right) (by decide +kernel)) rfl (fun _ _ _ _ _ => rfl) (fun _ _ _ _ _ _ _ hr2 => (pe_dx (K := K) dDeal rfl hr2 (fun σ => passAt (takes_of rfl rfl rfl rfl) σ) (pa_cons (pv 3) (pa_cons pe_int (pa_cons pe_int pa_nil)))))) (pe_tup (pa_cons pe_str (pa_cons pe_str (pa_cons pe_int (pa_cons pe_int pa_nil))))) (nomark _)) pa_nil)))
      (pss_cons (ps_expr (pe_bm PySem.F.plainAttrs_list PySem.F.slot_list_append PySem.F.type_list_append mt_append (pv 1) (pa_cons (pe_cmpR (op_eqD hr.units) (LamX.pe_lamcall (T := TS) (TT := TTref K) (a := "_law_call") (k := 12) rfl Rm Rk Rl Rc Rb sc_law_refused rfl (.inl rfl) (ref_gives R) TB rfl hmT hu (hr.mono (by decide)) (LamX.lamS_by (sc := defScope s_law_are_bounds_right) (by decide +kernel)) rfl (fun _ _ _ _ _ => rfl) (fun _ _ _ _ _ _ _ hr2 => (pe_dx (K := K) dJoin rfl hr2 (fun σ => passAt (takes_of rfl rfl rfl rfl) σ) (pa_cons (pv 4) (pa_cons pe_int pa_nil))))) (pe_tup (pa_cons pe_str (pa_cons pe_str (pa_cons pe_int (pa_cons pe_int pa_nil))))) (nomark _)) pa_nil)))
      (pss_cons (ps_set (i := 5) sc_law_are_bounds_right.nd rfl (Or.inl rfl) (pe_tup (pa_cons pe_str (pa_cons (pe_tup (pa_cons pe_int (pa_cons pe_int (pa_cons pe_int pa_nil)))) pa_nil))))
      (pss_cons (ps_set (i := 6) sc_law_are_bounds_right.nd rfl (Or.inr rfl) (pe_dn dMade hr (pa_cons (pe_lst (pa_cons (pe_op (op_catTK (K := K) rfl) (pe_slice (sl_tupK (K := K) rfl) (pv 0) po_none (po_some pe_int)) (pe_tup (pa_cons (pe_tup (pa_cons (pe_op (op_catTK (K := K) rfl) (pe_slice (sl_tupK (K := K) rfl) (pv 2) po_none (po_some pe_int)) (pe_tup (pa_cons (pe_op (op_repTK (K := K) rfl) (pe_tup (pa_cons (pv 5) pa_nil)) pe_int) pa_nil))) pa_nil)) pa_nil))) pa_nil)) pa_nil)))
      (pss_cons (ps_expr (pe_bm PySem.F.plainAttrs_list PySem.F.slot_list_append PySem.F.type_list_append mt_append (pv 1) (pa_cons (pe_cmpR (op_eqD hr.units) (LamX.pe_lamcall (T := TS) (TT := TTref K) (a := "_law_call") (k := 12) rfl Rm Rk Rl Rc Rb sc_law_refused rfl (.inl rfl) (ref_gives R) TB rfl hmT hu (hr.mono (by decide)) (LamX.lamS_by (sc := defScope s_law_are_bounds_right) (by decide +kernel)) rfl (fun _ _ _ _ _ => rfl) (fun _ _ _ _ _ _ _ hr2 => (pe_dx (K := K) dDeal rfl hr2 (fun σ => passAt (takes_of rfl rfl rfl rfl) σ) (pa_cons (pv 6) (pa_cons pe_int (pa_cons pe_int pa_nil)))))) (pe_tup (pa_cons pe_str (pa_cons pe_str (pa_cons pe_int (pa_cons pe_int pa_nil))))) (nomark _)) pa_nil)))
      (pss_one (ps_ret (pe_and (pe_cmpR op_notIn_seq pe_bl (pv 1) (by with_unfolding_all rfl)) (pe_one (pe_dn dLotsR hr (pa_cons (pv 0) pa_nil))))))))))))))), ?_⟩
    refine ⟨sz0, fun lf hlf => ?_⟩
    have s1 := Same.new (.lst []) (Same.refl H) hlf
    refine (gv_ix (K := K) (j := 0) (ds := (m1 :: m2 :: sts).map stD) (d := stD m1) rfl (gv_ix (K := K) (j := 4) (ds := [i3 0 0 1, i3 1 0 1, .int S, .bool dn, .tuple ((m1 :: m2 :: sts).map stD)]) rfl (gv_var (i := 0) rfl (dr.to (.of s1))) rfl) rfl) _ _ (Same.refl _) fun v1 H1 s2 d1 => ⟨_, _, rfl, ?_⟩
    have dr1 := dr.to (.of (s1.trans s2))
    have eF := s2 _ _ (upd_same (H := H) (a := lf) (o := .lst []))
    refine norm (N := fun σ _ => _) (σ' := [some r, some (.ref lf), some v1, none, none, none, none]) rfl ?_
    try dsimp only
    have rk : LpMk (rowM S dn (m1 :: m2 :: sts)) := row_mk S1 S16 (by show sts.length + 1 + 1 ≤ 16; omega) fun s hs => (sk s hs).1
    have s6k : ∀ l ∈ List.replicate 6 (rowM S dn (m1 :: m2 :: sts)), LpMk l := fun l hl => by
      obtain rfl := List.eq_of_mem_replicate hl
      exact rk
    have wk : LpMk (rowM S dn (List.replicate 9 m1)) := row_mk S1 S16 (by show 9 ≤ 16; decide) fun s hs => by
      obtain rfl := List.eq_of_mem_replicate hs
      exact (sk s (List.mem_cons_self ..)).1
    have w2k : ∀ l ∈ List.replicate 2 (rowM S dn (List.replicate 9 m1)), LpMk l := fun l hl => by
      obtain rfl := List.eq_of_mem_replicate hl
      exact wk
    refine seq_asg (tup_go (cons_go (call1_go (gv_repL (ds := [lpD (rowM S dn (m1 :: m2 :: sts))]) (gva_cons (gv_var rfl dr1) gva_nil) (by decide) (by decide) (by show 1 ≤ 100; decide) fun pl xl H3 s3 n3 e3 d3 => ⟨pl, xl, List.replicate 6 (rowM S dn (m1 :: m2 :: sts)), rfl, e3, d3, (by show 6 ≤ 6; decide), s6k, fun v6 H4 s4 hP6 => ?_⟩))))
    have s34 := s3.trans s4
    refine cons_go (call1_go (gv_repL (ds := [lpD (rowM S dn (List.replicate 9 m1))]) (gva_cons (gv_row4 rfl (dr1.to (.of s34)) (gv_tup (ds := [.tuple (List.replicate (9 : Int).toNat [stD m1]).flatten]) (gva_cons (gv_rep (ds := [stD m1]) (gv_tup (gva_cons (gv_var rfl (d1.to (.of s34))) gva_nil) (by show 1 ≤ 100000; decide)) (List.cons_ne_nil _ _) (by decide) (by decide) (by show 1 ≤ 1000; decide)) gva_nil) (by show 1 ≤ 100000; decide))) gva_nil) (by decide) (by decide) (by show 1 ≤ 100; decide) fun pw xw H5 s5 n5 e5 d5 => ⟨pw, xw, List.replicate 2 (rowM S dn (List.replicate 9 m1)), rfl, e5, d5, (by show 2 ≤ 6; decide), w2k, fun v7 H6 s6 hP7 => ⟨sz1l _ (by show 1 < 1000; decide), fun tt htt => ?_⟩⟩))
    have s7 := Same.new (.tup [v6, v7]) (Same.refl H6) htt
    have s47 := s5.trans (s6.trans s7)
    have hP6 := hP6.same s47
    have hP7 := hP7.same s7
    have s17 := s34.trans s47
    have dr7 := dr1.to (.of s17)
    have d17 := d1.to (.of s17)
    have eF7 := s17 _ _ eF
    have s07 := (s1.trans s2).trans s17
    have e7 : (upd H6 tt (.tup [v6, v7])) tt = some (.tup [v6, v7]) := upd_same
    obtain ⟨H7, eH7⟩ : ∃ X, X = upd H6 tt (.tup [v6, v7]) := ⟨_, rfl⟩
    rw [← eH7] at hP6 hP7 dr7 d17 eF7 e7 s07 ⊢
    have tb7 : LamX.Tabs TS H7 := tabs.ext fun b o e => s07 _ _ e
    refine ⟨_, _, rfl, SqT.of e7, rfl, _, _, rfl, _, _, rfl, rfl, ?_⟩
    refine norm (N := fun σ _ => _) (σ' := [some r, some (.ref lf), some v1, some v6, some v7, none, none]) rfl ?_
    have rok := oL_ok rk
    have six_ok : ∀ l ∈ (List.replicate 6 (rowM S dn (m1 :: m2 :: sts))).map oL, LpXk l := fun l hl => by
      obtain ⟨m, hm, rfl⟩ := List.mem_map.mp hl
      exact oL_ok (s6k m hm)
    have po6 := po_ls (ls := List.replicate 6 (rowM S dn (m1 :: m2 :: sts))) (by show 6 ≤ 6; decide) s6k
    have po2 := po_ls (ls := List.replicate 2 (rowM S dn (List.replicate 9 m1))) (by show 2 ≤ 6; decide) w2k
    -- split
    refine app_refE (er := .many "loops" 7 6) rfl eF7 (by show 0 < 900; decide) (by decide +kernel) tb7 (fun H1 R E e1 rz => ⟨_, rfl, v6, .int 5, .int 1, _, rfl, hP6.ms (ms_ext e1), po6, lp_in (j := 5) rfl (by show 5 < 6; decide) fun l hl => st_in (k := 1) rfl ?_ ⟨fun z => absurd z (by decide), fun _ => ⟨_, ck_loops (n := 7) six_ok (by show 5 + 1 ≤ 6; decide) (fun p hp => ?_) rfl (by decide), rz⟩⟩⟩) (fun H2 e2 => (by repeat' (first | exact gva_nil | refine gva_cons ?_ ?_ | exact gv_int | exact gv_str | exact gv_bl | (refine gv_var rfl ?_; assumption) | refine gv_tup ?_ (by decide)))) fun H8 k8 e8 t8 => ?_
    · obtain rfl : oL (rowM S dn (m1 :: m2 :: sts)) = l := Option.some.inj hl
      show 1 < ((m1 :: m2 :: sts).map oS).length
      rw [List.length_map]
      show 1 < sts.length + 1 + 1
      omega
    · obtain rfl : oL (rowM S dn (m1 :: m2 :: sts)) = l := Option.some.inj hl
      have le : ∀ es : List EnM, es.length ≤ (m1 :: m2 :: sts).length → (∀ e ∈ es, e.g = 0 ∧ e.ck = []) → ckPt ((List.replicate 6 (rowM S dn (m1 :: m2 :: sts))).map oL) (partL (oL (rowM S dn (m1 :: m2 :: sts))) es) = none := fun es hl he => ckPt_of (ckEs_kept he) (ckLp_le rok.1 (by
        show ((es.length : Nat) : Int) ≤ (((m1 :: m2 :: sts).map oS).length : Nat)
        rw [List.length_map]
        omega))
      have kl : (keptEs (oL (rowM S dn (m1 :: m2 :: sts))) 5).length = (m1 :: m2 :: sts).length := by
        rw [keptEs_len]
        exact List.length_map ..
      simp only [List.mem_cons, List.not_mem_nil, or_false] at hp
      rcases hp with rfl | rfl
      · exact le _ (by rw [List.length_take, kl]; omega) fun e he => kept_00 e (List.mem_of_mem_take he)
      · exact le _ (by rw [List.length_drop, kl]; omega) fun e he => kept_00 e (List.mem_of_mem_drop he)
    -- cut
    have m8 := ms_keepN eF7 rfl k8
    refine app_refE (er := .many "loops" 7 6) rfl e8 (by show 1 < 900; decide) (by decide +kernel) t8 (fun H1 R E e1 rz => ⟨_, rfl, v6, .int 0, .int 0, _, rfl, (hP6.ms m8).ms (ms_ext e1), po6, lp_in (j := 0) rfl (by show 0 < 6; decide) fun l hl => ⟨(0, 0, 0, 1), .many "loops" 7 6, .inr ⟨.inr ⟨rfl, rfl, rfl⟩, rfl⟩, ck_loops (n := 7) six_ok (by show 0 + 1 ≤ 6; decide) (fun p hp => ?_) ?_ (by decide), rz⟩⟩) (fun H2 e2 => (by repeat' (first | exact gva_nil | refine gva_cons ?_ ?_ | exact gv_int | exact gv_str | exact gv_bl | (refine gv_var rfl ?_; assumption) | refine gv_tup ?_ (by decide)))) fun H9 k9 e9 t9 => ?_
    · obtain rfl : oL (rowM S dn (m1 :: m2 :: sts)) = l := Option.some.inj hl
      exact ck_cutP rk p hp
    · unfold cutP
      split <;> rfl
    have k9 := k8.trans k9
    have m9 := ms_keepN eF7 rfl k9
    -- deal
    refine app_refE (er := .many "loops" 8 6) rfl e9 (by show 2 < 900; decide) (by decide +kernel) t9 (fun H1 R E e1 rz => ⟨_, rfl, v6, .int 0, .int 3, _, rfl, (hP6.ms m9).ms (ms_ext e1), po6, lp_in (j := 0) rfl (by show 0 < 6; decide) fun l hl => my_in (m := 3) (by decide) (by decide) ⟨_, ck_loops (n := 8) six_ok (by show 0 + 1 ≤ 6; decide) (fun p hp => ?_) rfl (by decide), rz⟩⟩) (fun H2 e2 => (by repeat' (first | exact gva_nil | refine gva_cons ?_ ?_ | exact gv_int | exact gv_str | exact gv_bl | (refine gv_var rfl ?_; assumption) | refine gv_tup ?_ (by decide)))) fun H10 k10 e10 t10 => ?_
    · obtain ⟨q, hq, rfl⟩ := List.mem_map.mp hp
      obtain rfl : oL (rowM S dn (m1 :: m2 :: sts)) = l := Option.some.inj hl
      refine ck_deal hl rok (fun s hs => ?_) (by decide) (by decide)
      obtain ⟨s0, h0, rfl⟩ := List.mem_map.mp (show s ∈ (m1 :: m2 :: sts).map oS from hs)
      rw [gds_oS]
      exact (sk s0 h0).2
    have k10 := k9.trans k10
    have m10 := ms_keepN eF7 rfl k10
    -- join
    refine app_refE (er := .many "statements" 18 16) rfl e10 (by show 3 < 900; decide) (by decide +kernel) t10 (fun H1 R E e1 rz => ⟨_, rfl, v7, .int 0, _, rfl, (hP7.ms m10).ms (ms_ext e1), po2, lp_in (j := 0) rfl (by show 0 < 2; decide) ⟨fun z => absurd z (by show ¬ 0 + 1 = 2; decide), fun l1 l2 hl1 hl2 => ?_⟩⟩) (fun H2 e2 => (by repeat' (first | exact gva_nil | refine gva_cons ?_ ?_ | exact gv_int | exact gv_str | exact gv_bl | (refine gv_var rfl ?_; assumption) | refine gv_tup ?_ (by decide)))) fun H11 k11 e11 t11 => ?_
    · obtain rfl : oL (rowM S dn (List.replicate 9 m1)) = l1 := Option.some.inj hl1
      obtain rfl : oL (rowM S dn (List.replicate 9 m1)) = l2 := Option.some.inj hl2
      exact ⟨fun z => absurd ⟨rfl, rfl⟩ z, fun _ => ⟨_, ck_join rfl rfl, rz⟩⟩
    have k11 := k10.trans k11
    -- full
    have mF : StMk { m1 with gds := [.lea 1 0 0, .lea 1 0 0, .lea 1 0 0] } := by
      obtain ⟨h1, h2, h3, h4, h5, _, h7, _⟩ := (sk m1 (List.mem_cons_self ..)).1
      refine ⟨h1, h2, h3, h4, h5, by show 3 ≤ 3; decide, h7, fun g hg => ?_⟩
      have : g = .lea 1 0 0 := by
        simp only [List.mem_cons, List.not_mem_nil, or_false, or_self] at hg
        exact hg
      subst this
      exact (by decide : -12 ≤ (1 : Int) ∧ (1 : Int) ≤ 12 ∧ -12 ≤ (0 : Int) ∧ (0 : Int) ≤ 12 ∧ -999 ≤ (0 : Int) ∧ (0 : Int) ≤ 999)
    have fk : LpMk (rowM S dn [{ m1 with gds := [.lea 1 0 0, .lea 1 0 0, .lea 1 0 0] }]) := row_mk S1 S16 (by show 1 ≤ 16; decide) (one_st mF)
    have ts11 := tsame_keepN eF7 k11
    refine gv_set (d := leaD) (by repeat' (first | exact gva_nil | refine gva_cons ?_ ?_ | exact gv_int | exact gv_str | exact gv_bl | (refine gv_var rfl ?_; assumption) | refine gv_tup ?_ (by decide))) fun vg H12 s12 dg => ?_
    refine normG (σ' := [some r, some (.ref lf), some v1, some v6, some v7, some vg, none]) rfl ?_
    have dr12 := (dr7.to ts11).to (.of s12)
    have d112 : DT H12 v1 (.tuple [.str m1.x, i3 m1.a m1.b m1.c, .int m1.k, .tuple (m1.rds.map rdD), .tuple (m1.gds.map gdD)]) := (d17.to ts11).to (.of s12)
    refine set_call (gv_lst (ds := [lpD (rowM S dn [{ m1 with gds := [.lea 1 0 0, .lea 1 0 0, .lea 1 0 0] }])]) (gva_cons (gv_row4 rfl dr12 (gv_tup (ds := [.tuple [stD { m1 with gds := [.lea 1 0 0, .lea 1 0 0, .lea 1 0 0] }]]) (gva_cons (gv_tup (gva_cons (gv_cat (gv_upto (k := 4) rfl (gv_var rfl d112) (by show 4 < 5; decide)) (gv_tup (ds := [.tuple (List.replicate (3 : Int).toNat [leaD]).flatten]) (gva_cons (gv_rep (ds := [leaD]) (gv_tup (gva_cons (gv_var rfl dg) gva_nil) (by decide)) (by decide) (by decide) (by decide) (by decide)) gva_nil) (by decide)) (List.cons_ne_nil _ _) (List.cons_ne_nil _ _) (by show 4 + 1 ≤ 100000; decide)) gva_nil) (by show 1 ≤ 100000; decide)) gva_nil) (by show 1 ≤ 100000; decide))) gva_nil) (by show 1 ≤ 100000; decide) fun pl xl H13 s13 n13 e13 d13 => ⟨pl, xl, [rowM S dn [{ m1 with gds := [.lea 1 0 0, .lea 1 0 0, .lea 1 0 0] }]], rfl, e13, d13, (by show 1 ≤ 6; decide), (fun l hl => by
      obtain rfl := List.mem_singleton.mp hl
      exact fk), fun v8 H14 s14 hP8 => ?_⟩)
    refine normG (σ' := [some r, some (.ref lf), some v1, some v6, some v7, some vg, some v8]) rfl ?_
    have s24 := s12.trans (s13.trans s14)
    refine app_refE (er := .many "conditions" 4 3) rfl (s24 _ _ e11) (by show 4 < 900; decide) (by decide +kernel) (t11.ext fun b o e => s24 _ _ e) (fun H1 R E e1 rz => ⟨_, rfl, v8, .int 0, .int 2, _, rfl, hP8.ms (ms_ext e1), po_one fk, lp_in (j := 0) rfl (by show 0 < 1; decide) fun l hl => my_in (m := 2) (by decide) (by decide) ⟨_, ?_, rz⟩⟩) (fun H2 e2 => (by repeat' (first | exact gva_nil | refine gva_cons ?_ ?_ | exact gv_int | exact gv_str | exact gv_bl | (refine gv_var rfl ?_; assumption) | refine gv_tup ?_ (by decide)))) fun H15 k15 e15 t15 => ?_
    · obtain rfl : oL (rowM S dn [{ m1 with gds := [.lea 1 0 0, .lea 1 0 0, .lea 1 0 0] }]) = l := Option.some.inj hl
      exact ck_deal_many (s := oS { m1 with gds := [.lea 1 0 0, .lea 1 0 0, .lea 1 0 0] }) (rest := []) rfl rfl (oS_ok mF) rfl (by decide)
    have kA : KeepN lf H7 H15 := (k11.trans (KeepN.same s24)).trans k15
    refine ⟨_, rfl, _, _, rfl, .inl (SqL.of e15), rfl, by decide, ?_⟩
    have xt : LamX.ExtN H H15 := fun a o h n => kA a o (ne_of_none h hlf) n (s07 _ _ h)
    exact ⟨_, rfl, if_yes (by decide) ⟨_, rfl, r, S, dn, m1 :: m2 :: sts, rfl, dr.to (tsame_ext xt), t15, fun H' e t' => k H' (xt.trans e) t'⟩⟩
end
end K49
set_option maxHeartbeats 1000000
namespace K49
open PySem PySem.Spec PyProof.Rows L2 Z
theorem two_of : ∀ {ss : List StM}, 2 ≤ ss.length → ∃ q1 q2 qs, ss = q1 :: q2 :: qs
  | [], h => absurd h (by decide)
  | [_], h => absurd h (by show ¬ 2 ≤ 1; decide)
  | _ :: _ :: _, _ => ⟨_, _, _, rfl⟩
theorem st_mk {s : StM} (h : StOk s) : StMk s ∧ s.gds.length ≤ 2 := by
  obtain ⟨h1, ⟨a1, a2, b1, b2, c1, c2⟩, k1, k2, l1, l2, hr, hg⟩ := h
  refine ⟨⟨h1, ⟨by omega, by omega, by omega, by omega, by omega, by omega⟩, by omega, by omega, l1, by omega, fun r hr' => ?_, fun g hg' => ?_⟩, l2⟩
  · obtain ⟨q1, ⟨a1, a2, b1, b2, c1, c2⟩, q3⟩ := hr r hr'
    exact ⟨q1, ⟨by omega, by omega, by omega, by omega, by omega, by omega⟩, q3⟩
  · have q := hg g hg'
    cases g with
    | lea a b c =>
      obtain ⟨a1, a2, b1, b2, c1, c2⟩ := q
      exact ⟨by omega, by omega, by omega, by omega, by omega, by omega⟩
    | rst a b c m r =>
      obtain ⟨⟨a1, a2, b1, b2, c1, c2⟩, q3⟩ := q
      exact ⟨⟨by omega, by omega, by omega, by omega, by omega, by omega⟩, q3⟩
theorem gv_row3 {K : PySem.W.Frag} {σ : L2.St} {H : Hp} {i : Nat} {r : V} {S : Int} {dn dn' : Bool} {sts sts' : List StM} {u : TE} (hσ : σ[i]? = some (some r)) (dr : DT H r (lpD (rowM S dn sts))) (h : Gv σ H u (.tuple [.bool dn', .tuple (sts'.map stD)])) : Gv σ H (tOp (rCatT K) (tSl (rSlT K) (tVar i) tNoPart (tPart (tC (.int 3)))) u) (lpD (rowM S dn' sts')) :=
  gv_cat (gv_upto (k := 3) rfl (gv_var hσ (show DT H r (.tuple [i3 0 0 1, i3 1 0 1, .int S, .bool dn, .tuple (sts.map stD)]) from dr)) (by show 3 < 5; decide)) h (List.cons_ne_nil _ _) (List.cons_ne_nil _ _) (by show 3 + 2 ≤ 100000; decide)
/-- all ahead of the parts is kept; the first error is theirs -/
theorem ck_first {ls : List LpX} {j many : Nat} {pts : List PtM} {e : Er} (ok : ∀ l ∈ ls, LpXk l) (hj : j + many ≤ ls.length) (hp : ckAll (ckPt ls) pts = some e) : ckRw ls (planOf ls j many pts) = some e := by
  have kept : ckAll (ckPt ls) (kepts ls 0 j) = none := ckAll_ok fun p h => by
    obtain ⟨j0, l0, h0, rfl⟩ := kepts_mem (by omega) h
    refine ckPt_of (ckEs_kept kept_00) ?_
    show ckLp (keptEs l0 j0).length l0.S l0.t l0.u = none
    rw [keptEs_len]
    exact (ok l0 (List.mem_of_getElem? h0)).1
  unfold ckRw ckPl planOf
  rw [ckAll_append, ckAll_append, kept, hp]
  rfl
theorem ckPt_lp {ls : List LpX} {p : PtM} {e : Er} (h1 : ckEs ls p.es = none) (h2 : ckLp p.es.length p.S p.t p.u = some e) : ckPt ls p = some e := by
  unfold ckPt
  rw [h1, h2]
  rfl
theorem rowN {S : Int} {dn : Bool} {sts : List StM} {j : Nat} (h : LpMk (rowM S dn sts)) : ((keptEs (oL (rowM S dn sts)) j).length : Int) ≤ 16 := by
  obtain ⟨_, _, _, _, _, _, _, _, _, _, _, _, _, _, _, _, l16, _⟩ := h
  rw [keptEs_len]
  show ((sts.map oS).length : Int) ≤ 16
  rw [List.length_map]
  have : sts.length ≤ 16 := l16
  omega
/-- cut at i + n -/
theorem ck_cut_i {ls : List LpX} {S : Int} {dn : Bool} {sts : List StM} {j : Nat} (h : LpMk (rowM S dn sts)) (S1 : 1 ≤ S) (S16 : S ≤ 16) : ckAll (ckPt ls) (cutP (oL (rowM S dn sts)) j (1, 1, 0, 1)) = some (.num "i" 1) := by
  have n := rowN (j := j) h
  have k1 : ckLp (keptEs (oL (rowM S dn sts)) j).length S (1, 1, 0, 1) (lf4 1 0 1) = some (.num "i" 1) := by
    unfold ckLp ckLoop ckM
    rw [if_pos n, ckn_ok S1 S16]
    rfl
  have k2 : ckLp (keptEs (oL (rowM S dn sts)) j).length S (lf4 0 0 1) (1, 1, 0, 1) = some (.num "i" 1) := by
    have f1 := rg_least (a := 0) (c := 0) (d := 1) (by decide) (by decide) (by decide) (by decide) (by decide) (by decide)
    unfold ckLp ckLoop ckM
    rw [if_pos n, ckn_ok S1 S16, rg_ck f1]
    rfl
  unfold cutP
  cases dn with
  | true =>
    rw [if_pos (show (oL (rowM S true sts)).dn = true from rfl)]
    show (ckPt ls _).or _ = _
    rw [ckPt_lp (ckEs_kept kept_00) k1]
    rfl
  | false =>
    rw [if_neg (show ¬ (oL (rowM S false sts)).dn = true from fun z => by cases z)]
    show (ckPt ls _).or _ = _
    rw [ckPt_lp (ckEs_kept kept_00) k2]
    rfl
/-- cut at n // 2, the step above 1 -/
theorem ck_cut_s {ls : List LpX} {S : Int} {dn : Bool} {sts : List StM} {j : Nat} (h : LpMk (rowM S dn sts)) (S1 : 1 < S) (S16 : S ≤ 16) : ckAll (ckPt ls) (cutP (oL (rowM S dn sts)) j (0, 1, 0, 2)) = some (.num "step" S) := by
  have n := rowN (j := j) h
  have e0 : ((0 : Int), (1 : Int), (0 : Int), (2 : Int)) = lf4 1 0 2 := by kernel_rfl
  have f1 := rg_least (a := 0) (c := 0) (d := 1) (by decide) (by decide) (by decide) (by decide) (by decide) (by decide)
  have f2 := rg_least (a := 1) (c := 0) (d := 1) (by decide) (by decide) (by decide) (by decide) (by decide) (by decide)
  have f3 := rg_least (a := 1) (c := 0) (d := 2) (by decide) (by decide) (by decide) (by decide) (by decide) (by decide)
  have k1 : ckLp (keptEs (oL (rowM S dn sts)) j).length S (0, 1, 0, 2) (lf4 1 0 1) = some (.num "step" S) := by
    rw [e0]
    unfold ckLp ckLoop ckM
    rw [if_pos n, ckn_ok (by omega) S16, rg_ck f3, rg_ck f2, if_pos ⟨S1, by decide +kernel⟩]
    rfl
  have k2 : ckLp (keptEs (oL (rowM S dn sts)) j).length S (lf4 0 0 1) (0, 1, 0, 2) = none := by
    rw [e0]
    unfold ckLp ckLoop ckM
    rw [if_pos n, ckn_ok (by omega) S16, rg_ck f1, rg_ck f3, if_neg (fun z => absurd z.2 (by decide +kernel))]
    rfl
  unfold cutP
  cases dn with
  | true =>
    rw [if_pos (show (oL (rowM S true sts)).dn = true from rfl)]
    show (ckPt ls _).or _ = _
    rw [ckPt_lp (ckEs_kept kept_00) k1]
    rfl
  | false =>
    rw [if_neg (show ¬ (oL (rowM S false sts)).dn = true from fun z => by cases z)]
    show (ckPt ls _).or ((ckPt ls _).or none) = _
    rw [ckPt_of (ckEs_kept kept_00) k2, ckPt_lp (ckEs_kept kept_00) k1]
    rfl
section
variable {K : PySem.W.Frag} {TS : List (Addr × Str)} {t : XK → TE} {tt : TE} {σ : L2.St} {H : Hp} {x : Str} {fs : List Str} {tag : V} {vs : List V} {ds : List PyData}
theorem refuse_V {Q : VK} (tabs : LamX.Tabs TS H) (call : ∀ (H1 : Hp) (R : VK) (E : XK), LamX.ExtN H H1 → RzV K x fs vs H1 E → t E σ H1 R) (mem : (x, fs, tag) ∈ refT) (lv : vs.length = fs.length) (dv : DTs H (tag :: vs) ds)
    (k : ∀ H2, LamX.ExtN H H2 → LamX.Tabs TS H2 → ∀ u, DT H2 (.ref u) (.tuple ds) → Q (.ref u) H2) : LamX.tLam TS (TTref K) t σ H Q := by
  refine ⟨tabs, fun H1 e1 tb1 R E _ hE => call H1 R E e1 fun D H2 s2 hd => hE _ _ _ (.inl ⟨x, fs, tag, vs, D, mem, rfl, rfl, hd, lv, fun u hu => ?_⟩)⟩
  have s3 := Same.new (.tup (tag :: vs)) s2 hu
  have e3 : LamX.ExtN H (upd H2 u (.tup (tag :: vs))) := e1.trans (LamX.ExtN.of fun b o e => s3 _ _ e)
  exact k _ e3 (tb1.ext fun b o e => s3 _ _ e) u (.tup upd_same (dv.to (tsame_ext e3)))
/-- .. the error without fields -/
theorem refuse_other {Q : Bool → Hp → Prop} (tabs : LamX.Tabs TS H) (call : ∀ (H1 : Hp) (R : VK) (E : XK), LamX.ExtN H H1 → (∀ d H2, Same H1 H2 → E (.ref (He.ga K "OtherProgram")) d H2) → t E σ H1 R) (due : ∀ H2, LamX.ExtN H H2 → Gv σ H2 tt (.tuple [.str "other"]))
    (k : ∀ H3, LamX.ExtN H H3 → LamX.Tabs TS H3 → Q false H3) : tTest (tOp (rNeD K) (LamX.tLam TS (TTref K) t) tt) σ H Q := by
  refine ⟨tabs, fun H1 e1 tb1 R E _ hE => call H1 R E e1 fun d H2 s2 => hE _ _ _ (.inr ⟨rfl, fun u hu => ?_⟩)⟩
  have s3 := Same.new (.tup [.str "other"]) s2 hu
  have e3 : LamX.ExtN H (upd H2 u (.tup [.str "other"])) := e1.trans (LamX.ExtN.of fun b o e => s3 _ _ e)
  have sh : SeqAt.shaped (.tuple [.str "other"]) = true := (Lay.tup fun e he => by
    obtain rfl := List.mem_singleton.mp he
    exact lay_str (by decide +kernel) : Lay 1 (.tuple [.str "other"])).shaped (by decide)
  refine due _ e3 _ _ (Same.refl _) fun v H3 s4 dv => ?_
  refine ⟨_, _, DT.dp _ (.tup (s4 _ _ upd_same) (.cons (.str _) .nil)), DT.dp _ dv, sh, sh, _, rfl, ?_⟩
  rw [SeqAt.eqv_refl _ (SeqAt.canLay_of_shaped sh)]
  exact k _ (e3.trans (LamX.ExtN.of fun b o e => s4 _ _ e)) ((tb1.ext fun b o e => s3 _ _ e).ext fun b o e => s4 _ _ e)
end
def spLaw (K : PySem.W.Frag) (TS : List (Addr × Str)) : Sp := fun vs H Q _ => ∃ (a : Addr) (ns : List Int), vs = [.ref a] ∧ SqL K H a (ns.map V.int) ∧ ns.length ≤ 63 ∧ LamX.Tabs TS H ∧ ∀ H', Q (.bl true) H'
section
variable {P : Program} {w : World} {K : PySem.W.Frag} {mg : Str → Option Value} {base : Heap}
theorem sc_law : FnScope ["_law_script", "_law_pen_here", "_law_turn", "_law_names_here", "_law_inner", "_law_k", "_law_apart", "_law_goes", "_law_row", "_law_program", "_law_other", "_law_one"] ["_law_script"] (defScope s_law) := ⟨rfl, rfl, rfl, by decide +kernel, rfl, by decide +kernel, by decide +kernel⟩
theorem ok_law {f c TT : Addr} {fd ft : FuncData} {TS : List (Addr × Str)} (F : FnP K "law" s_law f fd) (hcode : fd.code = .ref c) (ML : MkL base mg TS "law.<locals>.<lambda>" c TT) (RD : RefDef K mg) (R : RfTx K mg) (T : RwTx K mg) (M : MkS P w K mg base) (MP : MkP P w K mg base)
    (dPen : Dn P w K mg base 1 "_law_pen" ["_law_script"] (spPen K)) (dDraw : Dn P w K mg base 1 "_law_draw" ["_law_pen_here", "_law_many"] spDrawC) (dNames : Dn P w K mg base 3 "_law_names" ["_law_pen_here", "_law_many"] spNames) (dTStm : Dn P w K mg base 3 "_law_tight_statement" ["_law_pen_here", "_law_names_here"] spTStm) (dMade : Dn P w K mg base 11 "_law_made" ["_law_rows"] (spMadeX K)) (dLoopsR : Dn P w K mg base 16 "_law_are_loops_right" ["_law_program", "_law_many"] (spLoopsR K TS)) (dStmsR : Dn P w K mg base 16 "_law_are_statements_right" ["_law_program", "_law_many"] (spStmsR K TS)) (dBoundsR : Dn P w K mg base 18 "_law_are_bounds_right" ["_law_row"] (spBoundsR K TS)) (dJoin : Dx P w K mg base 11 "join_loops" ["program", "loop"] (spJoin K)) (dCut : Dx P w K mg base 11 "cut_loop" ["program", "loop", "place"] (spCut K)) (dNoRw : Dn P w K mg base 3 "no_rewriting" ["program"] (spNoRw K))
    (Ft : FnOk P w K mg base (L2.CX P w) 11 (He.ma K (CRw K) "then") ft ["self", "other"] (spThen K)) (hbt : Binds K ft ["self", "other"] []) (ct : Meth K (CRw K) "then" (He.ma K (CRw K) "then")) :
    FnOk P w K mg base CX0 20 f fd ["_law_script"] (spLaw K TS) := by
  refine okC F hcode sc_law (fun vs H Q E h => ?_) (fun A outer s H vs Q E hr h => ?_)
  · obtain ⟨a, ns, rfl, _⟩ := h
    rfl
  · obtain ⟨sc, ns, rfl, hS, hl, tabs, kk⟩ := h
    obtain ⟨g, oc, od, dV, kV, doc, pm, an, cdv, ct', osl, Rm, Rk, Rl, Rc, Rb⟩ := RD
    have TB := ML.tb
    have hmT := ML.mem
    have hu := ML.uni
    refine ⟨_, PSs.nox (pss_cons (ps_set (i := 1) sc_law.nd rfl (Or.inr rfl) (pe_dn dPen hr (pa_cons (pv 0) pa_nil)))
      (pss_cons (ps_for PassesOwn.never rfl (pi_range1 (by rfl) T.range (pa_cons (pe_op op_add pe_int (pe_callB (call_min2 rfl) (by rfl) T.min (by decide +kernel) (pa_cons pe_int (pa_cons (pe_callB (call_len_seqK (K := K) rfl) (by rfl) T.len PySem.boot_len (pa_cons (pv 0) pa_nil)) pa_nil)))) pa_nil)) (pg_name (i := 2) sc_law.nd rfl (.inl rfl)) (pss_cons (ps_set (i := 3) sc_law.nd rfl (Or.inr rfl) (pe_dn dNames hr (pa_cons (pv 1) (pa_cons pe_int pa_nil))))
      (pss_cons (ps_set (i := 4) sc_law.nd rfl (Or.inl rfl) (pe_callTy (call_tupK (K := K) rfl) (by rfl) T.tuple (by decide +kernel) (pa_cons (pe_lc (own := [("_law_k", 5)]) (g := gName 5) (tt := tYes) rfl sc_law.nd (pi_range1 (by rfl) T.range (pa_cons (pe_op op_add pe_int (pe_dn dDraw hr (pa_cons (pv 1) (pa_cons pe_int pa_nil)))) pa_nil)) (blkOk_by (N := ["_law_script", "_law_pen_here", "_law_turn", "_law_names_here", "_law_inner", "_law_k", "_law_apart", "_law_goes", "_law_row", "_law_program", "_law_other", "_law_one"]) (sc := defScope s_law) (by decide +kernel)) (fun _ _ _ _ _ => (pg_name (i := 5) sc_law.nd rfl (.inl rfl))) (fun _ _ _ _ _ => pts_nil) (fun _ _ _ _ _ => (pe_dn dTStm hr (pa_cons (pv 1) (pa_cons (pv 3) pa_nil))))) pa_nil)))
      (pss_cons (ps_par (i := 6) (j := 7) (by rfl) sc_law.nd rfl rfl (by decide) rfl rfl (pa_cons (pe_op op_add pe_int (pe_dn dDraw hr (pa_cons (pv 1) (pa_cons pe_int pa_nil)))) (pa_cons (pe_cmpR op_eq (pe_dn dDraw hr (pa_cons (pv 1) (pa_cons pe_int pa_nil))) pe_int (nomark _)) pa_nil)) (by rfl))
      (pss_cons (ps_set (i := 8) sc_law.nd rfl (Or.inl rfl) (pe_tup (pa_cons (pe_tup (pa_cons pe_int (pa_cons pe_int (pa_cons pe_int pa_nil)))) (pa_cons (pe_tup (pa_cons pe_int (pa_cons pe_int (pa_cons pe_int pa_nil)))) (pa_cons (pv 6) (pa_cons (pv 7) (pa_cons (pv 4) pa_nil)))))))
      (pss_cons (ps_set (i := 9) sc_law.nd rfl (Or.inr rfl) (pe_dn dMade hr (pa_cons (pe_lst (pa_cons (pv 8) (pa_cons (pe_op (op_catTK (K := K) rfl) (pe_slice (sl_tupK (K := K) rfl) (pv 8) po_none (po_some pe_int)) (pe_tup (pa_cons (pe_op op_add (pv 6) pe_int) (pa_cons (pv 7) (pa_cons (pv 4) pa_nil))))) pa_nil))) pa_nil)))
      (pss_cons (ps_set (i := 10) sc_law.nd rfl (Or.inr rfl) (pe_dn dMade hr (pa_cons (pe_lst (pa_cons (pv 8) (pa_cons (pe_op (op_catTK (K := K) rfl) (pe_slice (sl_tupK (K := K) rfl) (pv 8) po_none (po_some pe_int)) (pe_tup (pa_cons (pe_not (pv 7)) (pa_cons (pv 4) pa_nil)))) pa_nil))) pa_nil)))
      (pss_cons (ps_if (PW.pt (pw_or (pt_not (pt_val (pe_dn dLoopsR hr (pa_cons (pv 9) (pa_cons pe_int pa_nil))))) (pw_or1 (pt_not (pt_val (pe_dn dStmsR hr (pa_cons (pv 9) (pa_cons (pe_callB (call_len_seqK (K := K) rfl) (by rfl) T.len PySem.boot_len (pa_cons (pv 4) pa_nil)) pa_nil)))))))) (pss_one (ps_ret pe_bl)) pss_nil)
      (pss_cons (ps_if (pt_cmpR (op_neD hr.units) (pe_lc (own := [("_law_one", 11)]) (g := gName 11) (tt := tYes) rfl sc_law.nd (pi_tup (pe_tup (pa_cons (pv 9) (pa_cons (pv 10) pa_nil)))) (blkOk_by (N := ["_law_script", "_law_pen_here", "_law_turn", "_law_names_here", "_law_inner", "_law_k", "_law_apart", "_law_goes", "_law_row", "_law_program", "_law_other", "_law_one"]) (sc := defScope s_law) (by decide +kernel)) (fun _ _ _ _ _ => (pg_name (i := 11) sc_law.nd rfl (.inr rfl))) (fun _ _ _ _ _ => pts_nil) (fun _ _ _ _ _ => (LamX.pe_lamcall (T := TS) (TT := TTref K) (a := "_law_call") (k := 12) rfl Rm Rk Rl Rc Rb sc_law_refused rfl (.inl rfl) (ref_gives R) TB rfl hmT hu (hr.mono (by decide)) (LamX.lamS_by (by rfl)) rfl (fun _ _ _ _ _ => rfl) (fun _ _ _ _ _ _ _ hr2 => (pe_dx (K := K) dJoin rfl hr2 (fun σ => passAt (takes_of rfl rfl rfl rfl) σ) (pa_cons (pv 11) (pa_cons pe_int pa_nil))))))) (pe_lst (pa_cons (pe_tup (pa_cons pe_int (pa_cons pe_int pa_nil))) (pa_cons (pe_tup (pa_cons pe_int (pa_cons pe_int pa_nil))) pa_nil))) (nomark _)) (pss_one (ps_ret pe_bl)) pss_nil)
      (pss_cons (ps_if (pt_cmpR (op_neD hr.units) (LamX.pe_lamcall (T := TS) (TT := TTref K) (a := "_law_call") (k := 12) rfl Rm Rk Rl Rc Rb sc_law_refused rfl (.inl rfl) (ref_gives R) TB rfl hmT hu (hr.mono (by decide)) (LamX.lamS_by (sc := defScope s_law) (by decide +kernel)) rfl (fun _ _ _ _ _ => rfl) (fun _ _ _ _ _ _ _ hr2 => (pe_dx (K := K) dCut rfl hr2 (fun σ => passAt (takes_of rfl rfl rfl rfl) σ) (pa_cons (pv 9) (pa_cons pe_int (pa_cons (pe_SK (K := K) rfl T.toStTx M hr2 (pa_cons pe_int (pa_cons pe_int (pa_cons pe_int pa_nil)))) pa_nil)))))) (pe_tup (pa_cons pe_str (pa_cons pe_str (pa_cons pe_int pa_nil)))) (nomark _)) (pss_one (ps_ret pe_bl)) pss_nil)
      (pss_cons (ps_if (pt_cmpR (op_neD hr.units) (LamX.pe_lamcall (T := TS) (TT := TTref K) (a := "_law_call") (k := 12) rfl Rm Rk Rl Rc Rb sc_law_refused rfl (.inl rfl) (ref_gives R) TB rfl hmT hu (hr.mono (by decide)) (LamX.lamS_by (sc := defScope s_law) (by decide +kernel)) rfl (fun _ _ _ _ _ => rfl) (fun _ _ _ _ _ _ _ hr2 => (pe_dx (K := K) dCut rfl hr2 (fun σ => passAt (takes_of rfl rfl rfl rfl) σ) (pa_cons (pv 9) (pa_cons pe_int (pa_cons (pe_PK (K := K) rfl T.plc MP hr2 (fun σ => passAt (takes_of rfl rfl rfl rfl) σ) (pa_cons (pe_SK (K := K) rfl T.toStTx M hr2 (pa_cons pe_int (pa_cons pe_int (pa_cons pe_int pa_nil)))) (pa_cons pe_int pa_nil))) pa_nil)))))) (pe_tup (pa_cons pe_str (pa_cons pe_str (pa_cons (pe_op op_add (pv 6) pe_int) pa_nil)))) (nomark _)) (pss_one (ps_ret pe_bl)) pss_nil)
      (pss_cons (ps_if (pt_cmpR (op_neD hr.units) (LamX.pe_lamcall (T := TS) (TT := TTref K) (a := "_law_call") (k := 12) rfl Rm Rk Rl Rc Rb sc_law_refused rfl (.inl rfl) (ref_gives R) TB rfl hmT hu (hr.mono (by decide)) (LamX.lamS_by (sc := defScope s_law) (by decide +kernel)) rfl (fun _ _ _ _ _ => rfl) (fun _ _ _ _ _ _ _ hr2 => (pe_methX (K := K) rfl (fun σ => passAt (takes_of rfl rfl rfl rfl) σ) (pe_dn dNoRw hr2 (pa_cons (pv 9) pa_nil)) T.clW ct Ft (hr2.mono (by decide)) hbt (pa_cons (pe_dn dNoRw hr2 (pa_cons (pv 10) pa_nil)) pa_nil)))) (pe_tup (pa_cons pe_str pa_nil)) (nomark _)) (pss_one (ps_ret pe_bl)) pss_nil)
      (pss_one (ps_if (pt_not (pt_val (pe_dn dBoundsR hr (pa_cons (pv 8) pa_nil)))) (pss_one (ps_ret pe_bl)) pss_nil))))))))))))))
      (pss_one (ps_ret pe_bl)))), ?_⟩
    refine ⟨_, rfl, sc, ns, rfl, hS, hl, fun H1 p s1 hp hP => ?_⟩
    obtain ⟨pc, hP⟩ := Pen.penC hP
    have hS1 := SqL.ext hS s1
    have tb1 : LamX.Tabs TS H1 := tabs.ext fun b o e => s1 _ _ e
    refine normG (σ' := [some (.ref sc), some (.ref p), none, none, none, none, none, none, none, none, none, none]) rfl ?_
    try dsimp only
    obtain ⟨N, hN, N2⟩ : ∃ N : Nat, (1 + if (((ns.map V.int).length : Nat) : Int) < 1 then (((ns.map V.int).length : Nat) : Int) else 1) = (N : Int) ∧ N ≤ 2 := by
      split
      · exact ⟨1 + (ns.map V.int).length, by omega, by omega⟩
      · exact ⟨2, rfl, by omega⟩
    refine ⟨_, rfl, sc, _, rfl, .inl hS1, _, _, rfl, _, _, rfl, rfl, (N : Int), congrArg (fun z => [V.int z]) hN, by omega, by omega, ?_⟩
    rw [Int.toNat_natCast]
    refine for_range (lo := 0) (n := N) (fun i σ Hc => ∃ (v2 v3 v4 v5 v6 v7 v8 v9 v10 v11 : Option V), σ = [some (.ref sc), some (.ref p), v2, v3, v4, v5, v6, v7, v8, v9, v10, v11] ∧ PenC Hc p pc (400 * i) ∧ LamX.Tabs TS Hc) ⟨_, _, _, _, _, _, _, _, _, _, rfl, hP, tb1⟩ ?_ ?_
    · rintro i σ Hc hi ⟨v2, v3, v4, v5, v6, v7, v8, v9, v10, v11, rfl, hPc, tc⟩
      refine normG (σ' := [some (.ref sc), some (.ref p), some (.int (0 + (i : Int))), v3, v4, v5, v6, v7, v8, v9, v10, v11]) rfl ?_
      refine ⟨_, rfl, p, pc, 2, 400 * i, rfl, by decide, by decide, by omega, hPc, fun H2 nl xs hnl x1 x3 nx hP2 k2 => ?_⟩
      have tb2 := tabs_keep tc hPc k2
      refine normG (σ' := [some (.ref sc), some (.ref p), some (.int (0 + (i : Int))), some (.ref nl), v4, v5, v6, v7, v8, v9, v10, v11]) rfl ?_
      try dsimp only
      refine ⟨_, rfl, p, 2, 400 * i + 9, pc, rfl, by decide, by decide, by omega, hP2, fun H3 d d0 d1 hP3 k3 => ⟨_, _, rfl, rfl, ?_⟩⟩
      obtain ⟨m, hm⟩ : ∃ m : Nat, 2 + d = (m : Int) := ⟨(2 + d).toNat, by omega⟩
      refine ⟨(m : Int), congrArg (fun z => [V.int z]) hm, by omega, by omega, fun D hD => ?_⟩
      rw [Int.toNat_natCast]
      have tb3 := tabs_keep tb2 hP2 k3
      have hnl3 := hP2.lst k3 hnl
      have sD := Same.new (.lst []) (Same.refl H3) hD
      have nDc : D ≠ pc := by
        obtain ⟨o, ho⟩ := hP3.has
        exact (ne_of_none ho hD).symm
      have nlD : nl ≠ D := ne_of_none hnl3 hD
      refine lc_range (lo := 0) (n := m) (fun j Hb => ∃ (ws : List V) (ss : List StM), Hb D = some (.lst ws) ∧ DTs Hb ws (ss.map stD) ∧ ss.length = j ∧ (∀ s ∈ ss, StOk s) ∧ Hb nl = some (.lst (xs.map V.str)) ∧ PenC Hb p pc (400 * i + 10 + j * 40) ∧ LamX.Tabs TS Hb) ⟨[], [], upd_same, .nil, rfl, (fun _ h => by cases h), sD _ _ hnl3, (hP3.same sD).mono (by omega), tb3.ext fun b o e => sD _ _ e⟩ ?_ ?_
      · rintro j Hb hj ⟨ws, ss, eD, dD, lD, okD, eN, hPb, tb⟩
        refine ⟨rfl, yes_of ?_⟩
        refine ⟨_, rfl, _, rfl, p, pc, nl, xs, 400 * i + 10 + j * 40, rfl, eN, x1, by omega, nx, by omega, hPb, fun H' v s sok dv hP' k' => ?_⟩
        have eD' := hPb.lst k' eD
        have tsU : TSame H' (upd H' D (.lst (ws ++ [v]))) := .updL eD'
        refine ⟨ws, eD', sz1l _ (by rw [dD.len, List.length_map]; omega), ws ++ [v], ss ++ [s], upd_same, ((dD.keepC hPb k').to tsU).snoc (dv.to tsU), ?_, ?_, ?_, ?_, ?_⟩
        · rw [List.length_append, lD]
          rfl
        · intro s' hs'
          rcases List.mem_append.mp hs' with z | z
          · exact okD s' z
          · rw [List.mem_singleton.mp z]
            exact sok
        · rw [upd_ne nlD]
          exact hPb.lst k' eN
        · exact hP'.upd (hP'.ne eD' fun _ z => by cases z) nDc (by omega)
        · exact tabs_upd (tabs_keep tb hPb k') eD'
      rintro H4 ⟨ws, ss, eD, dD, lD, okD, eN, hP4, tb4⟩
      refine ⟨D, ws, rfl, .inl ⟨SqL.of eD, fun ti hti => ?_⟩⟩
      have s5 := Same.new (.tup ws) (Same.refl H4) hti
      have dI : DT (upd H4 ti (.tup ws)) (.ref ti) (.tuple (ss.map stD)) := .tup upd_same (dD.to (.of s5))
      have eTi : (upd H4 ti (.tup ws)) ti = some (.tup ws) := upd_same
      have hP5 := hP4.same s5
      have tb5 : LamX.Tabs TS (upd H4 ti (.tup ws)) := tb4.ext fun b o e => s5 _ _ e
      obtain ⟨H5, eH5⟩ : ∃ X, X = upd H4 ti (.tup ws) := ⟨_, rfl⟩
      rw [← eH5] at dI hP5 tb5 eTi ⊢
      refine normG (σ' := [some (.ref sc), some (.ref p), some (.int (0 + (i : Int))), some (.ref nl), some (.ref ti), v5, v6, v7, v8, v9, v10, v11]) rfl ?_
      try dsimp only
      refine ⟨_, rfl, p, 3, 400 * i + 10 + m * 40, pc, rfl, by decide, by decide, by omega, hP5, fun H6 a a0 a1 hP6 k6 => ⟨_, _, rfl, rfl, ?_⟩⟩
      refine ⟨_, rfl, p, 2, 400 * i + 10 + m * 40 + 1, pc, rfl, by decide, by decide, by omega, hP6, fun H7 e e0 e1 hP7 k7 => ⟨rfl, _, _, rfl, ?_⟩⟩
      try dsimp only
      have dI7 := (dI.keepC hP5 k6).keepC hP6 k7
      have eTi7 := hP6.tup k7 (hP5.tup k6 eTi)
      have tb7 := tabs_keep (tabs_keep tb5 hP5 k6) hP6 k7
      clear tb5 tb4 tb3 tb2 dI eTi hP6 hP5 dD eD eN hnl hnl3
      have lw : ws.length = ss.length := by
        cases dI7 with
        | tup e0 r0 =>
          rw [eTi7] at e0
          cases e0
          rw [r0.len, List.length_map]
      have m23 : ss.length = m := lD
      have m2 : 2 ≤ ss.length := by omega
      have m3 : ss.length ≤ 3 := by omega
      refine norm (N := fun σ _ => _) (σ' := [some (.ref sc), some (.ref p), some (.int (0 + (i : Int))), some (.ref nl), some (.ref ti), v5, some (.int (1 + a)), some (.bl (decide (V.int e = V.int 0))), v8, v9, v10, v11]) rfl ?_
      generalize decide (V.int e = V.int 0) = gb
      have a1' : 1 ≤ 1 + a := by omega
      have a3' : 1 + a ≤ 3 := by omega
      have okm : ∀ s ∈ ss, StMk s ∧ s.gds.length ≤ 2 := fun s hs => st_mk (okD s hs)
      have r1 : LpMk (rowM (1 + a) gb ss) := row_mk a1' (by omega) (by omega) fun s hs => (okm s hs).1
      have r2 : LpMk (rowM (1 + a + 1) gb ss) := row_mk (by omega) (by omega) (by omega) fun s hs => (okm s hs).1
      have r3 : LpMk (rowM (1 + a) (!gb) ss) := row_mk a1' (by omega) (by omega) fun s hs => (okm s hs).1
      have r12 : ∀ l ∈ [rowM (1 + a) gb ss, rowM (1 + a + 1) gb ss], LpMk l := fun l hl => by
        simp only [List.mem_cons, List.not_mem_nil, or_false] at hl
        rcases hl with rfl | rfl
        · exact r1
        · exact r2
      have r13 : ∀ l ∈ [rowM (1 + a) gb ss, rowM (1 + a) (!gb) ss], LpMk l := fun l hl => by
        simp only [List.mem_cons, List.not_mem_nil, or_false] at hl
        rcases hl with rfl | rfl
        · exact r1
        · exact r3
      have ok12 : ∀ l ∈ [rowM (1 + a) gb ss, rowM (1 + a + 1) gb ss].map oL, LpXk l := fun l hl => by
        obtain ⟨q, hq, rfl⟩ := List.mem_map.mp hl
        exact oL_ok (r12 q hq)
      have po12 := po_ls (ls := [rowM (1 + a) gb ss, rowM (1 + a + 1) gb ss]) (by show 2 ≤ 6; decide) r12
      have po13 := po_ls (ls := [rowM (1 + a) gb ss, rowM (1 + a) (!gb) ss]) (by show 2 ≤ 6; decide) r13
      refine gv_set (d := lpD (rowM (1 + a) gb ss)) (gv_tup (gva_cons (gv_tup (ds := [.int 0, .int 0, .int 1]) (gva_cons gv_int (gva_cons gv_int (gva_cons gv_int gva_nil))) (by decide)) (gva_cons (gv_tup (ds := [.int 1, .int 0, .int 1]) (gva_cons gv_int (gva_cons gv_int (gva_cons gv_int gva_nil))) (by decide)) (gva_cons (gv_var rfl (.int _)) (gva_cons (gv_var rfl (.bl _)) (gva_cons (gv_var rfl dI7) gva_nil))))) (by show 5 ≤ 100000; decide)) fun vR H8 s8 dR => ?_
      have dI8 := dI7.to (.of s8)
      refine normG (σ' := [some (.ref sc), some (.ref p), some (.int (0 + (i : Int))), some (.ref nl), some (.ref ti), v5, some (.int (1 + a)), some (.bl gb), some vR, v9, v10, v11]) rfl ?_
      refine set_call (gv_lst (ds := [lpD (rowM (1 + a) gb ss), lpD (rowM (1 + a + 1) gb ss)]) (gva_cons (gv_var rfl dR) (gva_cons (gv_row2 rfl dR (gv_tup (ds := [.int (1 + a + 1), .bool gb, .tuple (ss.map stD)]) (gva_cons (gv_addI (gv_var rfl (.int _)) gv_int) (gva_cons (gv_var rfl (.bl _)) (gva_cons (gv_var rfl dI8) gva_nil))) (by show 3 ≤ 100000; decide))) gva_nil)) (by show 2 ≤ 100000; decide) fun pl xl H9 s9 n9 e9 d9 => ⟨pl, xl, [rowM (1 + a) gb ss, rowM (1 + a + 1) gb ss], rfl, e9, d9, (by show 2 ≤ 6; decide), r12, fun vP H10 s10 hPr => ?_⟩)
      have s910 := s9.trans s10
      have dR10 := dR.to (.of s910)
      refine normG (σ' := [some (.ref sc), some (.ref p), some (.int (0 + (i : Int))), some (.ref nl), some (.ref ti), v5, some (.int (1 + a)), some (.bl gb), some vR, some vP, v10, v11]) rfl ?_
      refine set_call (gv_lst (ds := [lpD (rowM (1 + a) gb ss), lpD (rowM (1 + a) (!gb) ss)]) (gva_cons (gv_var rfl dR10) (gva_cons (gv_row3 rfl dR10 (gv_tup (ds := [.bool (!gb), .tuple (ss.map stD)]) (gva_cons (gv_notV (gv_var rfl (.bl _))) (gva_cons (gv_var rfl (dI8.to (.of s910))) gva_nil)) (by show 2 ≤ 100000; decide))) gva_nil)) (by show 2 ≤ 100000; decide) fun pl2 xl2 H11 s11 n11 e11 d11 => ⟨pl2, xl2, [rowM (1 + a) gb ss, rowM (1 + a) (!gb) ss], rfl, e11, d11, (by show 2 ≤ 6; decide), r13, fun vO H12 s12 hO => ?_⟩)
      have s1112 := s11.trans s12
      have hPr := hPr.same s1112
      have dR12 := dR10.to (.of s1112)
      have s712 := s8.trans (s910.trans s1112)
      have tb12 : LamX.Tabs TS H12 := tb7.ext fun b o e => s712 _ _ e
      have hP12 := hP7.same s712
      have eTi12 := s712 _ _ eTi7
      clear s712 s1112 s910 d11 d9 dI8 dI7 tb7 hP7 dR10 dR
      refine normG (σ' := [some (.ref sc), some (.ref p), some (.int (0 + (i : Int))), some (.ref nl), some (.ref ti), v5, some (.int (1 + a)), some (.bl gb), some vR, some vP, some vO, v11]) rfl ?_
      refine ⟨_, rfl, vP, _, rfl, hPr, po12, (by show 1 ≤ 2; decide), tb12, fun H13 e13 t13 => ⟨_, rfl, if_no rfl ?_⟩⟩
      have eTi13 := e13 _ _ eTi12 fun _ z => by cases z
      have hPr13 := hPr.ms (ms_ext e13)
      have hO13 := hO.ms (ms_ext e13)
      refine ⟨_, rfl, _, rfl, ti, ws, rfl, .inr (SqT.of eTi13), vP, _, oL (rowM (1 + a) gb ss), ?_, hPr13, po12, rfl, ?_, t13, fun H14 e14 t14 => ⟨_, rfl, if_no rfl ?_⟩⟩
      · show [vP, V.int ((ws.length : Nat) : Int)] = [vP, .int (((ss.map oS).length : Nat) : Int)]
        rw [List.length_map, lw]
      · show 2 ≤ (ss.map oS).length
        rw [List.length_map]
        exact m2
      have hPr14 := hPr13.ms (ms_ext e14)
      have hO14 := hO13.ms (ms_ext e14)
      refine un_next ?_
      try dsimp only
      refine ⟨_, rfl, _, rfl, sz1l _ (by show 1 < 1000; decide), fun tt htt => ⟨tt, rfl, ⟨_, SqT.of upd_same⟩, fun D2 hD2 => ?_⟩⟩
      have sA := Same.new (.tup [vP, vO]) (Same.refl H14) htt
      have eTA : (upd H14 tt (.tup [vP, vO])) tt = some (.tup [vP, vO]) := upd_same
      obtain ⟨HA, eHA⟩ : ∃ X, X = upd H14 tt (.tup [vP, vO]) := ⟨_, rfl⟩
      rw [← eHA] at sA eTA hD2 ⊢
      have sB := Same.new (.lst []) sA hD2
      have eTT : (upd HA D2 (.lst [])) tt = some (.tup [vP, vO]) := Same.new (.lst []) (Same.refl _) hD2 _ _ eTA
      have nD2 : H14 D2 = none := by
        cases hh : H14 D2 with
        | none => rfl
        | some o =>
          rw [sA _ _ hh] at hD2
          cases hD2
      have eDB : (upd HA D2 (.lst [])) D2 = some (.lst []) := upd_same
      have ntD : tt ≠ D2 := fun z => by
        rw [z, eDB] at eTT
        cases eTT
      have progs : ∀ (j : Nat) (x : V), [vP, vO][j]? = some x → ∃ (ls : List LpX) (la lb : LpX), PrXo K H14 x ls ∧ PO ls ∧ ls = [la, lb] ∧ ¬ (la.S = lb.S ∧ la.dn = lb.dn) := fun j x hx => by
        match j, hx with
        | 0, hx =>
          cases hx
          exact ⟨_, _, _, hPr14, po12, rfl, fun z => by
            have : 1 + a = 1 + a + 1 := z.1
            omega⟩
        | 1, hx =>
          cases hx
          exact ⟨_, _, _, hO14, po13, rfl, fun z => by
            have : gb = !gb := z.2
            cases gb <;> cases this⟩
      refine lc_tup (K := K) (xs := [vP, vO]) (fun j Hb => ∃ us, Hb D2 = some (.lst us) ∧ DTs Hb us (List.replicate j (.tuple [.int 0, .int 0])) ∧ Hb tt = some (.tup [vP, vO]) ∧ LamX.ExtN H14 Hb ∧ LamX.Tabs TS Hb) ⟨[], eDB, .nil, eTT, LamX.ExtN.of fun b o e => sB _ _ e, t14.ext fun b o e => sB _ _ e⟩ (fun _ _ _ z => SqT.of z.choose_spec.2.2.1) ?_ ?_
      · rintro j x Hb hx ⟨us, eD2, dus, eTb, eb, tbb⟩
        obtain ⟨ls, la, lb, hpx, hpo, els, nU⟩ := progs j x hx
        have hj2 : j < 2 := (List.getElem?_eq_some_iff.mp hx).1
        refine ⟨rfl, yes_of ?_⟩
        refine refuse_V (x := "Unlike") (fs := ["loop"]) (tag := .int 0) (vs := [.int (0 : Nat)]) (ds := [.int 0, .int (0 : Nat)]) tbb (fun H1 R E e1 rz => ⟨_, rfl, x, .int 0, ls, rfl, (hpx.ms (ms_ext eb)).ms (ms_ext e1), hpo, lp_in (j := 0) rfl (by rw [els]; show 0 < 2; decide) ⟨fun z => absurd z (by rw [els]; show ¬ 0 + 1 = 2; decide), fun q1 q2 h1 h2 => ⟨fun _ => rz, fun z => ?_⟩⟩⟩) (by simp) rfl (.cons (.int _) (.cons (.int _) .nil)) fun H2 e2 tb2 u du => ?_
        · rw [els] at h1 h2
          cases h1
          cases h2
          exact absurd z nU
        · have eD3 := e2 _ _ eD2 fun _ z => by cases z
          have tsU : TSame H2 (upd H2 D2 (.lst (us ++ [.ref u]))) := .updL eD3
          refine ⟨us, eD3, sz1l _ (by rw [dus.len, List.length_replicate]; omega), us ++ [.ref u], upd_same, ?_, ?_, fun b o h n => ?_, tabs_upd tb2 eD3⟩
          · rw [List.replicate_succ']
            exact ((dus.to (tsame_ext e2)).to tsU).app (.one (du.to tsU))
          · rw [upd_ne ntD]
            exact e2 _ _ eTb fun _ z => by cases z
          · rw [upd_ne (ne_of_none h nD2)]
            exact e2 _ _ (eb _ _ h n) n
      rintro H15 ⟨us, eD2, dus, eTb, eb15, t15⟩
      have dus : DTs H15 us [.tuple [.int 0, .int 0], .tuple [.int 0, .int 0]] := dus
      have shL : SeqAt.shaped (.list [.tuple [.int 0, .int 0], .tuple [.int 0, .int 0]]) = true := by decide +kernel
      refine gv_lst (ds := [.tuple [.int 0, .int 0], .tuple [.int 0, .int 0]]) (by repeat' (first | exact gva_nil | refine gva_cons ?_ ?_ | exact gv_int | exact gv_str | exact gv_bl | (refine gv_var rfl ?_; assumption) | refine gv_tup ?_ (by decide))) (by decide) fun pl3 xl3 H16 s16 n16 e16 d16 => ⟨_, _, Dp.lst (SqL.of (s16 _ _ eD2)) (DTs.dp _ (dus.to (.of s16))), Dp.lst (SqL.of e16) (DTs.dp _ d16), shL, shL, _, rfl, ?_⟩
      rw [SeqAt.eqv_refl _ (SeqAt.canLay_of_shaped shL)]
      refine if_no rfl ?_
      refine un_next ?_
      try dsimp only
      have e1416 : LamX.ExtN H14 H16 := eb15.trans (LamX.ExtN.of fun b o e => s16 _ _ e)
      have t16 : LamX.Tabs TS H16 := t15.ext fun b o e => s16 _ _ e
      have hPr16 := hPr14.ms (ms_ext e1416)
      have hO16 := hO14.ms (ms_ext e1416)
      clear dus d16 progs hPr hPr13 hO hO13 sA sB
      -- cut at i + n
      refine refuse_neE (er := .num "i" 1) (by decide +kernel) t16 (fun H1 R E e1 rz => ⟨_, rfl, 1, 1, 0, rfl, fun q Hq sq nq hq => ⟨vP, .int 0, .ref q, _, rfl, (hPr16.ms (ms_ext e1)).same sq, po12, lp_in (j := 0) rfl (by show 0 < 2; decide) fun l hl => ⟨(1, 1, 0, 1), .num "i" 1, .inr ⟨.inl ⟨q, rfl, hq⟩, rfl⟩, ck_first ok12 (by show 0 + 1 ≤ 2; decide) ?_, rz.same sq⟩⟩⟩) (fun H2 e2 => (by repeat' (first | exact gva_nil | refine gva_cons ?_ ?_ | exact gv_int | exact gv_str | exact gv_bl | (refine gv_var rfl ?_; assumption) | refine gv_tup ?_ (by decide)))) fun H17 e17 t17 => if_no rfl ?_
      · obtain rfl : oL (rowM (1 + a) gb ss) = l := Option.some.inj hl
        exact ck_cut_i r1 a1' (by omega)
      refine un_next ?_
      try dsimp only
      have hPr17 := hPr16.ms (ms_ext e17)
      have hO17 := hO16.ms (ms_ext e17)
      -- cut at n // 2
      refine refuse_neE (er := .num "step" (1 + a + 1)) (by show PyData.strOk "step" = true; decide +kernel) t17 (fun H1 R E e1 rz => ⟨_, rfl, 0, 1, 0, rfl, fun q Hq sq nq hq => ⟨.ref q, 2, rfl, 0, 1, 0, .inl ⟨q, rfl, hq⟩, fun z => absurd z (by decide), fun _ => ⟨by decide +kernel, fun pp Hp sp' hpp => ⟨vP, .int 1, .ref pp, _, rfl, ((hPr17.ms (ms_ext e1)).same sq).same sp', po12, lp_in (j := 1) rfl (by show 1 < 2; decide) fun l hl => ⟨(0, 1, 0, 2), .num "step" (1 + a + 1), .inl ⟨pp, rfl, ?_⟩, ck_first ok12 (by show 1 + 1 ≤ 2; decide) ?_, (rz.same sq).same sp'⟩⟩⟩⟩⟩) (fun H2 e2 => gv_tup (gva_cons gv_str (gva_cons gv_str (gva_cons (gv_addI (gv_var rfl (.int _)) gv_int) gva_nil))) (by show 3 ≤ 100000; decide)) fun H18 e18 t18 => if_no rfl ?_
      · rw [show (0 : Int).fdiv (gg 0 1 2) = 0 by decide +kernel, show (1 : Int).fdiv (gg 0 1 2) = 1 by decide +kernel, show (2 : Int).fdiv (gg 0 1 2) = 2 by decide +kernel] at hpp
        exact hpp
      · obtain rfl : oL (rowM (1 + a + 1) gb ss) = l := Option.some.inj hl
        exact ck_cut_s r2 (by omega) (by omega)
      refine un_next ?_
      try dsimp only
      have hPr18 := hPr17.ms (ms_ext e18)
      have hO18 := hO17.ms (ms_ext e18)
      -- then
      refine seq_if ?_
      refine refuse_other t18 (fun H1 R E e1 oth => ⟨_, rfl, vP, _, rfl, hPr18.ms (ms_ext e1), po12, fun q1 o1 Ha sa ra => ?_⟩) (fun H2 e2 => (by repeat' (first | exact gva_nil | refine gva_cons ?_ ?_ | exact gv_int | exact gv_str | exact gv_bl | (refine gv_var rfl ?_; assumption) | refine gv_tup ?_ (by decide)))) fun H19 e19 t19 => if_no rfl ?_
      · obtain ⟨dx1, dd1, hr1⟩ := id ra
        refine ⟨q1, dx1, _, rfl, hr1, rwf_no _ _ _ _ (by decide +kernel) (by decide +kernel) (by decide +kernel) (by decide +kernel), ?_⟩
        refine ⟨_, rfl, vO, _, rfl, (hO18.ms (ms_ext e1)).same sa, po13, fun q2 o2 Hb2 sb2 rb => ⟨q1, q2, vP, vP, o1, vO, vO, o2, _, _, rfl, ra.same sb2, rb, ((hPr18.ms (ms_ext e1)).same sa).same sb2, ((hO18.ms (ms_ext e1)).same sa).same sb2, po12, po13, ⟨rfl, 1, _, _, rfl, rfl, rfl, rfl, rfl, ?_⟩, fun d H' s' => oth d H' (sa.trans (sb2.trans s'))⟩⟩
        show ¬ 1 + a + 1 = 1 + a
        omega
      refine un_next ?_
      try dsimp only
      -- bounds
      obtain ⟨q1, q2, qs, eqs⟩ := two_of m2
      have e1219 : LamX.ExtN H12 H19 := e13.trans (e14.trans (e1416.trans (e17.trans (e18.trans e19))))
      have dR19 := dR12.to (tsame_ext e1219)
      rw [eqs] at dR19 okm m3
      refine ⟨_, rfl, vR, 1 + a, gb, q1, q2, qs, rfl, dR19, a1', by omega, by simp only [List.length_cons] at m3; omega, okm, t19, fun H20 e20 t20 => ⟨_, rfl, if_no rfl ?_⟩⟩
      refine ⟨_, _, _, _, _, _, _, _, _, _, rfl, ((hP12.ext e1219).ext e20).mono (by omega), t20⟩
    · rintro σ Hf ⟨v2, v3, v4, v5, v6, v7, v8, v9, v10, v11, rfl, _, _⟩
      exact kk Hf
end
end K49
set_option maxHeartbeats 0
namespace K49
open PySem PySem.Spec PyProof.Rows L2 Z
section
variable {P : Program} {w : World} {K : PySem.W.Frag} {mg : Str → Option Value} {base : Heap}
theorem scTooMany__init__ : FnScope ["self", "what", "many", "limit"] ["self", "what", "many", "limit"] (defScope iTooMany__init__) := ⟨rfl, rfl, rfl, by decide +kernel, rfl, by decide +kernel, by decide +kernel⟩
theorem mxTooMany {fd : FuncData} (T : EC K mg "TooMany" ["what", "many", "limit"]) (F : FnM K "TooMany" "__init__" "TooMany.__init__" iTooMany__init__ fd) : Mx P w K mg base "TooMany" ["self", "what", "many", "limit"] ["what", "many", "limit"] := by
  refine ⟨T, fd, ?_, F.bindsN fun _ _ _ _ _ _ us hl => match us, hl with | [_, _, _, _], _ => rfl⟩
  refine F.ok scTooMany__init__ (fun vs H Q E h => ?_) (fun cdv A outer s H vs Q E hr h => ⟨_, PSs.nox (pss_cons (ps_ost (pv 0) (pv 1)) (pss_cons (ps_ost (pv 0) (pv 2)) (pss_one (ps_ost (pv 0) (pv 3))))), rd_err3 T h⟩)
  obtain ⟨a, ws, rfl, e, _⟩ := h
  rw [List.length_cons, e]
  rfl
theorem scBadName__init__ : FnScope ["self", "name"] ["self", "name"] (defScope iBadName__init__) := ⟨rfl, rfl, rfl, by decide +kernel, rfl, by decide +kernel, by decide +kernel⟩
theorem mxBadName {fd : FuncData} (T : EC K mg "BadName" ["name"]) (F : FnM K "BadName" "__init__" "BadName.__init__" iBadName__init__ fd) : Mx P w K mg base "BadName" ["self", "name"] ["name"] := by
  refine ⟨T, fd, ?_, F.bindsN fun _ _ _ _ _ _ us hl => match us, hl with | [_, _], _ => rfl⟩
  refine F.ok scBadName__init__ (fun vs H Q E h => ?_) (fun cdv A outer s H vs Q E hr h => ⟨_, PSs.nox (pss_one (ps_ost (pv 0) (pv 1))), rd_err1 T h⟩)
  obtain ⟨a, ws, rfl, e, _⟩ := h
  rw [List.length_cons, e]
  rfl
theorem scBadSize__init__ : FnScope ["self", "n"] ["self", "n"] (defScope iBadSize__init__) := ⟨rfl, rfl, rfl, by decide +kernel, rfl, by decide +kernel, by decide +kernel⟩
theorem mxBadSize {fd : FuncData} (T : EC K mg "BadSize" ["n"]) (F : FnM K "BadSize" "__init__" "BadSize.__init__" iBadSize__init__ fd) : Mx P w K mg base "BadSize" ["self", "n"] ["n"] := by
  refine ⟨T, fd, ?_, F.bindsN fun _ _ _ _ _ _ us hl => match us, hl with | [_, _], _ => rfl⟩
  refine F.ok scBadSize__init__ (fun vs H Q E h => ?_) (fun cdv A outer s H vs Q E hr h => ⟨_, PSs.nox (pss_one (ps_ost (pv 0) (pv 1))), rd_err1 T h⟩)
  obtain ⟨a, ws, rfl, e, _⟩ := h
  rw [List.length_cons, e]
  rfl
theorem scNoLoop__init__ : FnScope ["self", "loop"] ["self", "loop"] (defScope iNoLoop__init__) := ⟨rfl, rfl, rfl, by decide +kernel, rfl, by decide +kernel, by decide +kernel⟩
theorem mxNoLoop {fd : FuncData} (T : EC K mg "NoLoop" ["loop"]) (F : FnM K "NoLoop" "__init__" "NoLoop.__init__" iNoLoop__init__ fd) : Mx P w K mg base "NoLoop" ["self", "loop"] ["loop"] := by
  refine ⟨T, fd, ?_, F.bindsN fun _ _ _ _ _ _ us hl => match us, hl with | [_, _], _ => rfl⟩
  refine F.ok scNoLoop__init__ (fun vs H Q E h => ?_) (fun cdv A outer s H vs Q E hr h => ⟨_, PSs.nox (pss_one (ps_ost (pv 0) (pv 1))), rd_err1 T h⟩)
  obtain ⟨a, ws, rfl, e, _⟩ := h
  rw [List.length_cons, e]
  rfl
theorem scNoStatement__init__ : FnScope ["self", "loop", "statement"] ["self", "loop", "statement"] (defScope iNoStatement__init__) := ⟨rfl, rfl, rfl, by decide +kernel, rfl, by decide +kernel, by decide +kernel⟩
theorem mxNoStatement {fd : FuncData} (T : EC K mg "NoStatement" ["loop", "statement"]) (F : FnM K "NoStatement" "__init__" "NoStatement.__init__" iNoStatement__init__ fd) : Mx P w K mg base "NoStatement" ["self", "loop", "statement"] ["loop", "statement"] := by
  refine ⟨T, fd, ?_, F.bindsN fun _ _ _ _ _ _ us hl => match us, hl with | [_, _, _], _ => rfl⟩
  refine F.ok scNoStatement__init__ (fun vs H Q E h => ?_) (fun cdv A outer s H vs Q E hr h => ⟨_, PSs.nox (pss_cons (ps_ost (pv 0) (pv 1)) (pss_one (ps_ost (pv 0) (pv 2)))), rd_err2 T h⟩)
  obtain ⟨a, ws, rfl, e, _⟩ := h
  rw [List.length_cons, e]
  rfl
theorem scBadMany__init__ : FnScope ["self", "many"] ["self", "many"] (defScope iBadMany__init__) := ⟨rfl, rfl, rfl, by decide +kernel, rfl, by decide +kernel, by decide +kernel⟩
theorem mxBadMany {fd : FuncData} (T : EC K mg "BadMany" ["many"]) (F : FnM K "BadMany" "__init__" "BadMany.__init__" iBadMany__init__ fd) : Mx P w K mg base "BadMany" ["self", "many"] ["many"] := by
  refine ⟨T, fd, ?_, F.bindsN fun _ _ _ _ _ _ us hl => match us, hl with | [_, _], _ => rfl⟩
  refine F.ok scBadMany__init__ (fun vs H Q E h => ?_) (fun cdv A outer s H vs Q E hr h => ⟨_, PSs.nox (pss_one (ps_ost (pv 0) (pv 1))), rd_err1 T h⟩)
  obtain ⟨a, ws, rfl, e, _⟩ := h
  rw [List.length_cons, e]
  rfl
theorem scUnlike__init__ : FnScope ["self", "loop"] ["self", "loop"] (defScope iUnlike__init__) := ⟨rfl, rfl, rfl, by decide +kernel, rfl, by decide +kernel, by decide +kernel⟩
theorem mxUnlike {fd : FuncData} (T : EC K mg "Unlike" ["loop"]) (F : FnM K "Unlike" "__init__" "Unlike.__init__" iUnlike__init__ fd) : Mx P w K mg base "Unlike" ["self", "loop"] ["loop"] := by
  refine ⟨T, fd, ?_, F.bindsN fun _ _ _ _ _ _ us hl => match us, hl with | [_, _], _ => rfl⟩
  refine F.ok scUnlike__init__ (fun vs H Q E h => ?_) (fun cdv A outer s H vs Q E hr h => ⟨_, PSs.nox (pss_one (ps_ost (pv 0) (pv 1))), rd_err1 T h⟩)
  obtain ⟨a, ws, rfl, e, _⟩ := h
  rw [List.length_cons, e]
  rfl
end
theorem inx_of {K : PySem.W.Frag} {C : Addr} (h : insB K C = true) : Inx K C := by
  obtain ⟨h1, h⟩ := He.ba h
  obtain ⟨h2, h⟩ := He.ba h
  obtain ⟨h3, h4⟩ := He.ba h
  exact ⟨He.eqO_ok h1, He.eqO_ok h2, of_decide_eq_true h3, of_decide_eq_true h4⟩
theorem kw_of {K : PySem.W.Frag} {x : Str} (z : (match K.lookup (kwAt x K) with | some ⟨.type c, _, .seq its _, _⟩ => decide (c = "tuple") && decide (its.size = 0) | _ => false) = true) : ∀ H : Hp, SqT K H (kwAt x K) [] := by
  intro H
  cases e : K.lookup (kwAt x K) with
  | none =>
    rw [e] at z
    cases z
  | some ob =>
    rw [e] at z
    obtain ⟨oc, od, dt, osl⟩ := ob
    cases oc with
    | type c =>
      cases dt with
      | seq its n =>
        obtain ⟨z1, z2⟩ := He.ba z
        have z1 : c = "tuple" := of_decide_eq_true z1
        have z2 : its.size = 0 := of_decide_eq_true z2
        subst z1
        have z3 : its = #[] := Array.eq_empty_of_size_eq_zero z2
        subst z3
        exact .inr ⟨_, _, _, e, rfl, rfl, Nat.zero_le _, .nil⟩
      | _ => cases z
    | _ => cases z
theorem code_of {K : PySem.W.Frag} {h : Heap} {mg : Str → Option Value} {x : Str} {st : Stmt} {f c T : Addr} {fd : FuncData} (X : K.In h) (G : h.Ns mainGlobals mg) (F : FnP K x st f fd) (ht : PySem.W.tabIn K x = some (c, T)) (hm : mg x = some (.ref f)) : fd.code = .ref c := by
  obtain ⟨oc, od, dV, kV, doc, pm, an, cdv, ct, osl, e, lk, _⟩ := F.ex
  subst e
  exact PySem.W.law_code X G ht hm (X _ _ lk) rfl
theorem ref_def {K : PySem.W.Frag} {mg : Str → Option Value} {f : Addr} {fd : FuncData} (F : FnP K "_law_refused" s_law_refused f fd) (g : mg "_law_refused" = some (.ref f)) : RefDef K mg := by
  have b := FunD.bindsN (ps := ["_law_call"]) F fun _ _ _ _ _ _ us hl => match us, hl with | [_], _ => rfl
  have kp := F.kp
  obtain ⟨oc, od, dV, kV, doc, pm, an, cdv, ct, osl, e, lk, cd, _⟩ := F.ex
  subst e
  exact ⟨f, oc, od, dV, kV, doc, pm, an, cdv, ct, osl, g, kp, lk, cd, b⟩
theorem tab_at {K : PySem.W.Frag} {x : Str} (h : (match PySem.W.tabIn K x with | some (_, a) => (K.lookup a).isNone | _ => false) = true) : ∃ c T, PySem.W.tabIn K x = some (c, T) ∧ K.lookup T = none := by
  cases e : PySem.W.tabIn K x with
  | none =>
    rw [e] at h
    cases h
  | some q =>
    rw [e] at h
    obtain ⟨c, T⟩ := q
    exact ⟨c, T, rfl, Option.isNone_iff_eq_none.mp h⟩
theorem tab_ne {K : PySem.W.Frag} {x y : Str} {c T c' T' : Addr} (l1 : PySem.W.tabIn K x = some (c, T)) (l2 : PySem.W.tabIn K y = some (c', T')) (h : (match PySem.W.tabIn K x, PySem.W.tabIn K y with | some (_, a), some (_, b) => decide (a ≠ b) | _, _ => false) = true) : T ≠ T' := by
  rw [l1, l2] at h
  exact of_decide_eq_true h
abbrev qq : Program := PySem.W.view R.prog [0, 102, 103, 104, 105, 106]
theorem seenR (x : Str) (h : ((recsOf qq).find? fun e => e.name == x).isSome = true) : ∃ d, (recsOf qq).find? (fun e => e.name == x) = some d := Option.isSome_iff_exists.mp h
theorem facts {w : World} {h : Heap} {mg : Str → Option Value} {f : Addr} {P : Program} {K : PySem.W.Frag} (X : K.In h) (Z : ∃ lo mean mb, Top qq lo mean mg mb h) (hfa : mg ("law" : Str) = some (.ref f)) (c : SaysX fa fn K) :
    ∃ (fd : FuncData) (cs : List (Addr × Addr)) (TS : List (Addr × Str)), (∀ p ∈ cs, h.get? p.2 = some { cls := .none, data := .fields #[] }) ∧ (∀ p ∈ cs, K.lookup p.2 = none) ∧ (∀ p ∈ cs, PySem.W.CodeHd h p.1 p.2) ∧ (∀ (s : Shared) (v : Value), BindsTo s fd ⟨[v], []⟩ [("_law_script", v)]) ∧
      (∀ H : Hp, (∀ p ∈ cs, H p.2 = some (.tbl #[])) → LamX.Tabs TS H) ∧ ∀ base : Heap, K.In base → base.Ns mainGlobals mg → (∀ p ∈ cs, LamX.TabB base mg p.1 p.2) → FnOk P w K mg base CX0 20 f fd ["_law_script"] (spLaw K TS) := by
  obtain ⟨_, _, _, Tp⟩ := Z
  have G := Tp.g
  have gl : ∀ x ∈ glos, mg x = some (.ref (He.ga K x)) := fun x hx => He.glo_ok X G (List.all_eq_true.mp (c.fact 0) x hx)
  have fr : ∀ x ∈ frees, mg x = none := fun x hx => He.free_ok X G (List.all_eq_true.mp (c.fact 1) x hx)
  have ow : ∀ x ∈ owns, Cls K (He.ga K x) ∧ Mk K (He.ga K x) (He.ma K (He.ga K x) "__init__") ∧ Inx K (He.ga K x) := fun x hx => by
    obtain ⟨h1, z⟩ := He.ba (List.all_eq_true.mp (c.fact 2) x hx)
    obtain ⟨h2, h3⟩ := He.ba z
    exact ⟨He.cls_ok h1, He.mkr_ok h2, inx_of h3⟩
  have na : ∀ q ∈ atts, NoAttr K (He.ga K q.1) q.2 := fun q hq => He.noat_ok (List.all_eq_true.mp (c.fact 3) q hq)
  have me : ∀ q ∈ mets, Meth K (He.ga K q.1) q.2 (He.ma K (He.ga K q.1) q.2) := fun q hq => He.meth_ok (List.all_eq_true.mp (c.fact 4) q hq)
  have op : ∀ q ∈ oprs, OpI K (He.ga K q.1) q.2 := fun q hq => opiB_ok (List.all_eq_true.mp (c.fact 5) q hq)
  have kt := c.fact 7
  unfold kits at kt
  simp only [Bool.and_eq_true, decide_eq_true_eq] at kt
  obtain ⟨⟨⟨⟨⟨⟨⟨⟨⟨⟨⟨_, kSi⟩, kSS⟩, kSP⟩, kPP⟩, kPS⟩, kiP⟩, kiS⟩, kii0⟩, kib0⟩, kAR⟩, kRR⟩ := kt
  have gcd : mg "gcd" = some (.builtin "math.gcd") := PySem.W.mg_of X G (He.eqO_ok (c.fact 8))
  have EE : ∀ q ∈ excs, EC K mg q.1 q.2 := fun q hq => by
    obtain ⟨h1, z⟩ := He.ba (List.all_eq_true.mp (c.fact 6) q hq)
    obtain ⟨h2, z⟩ := He.ba z
    obtain ⟨h3, z⟩ := He.ba z
    obtain ⟨h4, h5⟩ := He.ba z
    exact { gC := gl q.1 ((show ∀ q ∈ excs, q.1 ∈ glos by decide +kernel) q hq), ox := oex_of h2 (exkB_ok h1), ex := exkB_ok h1, iC := He.eqO_ok h3, tI := of_decide_eq_true h4, na := fun x hx => He.eqO_ok (List.all_eq_true.mp h5 x hx) }
  have EB : EC K mg "BadNumber" ["what", "number"] := EE (("BadNumber", ["what", "number"]) : Str × List Str) (by decide +kernel)
  have ET : EC K mg "TooMany" ["what", "many", "limit"] := EE (("TooMany", ["what", "many", "limit"]) : Str × List Str) (by decide +kernel)
  have EA : EC K mg "BadName" ["name"] := EE (("BadName", ["name"]) : Str × List Str) (by decide +kernel)
  have EZ : EC K mg "BadSize" ["n"] := EE (("BadSize", ["n"]) : Str × List Str) (by decide +kernel)
  have EL : EC K mg "NoLoop" ["loop"] := EE (("NoLoop", ["loop"]) : Str × List Str) (by decide +kernel)
  have ES : EC K mg "NoStatement" ["loop", "statement"] := EE (("NoStatement", ["loop", "statement"]) : Str × List Str) (by decide +kernel)
  have EY : EC K mg "BadMany" ["many"] := EE (("BadMany", ["many"]) : Str × List Str) (by decide +kernel)
  have EU : EC K mg "Unlike" ["loop"] := EE (("Unlike", ["loop"]) : Str × List Str) (by decide +kernel)
  have con0 : ∀ q ∈ ([("TOP_PART", 12), ("TOP_ONE", 999), ("TOP_RANGE_PART", 3), ("TOP_DIVISOR", 3), ("TOP_STEP", 16), ("MOST_LOOPS", 6), ("MOST_STATEMENTS", 16), ("MOST_READS", 3), ("MOST_CONDITIONS", 3), ("TOP_MODULUS", 4), ("MOST_DEALT", 4), ("MOST_UNROLLED", 16), ("TOP_SIZE", 1000000000000000000000000000000)] : List (Str × Int)), ∃ t, mg q.1 = some (.int q.2 t) := fun q hq => by
    have z := List.all_eq_true.mp (c.fact 9) q hq
    cases e : PySem.W.nsIn K mainGlobals q.1 with
    | none =>
      rw [e] at z
      cases z
    | some o =>
      rw [e] at z
      cases o with
      | none => cases z
      | some v =>
        cases v with
        | int i t =>
          have e2 : i = q.2 := of_decide_eq_true z
          subst e2
          exact ⟨t, PySem.W.mg_of X G e⟩
        | _ => cases z
  have con : ∀ q ∈ ([("TOP_PART", 12), ("TOP_ONE", 999), ("TOP_RANGE_PART", 3), ("TOP_DIVISOR", 3), ("TOP_STEP", 16), ("MOST_LOOPS", 6), ("MOST_STATEMENTS", 16), ("MOST_READS", 3), ("MOST_CONDITIONS", 3)] : List (Str × Int)), ∃ t, mg q.1 = some (.int q.2 t) := fun q hq => con0 q ((show ∀ q ∈ ([("TOP_PART", 12), ("TOP_ONE", 999), ("TOP_RANGE_PART", 3), ("TOP_DIVISOR", 3), ("TOP_STEP", 16), ("MOST_LOOPS", 6), ("MOST_STATEMENTS", 16), ("MOST_READS", 3), ("MOST_CONDITIONS", 3)] : List (Str × Int)), q ∈ ([("TOP_PART", 12), ("TOP_ONE", 999), ("TOP_RANGE_PART", 3), ("TOP_DIVISOR", 3), ("TOP_STEP", 16), ("MOST_LOOPS", 6), ("MOST_STATEMENTS", 16), ("MOST_READS", 3), ("MOST_CONDITIONS", 3), ("TOP_MODULUS", 4), ("MOST_DEALT", 4), ("MOST_UNROLLED", 16), ("TOP_SIZE", 1000000000000000000000000000000)] : List (Str × Int)) by decide +kernel) q hq)
  obtain ⟨kw1, kw2⟩ := He.ba (c.fact 10)
  have gLe : ∃ t, mg "LETTERS" = some (.str lets t) := by
    have z := c.fact 11
    cases e : PySem.W.nsIn K mainGlobals "LETTERS" with
    | none =>
      rw [e] at z
      cases z
    | some o =>
      rw [e] at z
      cases o with
      | none => cases z
      | some v =>
        cases v with
        | str x t =>
          have e2 : x = lets := of_decide_eq_true z
          subst e2
          exact ⟨t, PySem.W.mg_of X G e⟩
        | _ => cases z
  have kwz : ∀ x ∈ (["reads", "conditions"] : List Str), ∀ H : Hp, SqT K H (kwAt x K) [] := fun x hx => kw_of (List.all_eq_true.mp (c.fact 12) x hx)
  have T : RwTx K mg := {
    gS := gl "Straight" (by decide +kernel), clS := (ow "Straight" (by decide +kernel)).1, mkS := (ow "Straight" (by decide +kernel)).2.1, ixS := (ow "Straight" (by decide +kernel)).2.2
    nI := na ("Straight", "i") (by decide +kernel), nN := na ("Straight", "n") (by decide +kernel), nO := na ("Straight", "one") (by decide +kernel)
    kSi := kSi, kSS := kSS, kiS := kiS
    isi := fr _ (by decide +kernel), int := fr _ (by decide +kernel), bool := fr _ (by decide +kernel)
    gA := gl "AtLeast" (by decide +kernel), clA := (ow "AtLeast" (by decide +kernel)).1, mkA := (ow "AtLeast" (by decide +kernel)).2.1
    nAS := na ("AtLeast", "straight") (by decide +kernel)
    gcd := gcd
    gR := gl "Rest" (by decide +kernel), clQ := (ow "Rest" (by decide +kernel)).1, mkR := (ow "Rest" (by decide +kernel)).2.1
    nRS := na ("Rest", "straight") (by decide +kernel), nRM := na ("Rest", "modulus") (by decide +kernel), nRR := na ("Rest", "rest") (by decide +kernel)
    topM := con0 ("TOP_MODULUS", 4) (by simp)
    plc := { gS := gl "Straight" (by decide +kernel), clS := (ow "Straight" (by decide +kernel)).1, mkS := (ow "Straight" (by decide +kernel)).2.1, ixS := (ow "Straight" (by decide +kernel)).2.2
             nI := na ("Straight", "i") (by decide +kernel), nN := na ("Straight", "n") (by decide +kernel), nO := na ("Straight", "one") (by decide +kernel)
             kSi := kSi, kSS := kSS, kiS := kiS
             isi := fr _ (by decide +kernel), int := fr _ (by decide +kernel), bool := fr _ (by decide +kernel)
             gP := gl "Place" (by decide +kernel), clP := (ow "Place" (by decide +kernel)).1, mkP := (ow "Place" (by decide +kernel)).2.1, ixP := (ow "Place" (by decide +kernel)).2.2
             nS := na ("Place", "straight") (by decide +kernel), nD := na ("Place", "divisor") (by decide +kernel)
             gcd := gcd, kPP := kPP, kPS := kPS, kSP := kSP, kiP := kiP }
    clR := (ow "Read" (by decide +kernel)).1, nRA := na ("Read", "array") (by decide +kernel), nRP := na ("Read", "place") (by decide +kernel), nRF := na ("Read", "factor") (by decide +kernel)
    clM := (ow "Statement" (by decide +kernel)).1, nMA := na ("Statement", "array") (by decide +kernel), nMC := na ("Statement", "cell") (by decide +kernel), nMK := na ("Statement", "constant") (by decide +kernel), nMR := na ("Statement", "reads") (by decide +kernel), nMG := na ("Statement", "conditions") (by decide +kernel)
    clL := (ow "Loop" (by decide +kernel)).1, nLo := na ("Loop", "low") (by decide +kernel), nHi := na ("Loop", "high") (by decide +kernel), nSt := na ("Loop", "statements") (by decide +kernel), nSp := na ("Loop", "step") (by decide +kernel), nDn := na ("Loop", "down") (by decide +kernel)
    clP := (ow "Program" (by decide +kernel)).1, nPL := na ("Program", "loops") (by decide +kernel), nPA := na ("Program", "arrays") (by decide +kernel), nPK := na ("Program", "known") (by decide +kernel)
    con := con
    gKW := He.glo_ok X G kw1
    tKW := fun H => (He.tupB_ok kw2 H)
    gLe := gLe
    len := fr _ (by decide +kernel), tuple := fr _ (by decide +kernel), all := fr _ (by decide +kernel), str := fr _ (by decide +kernel), set := fr _ (by decide +kernel), sorted := fr _ (by decide +kernel)
    list := fr _ (by decide +kernel), range := fr _ (by decide +kernel), max := fr _ (by decide +kernel), min := fr _ (by decide +kernel), sum := fr _ (by decide +kernel), enumerate := fr _ (by decide +kernel)
    clW := (ow "Rewriting" (by decide +kernel)).1, nWB := na ("Rewriting", "before") (by decide +kernel), nWA := na ("Rewriting", "after") (by decide +kernel), nWO := na ("Rewriting", "origins") (by decide +kernel), nWK := na ("Rewriting", "known") (by decide +kernel) }
  have UE : EqTx K := { iA := (ow "AtLeast" (by decide +kernel)).2.2, iR := (ow "Rest" (by decide +kernel)).2.2, kAR := kAR, kRR := kRR }
  have R : RfTx K mg := { EL := EL, EU := EU, ES := ES, EZ := EZ, EY := EY, ET := ET, EB := EB, EO := ⟨gl "OtherProgram" (by decide +kernel)⟩, x := fun q hq => of_decide_eq_true (List.all_eq_true.mp (c.fact 13) q hq) }
  have O : OEx K mg := by
    have fo : ∀ x ∈ (["OtherProgram"] : List Str), (exkB K (He.ga K x) && PySem.W.excIn K (He.ga K x) He.veBase "ValueError.__new__") = true := fun x hx => List.all_eq_true.mp (c.fact 14) x hx
    obtain ⟨h1, h9⟩ := He.ba (fo "OtherProgram" (by decide +kernel))
    unfold exkB at h1
    obtain ⟨_, z⟩ := He.ba h1
    obtain ⟨h2, z⟩ := He.ba z
    obtain ⟨h3, z⟩ := He.ba z
    obtain ⟨h4, _⟩ := He.ba z
    exact { q := h9, gC := gl "OtherProgram" (by decide +kernel), kC := h4, r1 := of_decide_eq_true h2, r2 := of_decide_eq_true h3 }
  obtain ⟨fd_is_integer, F_is_integer⟩ := c.def_ 1 (d := d_is_integer) rfl
  obtain ⟨fd_is_integer_from, F_is_integer_from⟩ := c.def_ 2 (d := d_is_integer_from) rfl
  obtain ⟨fd_is_size, F_is_size⟩ := c.def_ 3 (d := d_is_size) rfl
  obtain ⟨fd_is_array_name, F_is_array_name⟩ := c.def_ 4 (d := d_is_array_name) rfl
  obtain ⟨fd_straight_like, F_straight_like⟩ := c.def_ 10 (d := d_straight_like) rfl
  obtain ⟨fd_place_like, F_place_like⟩ := c.def_ 11 (d := d_place_like) rfl
  obtain ⟨fd_value_of, F_value_of⟩ := c.def_ 12 (d := d_value_of) rfl
  obtain ⟨fd_replaced_straight, F_replaced_straight⟩ := c.def_ 14 (d := d_replaced_straight) rfl
  obtain ⟨fd_arrays_in, F_arrays_in⟩ := c.def_ 16 (d := d_arrays_in) rfl
  obtain ⟨fd_check_many, F_check_many⟩ := c.def_ 17 (d := d_check_many) rfl
  obtain ⟨fd_check_name, F_check_name⟩ := c.def_ 18 (d := d_check_name) rfl
  obtain ⟨fd_check_number, F_check_number⟩ := c.def_ 19 (d := d_check_number) rfl
  obtain ⟨fd_check_sum, F_check_sum⟩ := c.def_ 20 (d := d_check_sum) rfl
  obtain ⟨fd_check_place, F_check_place⟩ := c.def_ 21 (d := d_check_place) rfl
  obtain ⟨fd_check_range_place, F_check_range_place⟩ := c.def_ 22 (d := d_check_range_place) rfl
  obtain ⟨fd_check_size, F_check_size⟩ := c.def_ 7 (d := d_check_size) rfl
  obtain ⟨fd_check_loop, F_check_loop⟩ := c.def_ 5 (d := d_check_loop) rfl
  obtain ⟨fd_check_statement, F_check_statement⟩ := c.def_ 6 (d := d_check_statement) rfl
  obtain ⟨fd_check_next_loop, F_check_next_loop⟩ := c.def_ 36 (d := d_check_next_loop) rfl
  obtain ⟨fd_statement_at, F_statement_at⟩ := c.def_ 8 (d := d_statement_at) rfl
  obtain ⟨fd_with_entries, F_with_entries⟩ := c.def_ 31 (d := d_with_entries) rfl
  obtain ⟨fd_entries_of, F_entries_of⟩ := c.def_ 32 (d := d_entries_of) rfl
  obtain ⟨fd_kept_loop, F_kept_loop⟩ := c.def_ 30 (d := d_kept_loop) rfl
  obtain ⟨fd_made_statement, F_made_statement⟩ := c.def_ 34 (d := d_made_statement) rfl
  obtain ⟨fd_rewritten, F_rewritten⟩ := c.def_ 33 (d := d_rewritten) rfl
  obtain ⟨fd_no_rewriting, F_no_rewriting⟩ := c.def_ 35 (d := d_no_rewriting) rfl
  obtain ⟨fd_swap_loops, F_swap_loops⟩ := c.def_ 37 (d := d_swap_loops) rfl
  obtain ⟨fd_swap_statements, F_swap_statements⟩ := c.def_ 38 (d := d_swap_statements) rfl
  obtain ⟨fd_turn_loop, F_turn_loop⟩ := c.def_ 39 (d := d_turn_loop) rfl
  obtain ⟨fd_join_loops, F_join_loops⟩ := c.def_ 40 (d := d_join_loops) rfl
  obtain ⟨fd_split_loop, F_split_loop⟩ := c.def_ 41 (d := d_split_loop) rfl
  obtain ⟨fd_cut_loop, F_cut_loop⟩ := c.def_ 42 (d := d_cut_loop) rfl
  obtain ⟨fd_deal_loop, F_deal_loop⟩ := c.def_ 43 (d := d_deal_loop) rfl
  obtain ⟨fd_unroll_loop, F_unroll_loop⟩ := c.def_ 44 (d := d_unroll_loop) rfl
  obtain ⟨fd_condition_parts, F_condition_parts⟩ := c.def_ 26 (d := d_condition_parts) rfl
  obtain ⟨fd_statements_parts, F_statements_parts⟩ := c.def_ 25 (d := d_statements_parts) rfl
  obtain ⟨fd_program_parts, F_program_parts⟩ := c.def_ 24 (d := d_program_parts) rfl
  obtain ⟨fd_same_programs, F_same_programs⟩ := c.def_ 23 (d := d_same_programs) rfl
  obtain ⟨fd__law_pen, F__law_pen⟩ := c.def_ 45 (d := d_law_pen) rfl
  obtain ⟨fd__law_draw, F__law_draw⟩ := c.def_ 46 (d := d_law_draw) rfl
  obtain ⟨fd__law_pick, F__law_pick⟩ := c.def_ 47 (d := d_law_pick) rfl
  obtain ⟨fd__law_name, F__law_name⟩ := c.def_ 48 (d := d_law_name) rfl
  obtain ⟨fd__law_names, F__law_names⟩ := c.def_ 49 (d := d_law_names) rfl
  obtain ⟨fd__law_sum, F__law_sum⟩ := c.def_ 50 (d := d_law_sum) rfl
  obtain ⟨fd__law_made_guard, F__law_made_guard⟩ := c.def_ 51 (d := d_law_made_guard) rfl
  obtain ⟨fd__law_made_statement, F__law_made_statement⟩ := c.def_ 52 (d := d_law_made_statement) rfl
  obtain ⟨fd__law_made_loop, F__law_made_loop⟩ := c.def_ 53 (d := d_law_made_loop) rfl
  obtain ⟨fd__law_made, F__law_made⟩ := c.def_ 54 (d := d_law_made) rfl
  obtain ⟨fd__law_tight_place, F__law_tight_place⟩ := c.def_ 55 (d := d_law_tight_place) rfl
  obtain ⟨fd__law_tight_statement, F__law_tight_statement⟩ := c.def_ 56 (d := d_law_tight_statement) rfl
  obtain ⟨fd__law_refused, F__law_refused⟩ := c.def_ 57 (d := d_law_refused) rfl
  obtain ⟨fd__law_are_loops_right, F__law_are_loops_right⟩ := c.def_ 58 (d := d_law_are_loops_right) rfl
  obtain ⟨fd__law_are_statements_right, F__law_are_statements_right⟩ := c.def_ 59 (d := d_law_are_statements_right) rfl
  obtain ⟨fd__law_are_bounds_right, F__law_are_bounds_right⟩ := c.def_ 60 (d := d_law_are_bounds_right) rfl
  obtain ⟨fd__law_are_lots_right, F__law_are_lots_right⟩ := c.def_ 61 (d := d_law_are_lots_right) rfl
  obtain ⟨fd_law, F_law⟩ := c.def_ 62 (d := d_law) rfl
  obtain ⟨fdBadName__init__, FBadName__init__⟩ := c.def_ 63 (d := dBadName__init__) rfl
  obtain ⟨fdBadNumber__init__, FBadNumber__init__⟩ := c.def_ 64 (d := dBadNumber__init__) rfl
  obtain ⟨fdBadSize__init__, FBadSize__init__⟩ := c.def_ 65 (d := dBadSize__init__) rfl
  obtain ⟨fdBadMany__init__, FBadMany__init__⟩ := c.def_ 66 (d := dBadMany__init__) rfl
  obtain ⟨fdTooMany__init__, FTooMany__init__⟩ := c.def_ 67 (d := dTooMany__init__) rfl
  obtain ⟨fdNoLoop__init__, FNoLoop__init__⟩ := c.def_ 68 (d := dNoLoop__init__) rfl
  obtain ⟨fdNoStatement__init__, FNoStatement__init__⟩ := c.def_ 69 (d := dNoStatement__init__) rfl
  obtain ⟨fdUnlike__init__, FUnlike__init__⟩ := c.def_ 70 (d := dUnlike__init__) rfl
  obtain ⟨fdStraight__init__, FStraight__init__⟩ := c.def_ 71 (d := dStraight__init__) rfl
  obtain ⟨fdStraight__eq__, FStraight__eq__⟩ := c.def_ 72 (d := dStraight__eq__) rfl
  obtain ⟨fdStraightreplaced, FStraightreplaced⟩ := c.def_ 73 (d := dStraightreplaced) rfl
  obtain ⟨fdPlace__init__, FPlace__init__⟩ := c.def_ 74 (d := dPlace__init__) rfl
  obtain ⟨fdPlace__eq__, FPlace__eq__⟩ := c.def_ 75 (d := dPlace__eq__) rfl
  obtain ⟨fdPlacereplaced, FPlacereplaced⟩ := c.def_ 76 (d := dPlacereplaced) rfl
  obtain ⟨fdAtLeast__init__, FAtLeast__init__⟩ := c.def_ 77 (d := dAtLeast__init__) rfl
  obtain ⟨fdAtLeastreplaced, FAtLeastreplaced⟩ := c.def_ 78 (d := dAtLeastreplaced) rfl
  obtain ⟨fdRest__init__, FRest__init__⟩ := c.def_ 79 (d := dRest__init__) rfl
  obtain ⟨fdRestreplaced, FRestreplaced⟩ := c.def_ 80 (d := dRestreplaced) rfl
  obtain ⟨fdRead__init__, FRead__init__⟩ := c.def_ 81 (d := dRead__init__) rfl
  obtain ⟨fdStatement__init__, FStatement__init__⟩ := c.def_ 82 (d := dStatement__init__) rfl
  obtain ⟨fdLoop__init__, FLoop__init__⟩ := c.def_ 83 (d := dLoop__init__) rfl
  obtain ⟨fdProgram__init__, FProgram__init__⟩ := c.def_ 84 (d := dProgram__init__) rfl
  obtain ⟨fdRewriting__init__, FRewriting__init__⟩ := c.def_ 85 (d := dRewriting__init__) rfl
  obtain ⟨fdRewritingthen, FRewritingthen⟩ := c.def_ 86 (d := dRewritingthen) rfl
  obtain ⟨fdRewritingorigin, FRewritingorigin⟩ := c.def_ 87 (d := dRewritingorigin) rfl
  obtain ⟨fdRewritingplaces, FRewritingplaces⟩ := c.def_ 88 (d := dRewritingplaces) rfl
  have e := hfa.symm.trans (gl "law" (by decide +kernel))
  cases e
  have lt : ∀ x ∈ (["law", "_law_are_loops_right", "_law_are_statements_right", "_law_are_bounds_right", "_law_are_lots_right"] : List Str), (match PySem.W.tabIn K x with | some (_, a) => (K.lookup a).isNone | _ => false) = true := fun x hx => List.all_eq_true.mp (c.fact 15) x hx
  have lp : ∀ q ∈ ([("law", "_law_are_loops_right"), ("law", "_law_are_statements_right"), ("law", "_law_are_bounds_right"), ("law", "_law_are_lots_right"), ("_law_are_loops_right", "_law_are_statements_right")] : List (Str × Str)) ++ ([("_law_are_loops_right", "_law_are_bounds_right"), ("_law_are_loops_right", "_law_are_lots_right"), ("_law_are_statements_right", "_law_are_bounds_right"), ("_law_are_statements_right", "_law_are_lots_right"), ("_law_are_bounds_right", "_law_are_lots_right")] : List (Str × Str)), (match PySem.W.tabIn K q.1, PySem.W.tabIn K q.2 with | some (_, a), some (_, b) => decide (a ≠ b) | _, _ => false) = true := fun q hq => List.all_eq_true.mp (c.fact 16) q hq
  obtain ⟨c1, T1, l1, n1⟩ := tab_at (lt "law" (by decide +kernel))
  obtain ⟨r1, s1⟩ := seenR "law" (by kernel_rfl)
  obtain ⟨h1, t1⟩ := PySem.W.tab_of Tp X s1 l1
  have k1 := code_of (x := "law") (st := s_law) (f := He.ga K "law") X G F_law l1 (gl "law" (by decide +kernel))
  obtain ⟨c2, T2, l2, n2⟩ := tab_at (lt "_law_are_loops_right" (by decide +kernel))
  obtain ⟨r2, s2⟩ := seenR "_law_are_loops_right" (by kernel_rfl)
  obtain ⟨h2, t2⟩ := PySem.W.tab_of Tp X s2 l2
  have k2 := code_of (x := "_law_are_loops_right") (st := s_law_are_loops_right) (f := He.ga K "_law_are_loops_right") X G F__law_are_loops_right l2 (gl "_law_are_loops_right" (by decide +kernel))
  obtain ⟨c3, T3, l3, n3⟩ := tab_at (lt "_law_are_statements_right" (by decide +kernel))
  obtain ⟨r3, s3⟩ := seenR "_law_are_statements_right" (by kernel_rfl)
  obtain ⟨h3, t3⟩ := PySem.W.tab_of Tp X s3 l3
  have k3 := code_of (x := "_law_are_statements_right") (st := s_law_are_statements_right) (f := He.ga K "_law_are_statements_right") X G F__law_are_statements_right l3 (gl "_law_are_statements_right" (by decide +kernel))
  obtain ⟨c4, T4, l4, n4⟩ := tab_at (lt "_law_are_bounds_right" (by decide +kernel))
  obtain ⟨r4, s4⟩ := seenR "_law_are_bounds_right" (by kernel_rfl)
  obtain ⟨h4, t4⟩ := PySem.W.tab_of Tp X s4 l4
  have k4 := code_of (x := "_law_are_bounds_right") (st := s_law_are_bounds_right) (f := He.ga K "_law_are_bounds_right") X G F__law_are_bounds_right l4 (gl "_law_are_bounds_right" (by decide +kernel))
  obtain ⟨c5, T5, l5, n5⟩ := tab_at (lt "_law_are_lots_right" (by decide +kernel))
  obtain ⟨r5, s5⟩ := seenR "_law_are_lots_right" (by kernel_rfl)
  obtain ⟨h5, t5⟩ := PySem.W.tab_of Tp X s5 l5
  have k5 := code_of (x := "_law_are_lots_right") (st := s_law_are_lots_right) (f := He.ga K "_law_are_lots_right") X G F__law_are_lots_right l5 (gl "_law_are_lots_right" (by decide +kernel))
  have d12 : T1 ≠ T2 := tab_ne l1 l2 (lp ("law", "_law_are_loops_right") (by decide +kernel))
  have d13 : T1 ≠ T3 := tab_ne l1 l3 (lp ("law", "_law_are_statements_right") (by decide +kernel))
  have d14 : T1 ≠ T4 := tab_ne l1 l4 (lp ("law", "_law_are_bounds_right") (by decide +kernel))
  have d15 : T1 ≠ T5 := tab_ne l1 l5 (lp ("law", "_law_are_lots_right") (by decide +kernel))
  have d23 : T2 ≠ T3 := tab_ne l2 l3 (lp ("_law_are_loops_right", "_law_are_statements_right") (by decide +kernel))
  have d24 : T2 ≠ T4 := tab_ne l2 l4 (lp ("_law_are_loops_right", "_law_are_bounds_right") (by decide +kernel))
  have d25 : T2 ≠ T5 := tab_ne l2 l5 (lp ("_law_are_loops_right", "_law_are_lots_right") (by decide +kernel))
  have d34 : T3 ≠ T4 := tab_ne l3 l4 (lp ("_law_are_statements_right", "_law_are_bounds_right") (by decide +kernel))
  have d35 : T3 ≠ T5 := tab_ne l3 l5 (lp ("_law_are_statements_right", "_law_are_lots_right") (by decide +kernel))
  have d45 : T4 ≠ T5 := tab_ne l4 l5 (lp ("_law_are_bounds_right", "_law_are_lots_right") (by decide +kernel))
  have RD := ref_def (f := He.ga K "_law_refused") F__law_refused (gl "_law_refused" (by decide +kernel))
  refine ⟨fd_law, [(c1, T1), (c2, T2), (c3, T3), (c4, T4), (c5, T5)], [(T1, "law.<locals>.<lambda>"), (T2, "_law_are_loops_right.<locals>.<lambda>"), (T3, "_law_are_statements_right.<locals>.<lambda>"), (T4, "_law_are_bounds_right.<locals>.<lambda>"), (T5, "_law_are_lots_right.<locals>.<lambda>")], ?_, ?_, ?_, fun s v => FunD.bindsA (ps := ["_law_script"]) F_law (fun _ _ _ _ _ _ us hl => match us, hl with | [_], _ => rfl) s [v] rfl, ?_, fun base _ _ TB => ?_⟩
  · intro p hp
    simp only [List.mem_cons, List.not_mem_nil, or_false] at hp
    rcases hp with rfl | rfl | rfl | rfl | rfl
    · exact t1
    · exact t2
    · exact t3
    · exact t4
    · exact t5
  · intro p hp
    simp only [List.mem_cons, List.not_mem_nil, or_false] at hp
    rcases hp with rfl | rfl | rfl | rfl | rfl
    · exact n1
    · exact n2
    · exact n3
    · exact n4
    · exact n5
  · intro p hp
    simp only [List.mem_cons, List.not_mem_nil, or_false] at hp
    rcases hp with rfl | rfl | rfl | rfl | rfl
    · exact h1
    · exact h2
    · exact h3
    · exact h4
    · exact h5
  · intro H hT p hp
    simp only [List.mem_cons, List.not_mem_nil, or_false] at hp
    rcases hp with rfl | rfl | rfl | rfl | rfl
    · exact LamX.TabS.nil (hT (c1, T1) (by simp))
    · exact LamX.TabS.nil (hT (c2, T2) (by simp))
    · exact LamX.TabS.nil (hT (c3, T3) (by simp))
    · exact LamX.TabS.nil (hT (c4, T4) (by simp))
    · exact LamX.TabS.nil (hT (c5, T5) (by simp))
  have ML1 : MkL base mg [(T1, "law.<locals>.<lambda>"), (T2, "_law_are_loops_right.<locals>.<lambda>"), (T3, "_law_are_statements_right.<locals>.<lambda>"), (T4, "_law_are_bounds_right.<locals>.<lambda>"), (T5, "_law_are_lots_right.<locals>.<lambda>")] "law.<locals>.<lambda>" c1 T1 := ⟨TB (c1, T1) (by simp), by simp, fun p hp e => by
    simp only [List.mem_cons, List.not_mem_nil, or_false] at hp
    rcases hp with rfl | rfl | rfl | rfl | rfl
    · rfl
    · exact absurd e.symm d12
    · exact absurd e.symm d13
    · exact absurd e.symm d14
    · exact absurd e.symm d15⟩
  have ML2 : MkL base mg [(T1, "law.<locals>.<lambda>"), (T2, "_law_are_loops_right.<locals>.<lambda>"), (T3, "_law_are_statements_right.<locals>.<lambda>"), (T4, "_law_are_bounds_right.<locals>.<lambda>"), (T5, "_law_are_lots_right.<locals>.<lambda>")] "_law_are_loops_right.<locals>.<lambda>" c2 T2 := ⟨TB (c2, T2) (by simp), by simp, fun p hp e => by
    simp only [List.mem_cons, List.not_mem_nil, or_false] at hp
    rcases hp with rfl | rfl | rfl | rfl | rfl
    · exact absurd e d12
    · rfl
    · exact absurd e.symm d23
    · exact absurd e.symm d24
    · exact absurd e.symm d25⟩
  have ML3 : MkL base mg [(T1, "law.<locals>.<lambda>"), (T2, "_law_are_loops_right.<locals>.<lambda>"), (T3, "_law_are_statements_right.<locals>.<lambda>"), (T4, "_law_are_bounds_right.<locals>.<lambda>"), (T5, "_law_are_lots_right.<locals>.<lambda>")] "_law_are_statements_right.<locals>.<lambda>" c3 T3 := ⟨TB (c3, T3) (by simp), by simp, fun p hp e => by
    simp only [List.mem_cons, List.not_mem_nil, or_false] at hp
    rcases hp with rfl | rfl | rfl | rfl | rfl
    · exact absurd e d13
    · exact absurd e d23
    · rfl
    · exact absurd e.symm d34
    · exact absurd e.symm d35⟩
  have ML4 : MkL base mg [(T1, "law.<locals>.<lambda>"), (T2, "_law_are_loops_right.<locals>.<lambda>"), (T3, "_law_are_statements_right.<locals>.<lambda>"), (T4, "_law_are_bounds_right.<locals>.<lambda>"), (T5, "_law_are_lots_right.<locals>.<lambda>")] "_law_are_bounds_right.<locals>.<lambda>" c4 T4 := ⟨TB (c4, T4) (by simp), by simp, fun p hp e => by
    simp only [List.mem_cons, List.not_mem_nil, or_false] at hp
    rcases hp with rfl | rfl | rfl | rfl | rfl
    · exact absurd e d14
    · exact absurd e d24
    · exact absurd e d34
    · rfl
    · exact absurd e.symm d45⟩
  have ML5 : MkL base mg [(T1, "law.<locals>.<lambda>"), (T2, "_law_are_loops_right.<locals>.<lambda>"), (T3, "_law_are_statements_right.<locals>.<lambda>"), (T4, "_law_are_bounds_right.<locals>.<lambda>"), (T5, "_law_are_lots_right.<locals>.<lambda>")] "_law_are_lots_right.<locals>.<lambda>" c5 T5 := ⟨TB (c5, T5) (by simp), by simp, fun p hp e => by
    simp only [List.mem_cons, List.not_mem_nil, or_false] at hp
    rcases hp with rfl | rfl | rfl | rfl | rfl
    · exact absurd e d15
    · exact absurd e d25
    · exact absurd e d35
    · exact absurd e d45
    · rfl⟩
  have D_is_integer : Dn P w K mg base 1 "is_integer" ["value"] (spIsInt K) := ⟨_, _, ok_isInt F_is_integer T.toStTx, gl _ (by decide +kernel), F_is_integer.kp, FunD.bindsN (ps := ["value"]) F_is_integer fun _ _ _ _ _ _ us hl => match us, hl with | [_], _ => rfl⟩
  have D_is_integer_from : Dn P w K mg base 2 "is_integer_from" ["value", "low", "high"] spIntFrom := ⟨_, _, ok_intFrom F_is_integer_from D_is_integer, gl _ (by decide +kernel), F_is_integer_from.kp, FunD.bindsN (ps := ["value", "low", "high"]) F_is_integer_from fun _ _ _ _ _ _ us hl => match us, hl with | [_, _, _], _ => rfl⟩
  have DA_is_integer : Dn P w K mg base 1 "is_integer" ["value"] spIsIntA := ⟨_, _, ok_isIntA F_is_integer T.toStTx, gl _ (by decide +kernel), F_is_integer.kp, FunD.bindsN (ps := ["value"]) F_is_integer fun _ _ _ _ _ _ us hl => match us, hl with | [_], _ => rfl⟩
  have DA_from : Dn P w K mg base 2 "is_integer_from" ["value", "low", "high"] spIntFromA := ⟨_, _, ok_intFromA F_is_integer_from DA_is_integer, gl _ (by decide +kernel), F_is_integer_from.kp, FunD.bindsN (ps := ["value", "low", "high"]) F_is_integer_from fun _ _ _ _ _ _ us hl => match us, hl with | [_, _, _], _ => rfl⟩
  have D_is_size : Dn P w K mg base 3 "is_size" ["value"] spIsSize := ⟨_, _, ok_isSize F_is_size T.toLwTx (con0 ("TOP_SIZE", 1000000000000000000000000000000) (by simp)) DA_from, gl _ (by decide +kernel), F_is_size.kp, FunD.bindsN (ps := ["value"]) F_is_size fun _ _ _ _ _ _ us hl => match us, hl with | [_], _ => rfl⟩
  have M : MkS P w K mg base := mk_S T.toStTx FStraight__init__
  have D_straight_like : Dn P w K mg base 3 "straight_like" ["value"] (spLike K) := ⟨_, _, ok_like F_straight_like T.toStTx M, gl _ (by decide +kernel), F_straight_like.kp, FunD.bindsN (ps := ["value"]) F_straight_like fun _ _ _ _ _ _ us hl => match us, hl with | [_], _ => rfl⟩
  have MB : Mx P w K mg base "BadNumber" ["self", "what", "number"] ["what", "number"] := mxBadNumber EB FBadNumber__init__
  have MT : Mx P w K mg base "TooMany" ["self", "what", "many", "limit"] ["what", "many", "limit"] := mxTooMany ET FTooMany__init__
  have MN : Mx P w K mg base "BadName" ["self", "name"] ["name"] := mxBadName EA FBadName__init__
  have MZ : Mx P w K mg base "BadSize" ["self", "n"] ["n"] := mxBadSize EZ FBadSize__init__
  have MNL : Mx P w K mg base "NoLoop" ["self", "loop"] ["loop"] := mxNoLoop EL FNoLoop__init__
  have MNS : Mx P w K mg base "NoStatement" ["self", "loop", "statement"] ["loop", "statement"] := mxNoStatement ES FNoStatement__init__
  have MY : Mx P w K mg base "BadMany" ["self", "many"] ["many"] := mxBadMany EY FBadMany__init__
  have MU : Mx P w K mg base "Unlike" ["self", "loop"] ["loop"] := mxUnlike EU FUnlike__init__
  have MP : MkP P w K mg base := mk_P T.plc M MB D_straight_like FPlace__init__
  have MA : MkA P w K mg base := mk_A T.toAtTx M D_straight_like FAtLeast__init__
  have MR : MkR P w K mg base := mk_R T.toAtTx M MB D_straight_like D_is_integer_from FRest__init__
  have D_place_like : Dn P w K mg base 6 "place_like" ["value"] (spPLike K) := ⟨_, _, ok_pLike F_place_like T.toPrTx MP, gl _ (by decide +kernel), F_place_like.kp, FunD.bindsN (ps := ["value"]) F_place_like fun _ _ _ _ _ _ us hl => match us, hl with | [_], _ => rfl⟩
  have D_is_array_name : Dn P w K mg base 1 "is_array_name" ["value"] spIsName := ⟨_, _, ok_isName F_is_array_name T.toPrTx, gl _ (by decide +kernel), F_is_array_name.kp, FunD.bindsN (ps := ["value"]) F_is_array_name fun _ _ _ _ _ _ us hl => match us, hl with | [_], _ => rfl⟩
  have D_arrays_in : Dn P w K mg base 1 "arrays_in" ["loops"] (spArr K) := ⟨_, _, ok_arr F_arrays_in T.toPrTx, gl _ (by decide +kernel), F_arrays_in.kp, FunD.bindsN (ps := ["loops"]) F_arrays_in fun _ _ _ _ _ _ us hl => match us, hl with | [_], _ => rfl⟩
  have D_check_number : Dx P w K mg base 3 "check_number" ["what", "number", "low", "high"] (spCkN K) := ⟨_, _, ok_ckN F_check_number MB, gl _ (by decide +kernel), F_check_number.kp, FunD.bindsN (ps := ["what", "number", "low", "high"]) F_check_number fun _ _ _ _ _ _ us hl => match us, hl with | [_, _, _, _], _ => rfl⟩
  have D_check_many : Dx P w K mg base 3 "check_many" ["what", "things", "most"] (spCkM K) := ⟨_, _, ok_ckM F_check_many T.toPrTx MT, gl _ (by decide +kernel), F_check_many.kp, FunD.bindsN (ps := ["what", "things", "most"]) F_check_many fun _ _ _ _ _ _ us hl => match us, hl with | [_, _, _], _ => rfl⟩
  have D_check_name : Dx P w K mg base 3 "check_name" ["array"] (spCkA K) := ⟨_, _, ok_ckA F_check_name MN D_is_array_name, gl _ (by decide +kernel), F_check_name.kp, FunD.bindsN (ps := ["array"]) F_check_name fun _ _ _ _ _ _ us hl => match us, hl with | [_], _ => rfl⟩
  have D_check_sum : Dx P w K mg base 4 "check_sum" ["straight"] (spCkS K) := ⟨_, _, ok_ckS F_check_sum T.toPrTx D_check_number, gl _ (by decide +kernel), F_check_sum.kp, FunD.bindsN (ps := ["straight"]) F_check_sum fun _ _ _ _ _ _ us hl => match us, hl with | [_], _ => rfl⟩
  have D_check_place : Dx P w K mg base 5 "check_place" ["place"] (spCkP K) := ⟨_, _, ok_ckP F_check_place T.toPrTx D_check_number D_check_sum, gl _ (by decide +kernel), F_check_place.kp, FunD.bindsN (ps := ["place"]) F_check_place fun _ _ _ _ _ _ us hl => match us, hl with | [_], _ => rfl⟩
  have D_check_range_place : Dx P w K mg base 4 "check_range_place" ["place"] (spCkR K) := ⟨_, _, ok_ckR F_check_range_place T.toPrTx D_check_number, gl _ (by decide +kernel), F_check_range_place.kp, FunD.bindsN (ps := ["place"]) F_check_range_place fun _ _ _ _ _ _ us hl => match us, hl with | [_], _ => rfl⟩
  have MRd : MkRd P w K mg base := mk_Rd FRead__init__ { mK := (ow "Read" (by decide +kernel)).2.1, gC := gl "Read" (by decide +kernel), fn := ok_RdI FRead__init__ T.toPrTx MB D_check_name D_check_number D_place_like D_check_place }
  have MSt : MkSt P w K mg base := mk_St FStatement__init__ { mK := (ow "Statement" (by decide +kernel)).2.1, gC := gl "Statement" (by decide +kernel), fn := ok_StI FStatement__init__ T.toPrTx D_check_many D_check_name D_check_number D_check_sum D_straight_like } fun H => ⟨kwz _ (by decide +kernel) H, kwz _ (by decide +kernel) H⟩
  have MLp : MkLp P w K mg base := mk_Lp FLoop__init__ { mK := (ow "Loop" (by decide +kernel)).2.1, gC := gl "Loop" (by decide +kernel), fn := ok_LpI FLoop__init__ T.toPrTx MB D_check_many D_check_number D_place_like D_check_range_place }
  have MPr : MkPr P w K mg base := ⟨_, _, { mK := (ow "Program" (by decide +kernel)).2.1, gC := gl "Program" (by decide +kernel), fn := ok_PrI FProgram__init__ T.toPrTx D_check_many D_arrays_in }, FProgram__init__.bindsN fun _ _ _ _ _ _ us hl => match us, hl with | [_, _], _ => rfl⟩
  have MRw : MkRw P w K mg base := ⟨_, _, { mK := (ow "Rewriting" (by decide +kernel)).2.1, gC := gl "Rewriting" (by decide +kernel), fn := ok_RwI FRewriting__init__ T }, FRewriting__init__.bindsN fun _ _ _ _ _ _ us hl => match us, hl with | [_, _, _, _], _ => rfl⟩
  have D_replaced_straight : Dn P w K mg base 3 "replaced_straight" ["straight", "factor", "shift"] (spReplW K) := ⟨_, _, ok_repl F_replaced_straight T.toLwTx M, gl _ (by decide +kernel), F_replaced_straight.kp, FunD.bindsN (ps := ["straight", "factor", "shift"]) F_replaced_straight fun _ _ _ _ _ _ us hl => match us, hl with | [_, _, _], _ => rfl⟩
  have HR : HRp P w K mg base := {
    s := ⟨_, ok_SRepl FStraightreplaced T.toLwTx D_replaced_straight, FStraightreplaced.bindsN fun _ _ _ _ _ _ us hl => match us, hl with | [_, _, _], _ => rfl, (me ("Straight", "replaced") (by decide +kernel))⟩
    p := ⟨_, ok_PRepl FPlacereplaced T.toLwTx MP D_replaced_straight, FPlacereplaced.bindsN fun _ _ _ _ _ _ us hl => match us, hl with | [_, _, _], _ => rfl, (me ("Place", "replaced") (by decide +kernel))⟩
    a := ⟨_, ok_ARepl FAtLeastreplaced T.toLwTx MA D_replaced_straight, FAtLeastreplaced.bindsN fun _ _ _ _ _ _ us hl => match us, hl with | [_, _, _], _ => rfl, (me ("AtLeast", "replaced") (by decide +kernel))⟩
    r := ⟨_, ok_RRepl FRestreplaced T.toLwTx MR D_replaced_straight, FRestreplaced.bindsN fun _ _ _ _ _ _ us hl => match us, hl with | [_, _, _], _ => rfl, (me ("Rest", "replaced") (by decide +kernel))⟩ }
  have D_check_size : Dx P w K mg base 4 "check_size" ["n"] (spCkZ K) := ⟨_, _, ok_ckZ F_check_size MZ D_is_size, gl _ (by decide +kernel), F_check_size.kp, FunD.bindsN (ps := ["n"]) F_check_size fun _ _ _ _ _ _ us hl => match us, hl with | [_], _ => rfl⟩
  have D_check_loop : Dx P w K mg base 4 "check_loop" ["program", "loop"] (spCkL K) := ⟨_, _, ok_ckL F_check_loop T.toLwTx MNL DA_from, gl _ (by decide +kernel), F_check_loop.kp, FunD.bindsN (ps := ["program", "loop"]) F_check_loop fun _ _ _ _ _ _ us hl => match us, hl with | [_, _], _ => rfl⟩
  have D_check_statement : Dx P w K mg base 5 "check_statement" ["program", "loop", "statement"] (spCkSt K) := ⟨_, _, ok_ckSt F_check_statement T.toLwTx MNS D_check_loop DA_from, gl _ (by decide +kernel), F_check_statement.kp, FunD.bindsN (ps := ["program", "loop", "statement"]) F_check_statement fun _ _ _ _ _ _ us hl => match us, hl with | [_, _, _], _ => rfl⟩
  have D_check_next_loop : Dx P w K mg base 5 "check_next_loop" ["program", "loop"] (spCkNx K) := ⟨_, _, ok_ckNx F_check_next_loop T.toLwTx MNL D_check_loop, gl _ (by decide +kernel), F_check_next_loop.kp, FunD.bindsN (ps := ["program", "loop"]) F_check_next_loop fun _ _ _ _ _ _ us hl => match us, hl with | [_, _], _ => rfl⟩
  have D_statement_at : Dn P w K mg base 1 "statement_at" ["program", "loop", "statement"] (spStAt K) := ⟨_, _, ok_stAt F_statement_at T.toLwTx, gl _ (by decide +kernel), F_statement_at.kp, FunD.bindsN (ps := ["program", "loop", "statement"]) F_statement_at fun _ _ _ _ _ _ us hl => match us, hl with | [_, _, _], _ => rfl⟩
  have D_with_entries : Dn P w K mg base 1 "with_entries" ["loop", "entries"] (spWiE K) := ⟨_, _, ok_wiE F_with_entries T.toLwTx, gl _ (by decide +kernel), F_with_entries.kp, FunD.bindsN (ps := ["loop", "entries"]) F_with_entries fun _ _ _ _ _ _ us hl => match us, hl with | [_, _], _ => rfl⟩
  have D_entries_of : Dn P w K mg base 1 "entries_of" ["program", "place"] (spEnt K) := ⟨_, _, ok_ent F_entries_of T.toLwTx, gl _ (by decide +kernel), F_entries_of.kp, FunD.bindsN (ps := ["program", "place"]) F_entries_of fun _ _ _ _ _ _ us hl => match us, hl with | [_, _], _ => rfl⟩
  have D_kept_loop : Dn P w K mg base 2 "kept_loop" ["program", "place"] (spKept K) := ⟨_, _, ok_kept F_kept_loop T.toLwTx D_with_entries D_entries_of, gl _ (by decide +kernel), F_kept_loop.kp, FunD.bindsN (ps := ["program", "place"]) F_kept_loop fun _ _ _ _ _ _ us hl => match us, hl with | [_, _], _ => rfl⟩
  have D_made_statement : Dx P w K mg base 9 "made_statement" ["program", "entry"] (spMdS K) := ⟨_, _, ok_mdS F_made_statement T.toLwTx HR MRd MSt D_statement_at, gl _ (by decide +kernel), F_made_statement.kp, FunD.bindsN (ps := ["program", "entry"]) F_made_statement fun _ _ _ _ _ _ us hl => match us, hl with | [_, _], _ => rfl⟩
  have D_rewritten : Dx P w K mg base 10 "rewritten" ["program", "place", "many", "parts"] (spRw K) := ⟨_, _, ok_rw F_rewritten T MRw MLp MPr D_kept_loop D_made_statement, gl _ (by decide +kernel), F_rewritten.kp, FunD.bindsN (ps := ["program", "place", "many", "parts"]) F_rewritten fun _ _ _ _ _ _ us hl => match us, hl with | [_, _, _, _], _ => rfl⟩
  have D_swap_loops : Dx P w K mg base 11 "swap_loops" ["program", "loop"] (spSwL K) := ⟨_, _, ok_swL F_swap_loops T D_check_next_loop D_kept_loop D_rewritten, gl _ (by decide +kernel), F_swap_loops.kp, FunD.bindsN (ps := ["program", "loop"]) F_swap_loops fun _ _ _ _ _ _ us hl => match us, hl with | [_, _], _ => rfl⟩
  have D_swap_statements : Dx P w K mg base 11 "swap_statements" ["program", "loop", "statement"] (spSwS K) := ⟨_, _, ok_swS F_swap_statements T MNS D_check_statement D_entries_of, gl _ (by decide +kernel), F_swap_statements.kp, FunD.bindsN (ps := ["program", "loop", "statement"]) F_swap_statements fun _ _ _ _ _ _ us hl => match us, hl with | [_, _, _], _ => rfl⟩
  have D_turn_loop : Dx P w K mg base 11 "turn_loop" ["program", "loop"] (spTurn K) := ⟨_, _, ok_turnL F_turn_loop T D_check_loop D_kept_loop D_rewritten, gl _ (by decide +kernel), F_turn_loop.kp, FunD.bindsN (ps := ["program", "loop"]) F_turn_loop fun _ _ _ _ _ _ us hl => match us, hl with | [_, _], _ => rfl⟩
  have D_join_loops : Dx P w K mg base 11 "join_loops" ["program", "loop"] (spJoin K) := ⟨_, _, ok_join F_join_loops T MU D_check_next_loop D_entries_of D_with_entries D_rewritten, gl _ (by decide +kernel), F_join_loops.kp, FunD.bindsN (ps := ["program", "loop"]) F_join_loops fun _ _ _ _ _ _ us hl => match us, hl with | [_, _], _ => rfl⟩
  have D_split_loop : Dx P w K mg base 11 "split_loop" ["program", "loop", "statement"] (spSplit K) := ⟨_, _, ok_split F_split_loop T MNS D_check_statement D_entries_of D_with_entries D_rewritten, gl _ (by decide +kernel), F_split_loop.kp, FunD.bindsN (ps := ["program", "loop", "statement"]) F_split_loop fun _ _ _ _ _ _ us hl => match us, hl with | [_, _, _], _ => rfl⟩
  have D_cut_loop : Dx P w K mg base 11 "cut_loop" ["program", "loop", "place"] (spCut K) := ⟨_, _, ok_cut F_cut_loop T D_check_loop D_kept_loop D_rewritten, gl _ (by decide +kernel), F_cut_loop.kp, FunD.bindsN (ps := ["program", "loop", "place"]) F_cut_loop fun _ _ _ _ _ _ us hl => match us, hl with | [_, _, _], _ => rfl⟩
  have D_deal_loop : Dx P w K mg base 11 "deal_loop" ["program", "loop", "many"] (spDeal K) := ⟨_, _, ok_deal F_deal_loop T (con0 ("MOST_DEALT", 4) (by simp)) MY M MR DA_from D_check_loop D_entries_of D_with_entries D_rewritten, gl _ (by decide +kernel), F_deal_loop.kp, FunD.bindsN (ps := ["program", "loop", "many"]) F_deal_loop fun _ _ _ _ _ _ us hl => match us, hl with | [_, _, _], _ => rfl⟩
  have D_unroll_loop : Dx P w K mg base 11 "unroll_loop" ["program", "loop", "many"] (spUnr K) := ⟨_, _, ok_unr F_unroll_loop T (con0 ("MOST_UNROLLED", 16) (by simp)) MY DA_from D_check_loop D_kept_loop D_rewritten, gl _ (by decide +kernel), F_unroll_loop.kp, FunD.bindsN (ps := ["program", "loop", "many"]) F_unroll_loop fun _ _ _ _ _ _ us hl => match us, hl with | [_, _, _], _ => rfl⟩
  have D_no_rewriting : Dn P w K mg base 3 "no_rewriting" ["program"] (spNoRw K) := ⟨_, _, ok_noRw F_no_rewriting T MRw D_entries_of, gl _ (by decide +kernel), F_no_rewriting.kp, FunD.bindsN (ps := ["program"]) F_no_rewriting fun _ _ _ _ _ _ us hl => match us, hl with | [_], _ => rfl⟩
  have OS := om_SEq (P := P) (w := w) (base := base) FStraight__eq__ T.toStTx (me ("Straight", "__eq__") (by decide +kernel))
  have OP := om_PEq (P := P) (w := w) (base := base) FPlace__eq__ T.plc (me ("Place", "__eq__") (by decide +kernel)) OS (by simp [PySem.W.notFirst])
  have D_condition_parts : Dn P w K mg base 1 "condition_parts" ["condition"] (spCParts K) := ⟨_, _, ok_cParts F_condition_parts T UE, gl _ (by decide +kernel), F_condition_parts.kp, FunD.bindsN (ps := ["condition"]) F_condition_parts fun _ _ _ _ _ _ us hl => match us, hl with | [_], _ => rfl⟩
  have D_statements_parts : Dn P w K mg base 3 "statements_parts" ["loop"] (spSParts K) := ⟨_, _, ok_sParts F_statements_parts T D_condition_parts, gl _ (by decide +kernel), F_statements_parts.kp, FunD.bindsN (ps := ["loop"]) F_statements_parts fun _ _ _ _ _ _ us hl => match us, hl with | [_], _ => rfl⟩
  have D_program_parts : Dn P w K mg base 5 "program_parts" ["program"] (spPParts K) := ⟨_, _, ok_pParts F_program_parts T D_statements_parts, gl _ (by decide +kernel), F_program_parts.kp, FunD.bindsN (ps := ["program"]) F_program_parts fun _ _ _ _ _ _ us hl => match us, hl with | [_], _ => rfl⟩
  have D_same_programs : Dn P w K mg base 10 "same_programs" ["one", "other"] (spSameP K) := ⟨_, _, ok_sameP F_same_programs T OS OP D_program_parts, gl _ (by decide +kernel), F_same_programs.kp, FunD.bindsN (ps := ["one", "other"]) F_same_programs fun _ _ _ _ _ _ us hl => match us, hl with | [_, _], _ => rfl⟩
  have D__law_pen : Dn P w K mg base 1 "_law_pen" ["_law_script"] (spPen K) := ⟨_, _, ok_pen F__law_pen T.toLwTx.bt, gl _ (by decide +kernel), F__law_pen.kp, FunD.bindsN (ps := ["_law_script"]) F__law_pen fun _ _ _ _ _ _ us hl => match us, hl with | [_], _ => rfl⟩
  have D__law_draw : Dn P w K mg base 1 "_law_draw" ["_law_pen_here", "_law_many"] spDrawC := ⟨_, _, ok_drawC F__law_draw T.toLwTx.bt, gl _ (by decide +kernel), F__law_draw.kp, FunD.bindsN (ps := ["_law_pen_here", "_law_many"]) F__law_draw fun _ _ _ _ _ _ us hl => match us, hl with | [_, _], _ => rfl⟩
  have D__law_pick : Dn P w K mg base 2 "_law_pick" ["_law_pen_here", "_law_some"] spPick := ⟨_, _, ok_pick F__law_pick T.toLwTx D__law_draw, gl _ (by decide +kernel), F__law_pick.kp, FunD.bindsN (ps := ["_law_pen_here", "_law_some"]) F__law_pick fun _ _ _ _ _ _ us hl => match us, hl with | [_, _], _ => rfl⟩
  have D__law_name : Dn P w K mg base 2 "_law_name" ["_law_pen_here"] spName := ⟨_, _, ok_name F__law_name T.toLwTx D__law_draw, gl _ (by decide +kernel), F__law_name.kp, FunD.bindsN (ps := ["_law_pen_here"]) F__law_name fun _ _ _ _ _ _ us hl => match us, hl with | [_], _ => rfl⟩
  have D__law_names : Dn P w K mg base 3 "_law_names" ["_law_pen_here", "_law_many"] spNames := ⟨_, _, ok_names F__law_names T.toLwTx D__law_name, gl _ (by decide +kernel), F__law_names.kp, FunD.bindsN (ps := ["_law_pen_here", "_law_many"]) F__law_names fun _ _ _ _ _ _ us hl => match us, hl with | [_, _], _ => rfl⟩
  have D__law_sum : Dn P w K mg base 3 "_law_sum" ["_law_row"] (spSum K) := ⟨_, _, ok_lsum F__law_sum T.toLwTx M, gl _ (by decide +kernel), F__law_sum.kp, FunD.bindsN (ps := ["_law_row"]) F__law_sum fun _ _ _ _ _ _ us hl => match us, hl with | [_], _ => rfl⟩
  have D__law_made_guard : Dn P w K mg base 6 "_law_made_guard" ["_law_guard"] (spMGuardX K) := ⟨_, _, ok_mguardX F__law_made_guard T.toLwTx MA MR D__law_sum, gl _ (by decide +kernel), F__law_made_guard.kp, FunD.bindsN (ps := ["_law_guard"]) F__law_made_guard fun _ _ _ _ _ _ us hl => match us, hl with | [_], _ => rfl⟩
  have D__law_made_statement : Dn P w K mg base 9 "_law_made_statement" ["_law_row"] (spMStmX K) := ⟨_, _, ok_mstmX F__law_made_statement T.toLwTx MP MRd MSt D__law_sum D__law_made_guard, gl _ (by decide +kernel), F__law_made_statement.kp, FunD.bindsN (ps := ["_law_row"]) F__law_made_statement fun _ _ _ _ _ _ us hl => match us, hl with | [_], _ => rfl⟩
  have D__law_made_loop : Dn P w K mg base 10 "_law_made_loop" ["_law_row"] (spMLoopX K) := ⟨_, _, ok_mloopX F__law_made_loop T.toLwTx M MP MLp D__law_made_statement, gl _ (by decide +kernel), F__law_made_loop.kp, FunD.bindsN (ps := ["_law_row"]) F__law_made_loop fun _ _ _ _ _ _ us hl => match us, hl with | [_], _ => rfl⟩
  have D__law_made : Dn P w K mg base 11 "_law_made" ["_law_rows"] (spMadeX K) := ⟨_, _, ok_madeX F__law_made T.toLwTx MPr D__law_made_loop, gl _ (by decide +kernel), F__law_made.kp, FunD.bindsN (ps := ["_law_rows"]) F__law_made fun _ _ _ _ _ _ us hl => match us, hl with | [_], _ => rfl⟩
  have D__law_tight_place : Dn P w K mg base 2 "_law_tight_place" ["_law_pen_here"] spTPlace := ⟨_, _, ok_tplace F__law_tight_place T.toLwTx D__law_draw, gl _ (by decide +kernel), F__law_tight_place.kp, FunD.bindsN (ps := ["_law_pen_here"]) F__law_tight_place fun _ _ _ _ _ _ us hl => match us, hl with | [_], _ => rfl⟩
  have D__law_tight_statement : Dn P w K mg base 3 "_law_tight_statement" ["_law_pen_here", "_law_names_here"] spTStm := ⟨_, _, ok_tstm F__law_tight_statement T.toLwTx D__law_draw D__law_pick D__law_tight_place, gl _ (by decide +kernel), F__law_tight_statement.kp, FunD.bindsN (ps := ["_law_pen_here", "_law_names_here"]) F__law_tight_statement fun _ _ _ _ _ _ us hl => match us, hl with | [_, _], _ => rfl⟩
  have D__law_are_loops_right : Dn P w K mg base 16 "_law_are_loops_right" ["_law_program", "_law_many"] (spLoopsR K [(T1, "law.<locals>.<lambda>"), (T2, "_law_are_loops_right.<locals>.<lambda>"), (T3, "_law_are_statements_right.<locals>.<lambda>"), (T4, "_law_are_bounds_right.<locals>.<lambda>"), (T5, "_law_are_lots_right.<locals>.<lambda>")]) := ⟨_, _, ok_loopsR F__law_are_loops_right k2 ML2 RD R T D_swap_loops D_swap_statements D_turn_loop D_join_loops D_split_loop D_cut_loop D_deal_loop D_unroll_loop, gl _ (by decide +kernel), F__law_are_loops_right.kp, FunD.bindsN (ps := ["_law_program", "_law_many"]) F__law_are_loops_right fun _ _ _ _ _ _ us hl => match us, hl with | [_, _], _ => rfl⟩
  have D__law_are_statements_right : Dn P w K mg base 16 "_law_are_statements_right" ["_law_program", "_law_many"] (spStmsR K [(T1, "law.<locals>.<lambda>"), (T2, "_law_are_loops_right.<locals>.<lambda>"), (T3, "_law_are_statements_right.<locals>.<lambda>"), (T4, "_law_are_bounds_right.<locals>.<lambda>"), (T5, "_law_are_lots_right.<locals>.<lambda>")]) := ⟨_, _, ok_stmsR F__law_are_statements_right k3 ML3 RD R T D_swap_statements D_split_loop D_deal_loop D_unroll_loop D_no_rewriting ⟨_, ok_origin FRewritingorigin T D_check_statement, FRewritingorigin.bindsN fun _ _ _ _ _ _ us hl => match us, hl with | [_, _], _ => rfl, (me ("Rewriting", "origin") (by decide +kernel))⟩ ⟨_, ok_places FRewritingplaces T D_check_statement D_check_size, FRewritingplaces.bindsN fun _ _ _ _ _ _ us hl => match us, hl with | [_, _, _], _ => rfl, (me ("Rewriting", "places") (by decide +kernel))⟩, gl _ (by decide +kernel), F__law_are_statements_right.kp, FunD.bindsN (ps := ["_law_program", "_law_many"]) F__law_are_statements_right fun _ _ _ _ _ _ us hl => match us, hl with | [_, _], _ => rfl⟩
  have D__law_are_lots_right : Dn P w K mg base 16 "_law_are_lots_right" ["_law_row"] (spLotsR K [(T1, "law.<locals>.<lambda>"), (T2, "_law_are_loops_right.<locals>.<lambda>"), (T3, "_law_are_statements_right.<locals>.<lambda>"), (T4, "_law_are_bounds_right.<locals>.<lambda>"), (T5, "_law_are_lots_right.<locals>.<lambda>")]) := ⟨_, _, ok_lotsR F__law_are_lots_right k5 ML5 RD R T D__law_made D_deal_loop D_unroll_loop, gl _ (by decide +kernel), F__law_are_lots_right.kp, FunD.bindsN (ps := ["_law_row"]) F__law_are_lots_right fun _ _ _ _ _ _ us hl => match us, hl with | [_], _ => rfl⟩
  have D__law_are_bounds_right : Dn P w K mg base 18 "_law_are_bounds_right" ["_law_row"] (spBoundsR K [(T1, "law.<locals>.<lambda>"), (T2, "_law_are_loops_right.<locals>.<lambda>"), (T3, "_law_are_statements_right.<locals>.<lambda>"), (T4, "_law_are_bounds_right.<locals>.<lambda>"), (T5, "_law_are_lots_right.<locals>.<lambda>")]) := ⟨_, _, ok_boundsR F__law_are_bounds_right k4 ML4 RD R T D__law_made D_join_loops D_split_loop D_cut_loop D_deal_loop D__law_are_lots_right, gl _ (by decide +kernel), F__law_are_bounds_right.kp, FunD.bindsN (ps := ["_law_row"]) F__law_are_bounds_right fun _ _ _ _ _ _ us hl => match us, hl with | [_], _ => rfl⟩
  exact ok_law F_law k1 ML1 RD R T M MP D__law_pen D__law_draw D__law_names D__law_tight_statement D__law_made D__law_are_loops_right D__law_are_statements_right D__law_are_bounds_right D_join_loops D_cut_loop D_no_rewriting (ok_then FRewritingthen T O D_same_programs) (FRewritingthen.bindsN fun _ _ _ _ _ _ us hl => match us, hl with | [_, _], _ => rfl) (me ("Rewriting", "then") (by decide +kernel))
/-- the end: what the head has laid is handed on -/
theorem ends {l : PySem.W.OpenLaw} {m j : Nat} {q : Program} {free : List Str} {A : (Str → Option Value) → Heap → Prop} {B : World → Heap → Prop} {d : DefRec} {arg : Str}
    (e1 : l.most = some m) (e2 : m ≤ sizeLine) (e3 : d.params.defaults = []) (room : Room j callerA)
    (given : ∀ (w : World) (g : Str → Option Value) (f : Addr) (h : Heap), B w h → (∃ lo mean b, Top q lo mean g b h) → g d.name = some (.ref f) → ∃ K : PySem.W.Frag, K.In h ∧ LamX.LawAtS l w K CX0 j m arg g f h) :
    PySem.W.WalkO q free A B l.row.toRowW d [] (fun f vs => PySem.call f vs) := by
  refine Att.attach_callB e1 e3 fun w _ t g b f _ _ _ _ a us is gr y _ _ _ gf ho hi len bits gs => ?_
  have Z := gr.T
  obtain ⟨K, kin, fd, cs, sp, a1, a2, a3, a4, a5, a6⟩ := given w g f _ y ⟨_, _, _, Z⟩ gf
  exact LamX.law_callTs kin Z.g Z.b Z.builtins Z.nolimit gs a1 a2 a3 Z.bmain ho hi (Nat.le_trans len e2) room a6 a4 (fun H z1 z2 => a5 H a is len bits z1 z2) fun H e u z => z
end K49
open PySem PySem.W PySem.Calls PyProof.Rows
theorem PySem.Challenge.cw_loopsize_k49_rewritings_refused_holds : PySem.Challenge.rw_loopsize_k49_rewritings_refused.Holds := by
  w_on; o_law
  refine HandSHeadRun.head_imp (r := OpenLaw.row PySem.Challenge.rw_loopsize_k49_rewritings_refused) (q := view (OpenLaw.row PySem.Challenge.rw_loopsize_k49_rewritings_refused).prog [0, 102, 103, 104, 105, 106]) (H := K49.hk) (ob := K49.ob) (M := 60000) (loose := K49.names) (d := HandSHeadRun.topDef (OpenLaw.row PySem.Challenge.rw_loopsize_k49_rewritings_refused).prog 106) (kwd := []) K49.ob_eq
    K49.run (by kernel_rfl) (by kernel_rfl) (by kernel_rfl) (by rfl) (by first | assumption | decide +kernel) (by decide +kernel) ⟨rfl, rfl, rfl, rfl, rfl, by decide +kernel⟩ ?hw ?hc
  case hw => w_witness2
  case hc =>
    refine K49.ends (l := PySem.Challenge.rw_loopsize_k49_rewritings_refused) (m := 63) (j := 20) (arg := "_law_script") rfl (by decide) (by kernel_rfl) ⟨rfl, by decide, by decide⟩ fun w mg fa h Y Z n => ?_
    obtain ⟨K, KX, c⟩ := Y
    have n2 : mg ("law" : PySem.Str) = some (.ref fa) := by
      have e : (HandSHeadRun.topDef (OpenLaw.row PySem.Challenge.rw_loopsize_k49_rewritings_refused).prog 106).name = ("law" : PySem.Str) := by kernel_rfl
      rw [← e]
      exact n
    obtain ⟨fd, cs, TS, b1, b2, b3, b4, b5, b6⟩ := K49.facts (P := (PySem.Challenge.rw_loopsize_k49_rewritings_refused).prog) (w := w) KX Z n2 c
    exact ⟨K, KX, fd, cs, K49.spLaw K TS, b1, b2, b3, b4, fun H a ns hl _ hT hS => ⟨a, ns, rfl, hS, hl, b5 H hT, fun _ => rfl⟩, b6⟩
