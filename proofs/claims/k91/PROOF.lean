import PyProof.Rows.All
import Wide.All
import OpenK.AllK
import Wide.FinOn
import KE.KExcSuper
import KE.KExcRaise
import PyProof.FString
import PyProof.FString4
import HandS.Base
import HandS.Call
import HandS.Exc
import HandS.ForExc
import HandS.ExcField
import HandS.Small
import KE.KStateDown
import HandS.Defaults
import HandS.Head0
import HandS.Head1
import HandS.Head2
import HandS.HeadEnd
import HandS.HeadHook1
import HandS.HeadHook2
import HandS.ForMost
import HandS.Wide
import HandS.WordsExc
import HandS.CallSlots
import HandS.Codes
import HandS.IsInst
import HandS.FStr
import HandS.StrMore
import HandS.ExcIs
import HandS.TryOnly
import HandS.Slots
import HandS.ClsMeth
import HandS.Conv
import HandS.Strs
import HandS.ExcValue
import KE.KExcIs
import PyProof.StrOps2
import PySem.Challenge.RW_latticewish_k91_errors
set_option Elab.async false
set_option linter.all false
set_option maxRecDepth 100000
set_option maxHeartbeats 4000000
namespace ExS
open PySem PySem.W PySem.Calls PyProof.Rows PySem.Spec Builtin Builtin.ObjectAttr
/-- what the written part says of an own exception class at C whose own __init__ (at fI) begins with super().__init__(..) -/
structure ESup (prog : Program) (K : Frag) (C fI : Addr) (B newId initId : String) (bmB : List Value) (qual : Str) (params : Arguments) (body : List Stmt) (scope : Scope) : Prop where
  FB : ExcBaseFacts B newId initId bmB
  SF : StoreFacts B bmB "object.__setattr__" "object"
  KF : KxsFacts B initId
  ei : excInitIn K C bmB newId = true
  eo : excOver K C bmB = true
  hi : findIn K (.ref C) "__init__" = some (some (.ref fI))
  ff : isFn K (.ref fI) = true
  fn : ∃ oc od kV doc pm an ct osl cc cda ccl cdd vs ccs file tf cl cld csl, K.lookup fI = some ⟨oc, od, .func (fnX "__init__" qual params body scope [("__class__", cc)] .none kV doc pm an (.ref cda) ct), osl⟩ ∧ codeIn K (.ref cda) qual = true ∧
    K.lookup cda = some ⟨ccl, cdd, .fields vs, ccs⟩ ∧ vs[2]? = some (.str file tf) ∧ ((prog.main.file : Str) == file) = true ∧ K.lookup cc = some ⟨cl, cld, .cell (some (.ref C)), csl⟩
  mr : mroIn K C (.ref C) = some true
  si : ks_superIn K C C "__init__" = some (some (.builtin initId))
  sB : subIn K (.ref C) (.type B) = some true
  sa : findIn K (.ref C) "__setattr__" = some (some (.builtin "object.__setattr__"))
  th : nsIn K cStatics "thirdparty.any" = some none
/-- the names that stand in every heap here -/
structure BltOk (h : Heap) (prog : Program) : Prop where
  g : ∃ mg, h.Ns mainGlobals mg ∧ mg "super" = none
  b : ∃ mb, h.Ns builtinsNs mb ∧ mb "super" = some (.type "super")
  top : (prog.main.scope.names.lookup ("super" : Str)).isSome = false
theorem BltOk.keeps {h h' : Heap} {prog : Program} (b : BltOk h prog) (k : ∀ a o, h.get? a = some o → h'.get? a = some o) : BltOk h' prog := by
  obtain ⟨⟨mg, h1, h2⟩, ⟨mb, h3, h4⟩, h5⟩ := b
  exact ⟨⟨mg, h1.keeps k, h2⟩, ⟨mb, h3.keeps k, h4⟩, h5⟩
section
variable {prog : Program} {w : World} {A : Around} {E : Value → Shared → Prop} {R : Result → Shared → Prop} {s : Shared} {K : Frag} {C fI : Addr} {B newId initId : String} {bmB : List Value} {qual : Str} {params : Arguments} {body : List Stmt} {scope : Scope}
/-- BaseException.__init__ through the wrapper -/
theorem call_mw {h : Heap} {g : Array GenState} {d : Drawn} {t : Nat} {os : OsState} {u x t0 : Addr} {rest : List Value} {Q : Value → Shared → Prop} (T : ESup prog K C fI B newId initId bmB qual params body scope) (X : K.In h)
    (hx : h.get? x = some (PX.excO C t0)) (hu : h.get? u = some (kxs_mw initId x)) (hz : rest.length ≤ sizeLine)
    (hq : ∀ h' t1, (∀ b o, b ≠ x → h.get? b = some o → h'.get? b = some o) → h'.get? x = some (PX.excO C t1) → Q .none ⟨h', g, d, t, os⟩) :
    wpAny (model prog w) A (call (.ref u) rest) Q E ⟨h, g, d, t, os⟩ := by
  obtain ⟨nm, N', qn, bs, bm, hdct, sn, sub, ab, col, dd, k0, k1, k2, k3, k5, hC, hT⟩ := excInit_of X T.ei
  refine wpAny_call (codeAny_of_tree ?_)
  show wpAny _ A.in1 (callAny (.ref u) ⟨rest, []⟩) _ _ _
  simp only [callAny]
  refine wpAny_bind (wpAny_load hu ?_)
  simp only [kxs_mw, show (Value.type "method-wrapper" == Value.type "method" || Value.type "method-wrapper" == Value.type "builtin_function_or_method" || Value.type "method-wrapper" == Value.type "method-wrapper") = true by decide, if_true]
  refine KFB.if_so (by decide) ?_
  refine wpAny_bind (check_bound_init T.FB.toExcCallFacts hC hx rfl ?_)
  refine wpAny_bind (wpAny_pure (wpAny_pure ?_))
  refine ⟨plainId_quiet T.FB.init.plain _, codeAny_builtin T.FB.initEntry ?_⟩
  exact exc_init_tree (cls := .ref C) (t0 := t0) (dv := none) (c2 := .none) (c3 := .none) (b4 := .bool false) hx hz fun h' k he ht => hq h' _ k he
/-- the first store: the dict is made -/
theorem store_first {h : Heap} {g : Array GenState} {d : Drawn} {t : Nat} {os : OsState} {x t0 : Addr} {f : Str} {v : Value} {Q : Unit → Shared → Prop} (T : ESup prog K C fI B newId initId bmB qual params body scope) (X : K.In h)
    (hh : hasDictIn K C = true) (hno : findIn K (.ref C) f = some none) (hx : h.get? x = some (PX.excO C t0))
    (hq : ∀ h' tk dx, (∀ b o, b ≠ x → h.get? b = some o → h'.get? b = some o) → h.objs.size ≤ dx → dx ≠ x → h'.get? x = some { cls := .ref C, dict := some dx, data := .fields #[.ref t0, .none, .none, .none, .bool false, .none] } →
      h'.Ns1 dx (fun y => if y = f then some v else none) → Q () ⟨h', g, d, tk, os⟩) :
    wpAny (model prog w) A (setAttr (.ref x) f v) Q E ⟨h, g, d, t, os⟩ := by
  refine set_plain X (ox := PX.excO C t0) (od := none) ⟨hx, rfl, rfl, trivial⟩ T.sa ?_
  have I : InstAt h x (PX.excO C t0) C none := ⟨hx, rfl, rfl, trivial⟩
  refine osa_openX T.SF X I T.eo (r := none) (by unfold takerIn; rw [hno]; rfl) fun b => ?_
  obtain ⟨cd, hcd, hd⟩ := any_some hh
  have hxs : x ≠ h.objs.size := Nat.ne_of_lt (Heap.lt_size hx)
  have hcls : Looks (model prog w) h (classData C) cd := looks_clsIn X hcd
  obtain ⟨nm, bs, mro, ns, qn, hd', sn, sb, ab, col, del⟩ := cd
  dsimp only at hd
  subst hd
  show wpAny _ _ (storeInOwnDict (.ref x) (.ref C) (.str f _) f v b) _ _ _
  unfold storeInOwnDict ownDictForStores
  repeat (first | with_reducible refine PX.store_in_new ?_ ?_ | with_reducible refine wpAny_loadPart_at hx ?_ | with_reducible refine hcls.at ?_ | wp_step)
  · exact ⟨_, #[], _, (Heap.get?_update_ne _ _ _ _ hxs.symm).trans (Heap.get?_push_at rfl rfl), rfl, fun e he => absurd he (by simp), fun _ => rfl⟩
  · intro h' tk' hn' hs
    have hx1 : (h.push { cls := .type "dict", data := .dict #[] }).get? x = some (PX.excO C t0) := Heap.get?_push_of_some _ hx
    refine hq h' tk' h.objs.size (fun b o hb ho => ?_) (Nat.le_refl _) hxs.symm ?_ hn'
    · exact (hs.2 b (Nat.ne_of_lt (Heap.lt_size ho))).trans ((Heap.get?_update_ne _ _ _ _ hb).trans (Heap.get?_push_of_some _ ho))
    · exact (hs.2 x hxs).trans (Heap.get?_update_self _ hx1 rfl)
end
end ExS

set_option maxHeartbeats 4000000
namespace ExS
open PySem PySem.W PySem.Calls PyProof.Rows PySem.Spec Builtin Builtin.ObjectAttr
section
variable {prog : Program} {w : World} {A : Around} {E : Value → Shared → Prop} {R : Result → Shared → Prop} {s : Shared} {K : Frag} {C fI : Addr} {B newId initId : String} {bmB : List Value} {qual : Str} {params : Arguments} {body : List Stmt} {scope : Scope}
/-- the statement super().__init__(arg) -/
theorem super_stmt {arg : Expr} {p0 p1 p2 p3 p4 : Pos} {L cc cda x t0 : Addr} {m : Str → Option Value} {ar : Arg} {pl : Sem Bool} {Q : Flow → Shared → Prop} (T : ESup prog K C fI B newId initId bmB qual params body scope) (X : K.In s.heap) (bl : BltOk s.heap prog)
    (hk : scope.kind = .function) (hks : scope.names.lookup ("super" : Str) = some .globalImplicit) (hkc : scope.names.lookup ("__class__" : Str) = some .free) (hka : scope.names.lookup ar.arg = some .local)
    (hp : (params.posonlyargs ++ params.args).head? = some ar) (hn : s.heap.Ns L m) (hm : m ar.arg = some (.ref x)) (hx : s.heap.get? x = some (PX.excO C t0))
    {oc : Value} {od : Option Addr} {kV doc pm ct : Value} {an : Option Addr} {osl : Array (Option Value)} {ccl : Value} {cdd : Option Addr} {vs : Array Value} {ccs : Array (Option Value)} {file : Str} {tf : Tok} {cl : Value} {cld : Option Addr} {csl : Array (Option Value)}
    (hf : K.lookup fI = some ⟨oc, od, .func (fnX "__init__" qual params body scope [("__class__", cc)] .none kV doc pm an (.ref cda) ct), osl⟩)
    (hcode : K.lookup cda = some ⟨ccl, cdd, .fields vs, ccs⟩) (hvs : vs[2]? = some (.str file tf)) (hfile : ((prog.main.file : Str) == file) = true) (hcell : K.lookup cc = some ⟨cl, cld, .cell (some (.ref C)), csl⟩)
    (ha : ∀ s' : Shared, (∀ b o, s.heap.get? b = some o → s'.heap.get? b = some o) → wpAny (model prog w) A (eval arg (ksEnv qual scope L fI (.ref cda) cc)) (fun _ s'' => ∃ tk, s'' = { s' with toks := tk }) E s')
    (hq : ∀ h' tk t1, (∀ b o, b ≠ x → s.heap.get? b = some o → h'.get? b = some o) → h'.get? x = some (PX.excO C t1) → Q .next { s with heap := h', toks := tk })
    (he : starEach (arg :: []) (ksEnv qual scope L fI (.ref cda) cc) = (false, eval arg (ksEnv qual scope L fI (.ref cda) cc)) :: starEach [] (ksEnv qual scope L fI (.ref cda) cc) := by rfl)
    (hee : eval (.Call (.Attribute (.Call (.Name "super" p0) [] [] p1) "__init__" p2) [arg] [] p3) (ksEnv qual scope L fI (.ref cda) cc) = (do
      let ov ← attributeBase (.Call (.Name "super" p0) [] [] p1) "__init__" (ksEnv qual scope L fI (.ref cda) cc) (eval (.Call (.Name "super" p0) [] [] p1) (ksEnv qual scope L fI (.ref cda) cc))
      standAt p2.atName
      let (f, first) ← holding [ov] (getMethod ov "__init__" pl)
      callWith p3 f first (backTo p3 (starEach [arg] (ksEnv qual scope L fI (.ref cda) cc))) []) := by rfl)
    (hi : interactive (ksEnv qual scope L fI (.ref cda) cc) = false := by rfl) (hs : swapsWith (.Call (.Attribute (.Call (.Name "super" p0) [] [] p1) "__init__" p2) [arg] [] p3) none p4.line (ksEnv qual scope L fI (.ref cda) cc) = pure false := by rfl) :
    _root_.PySem.wpAt (model prog w) A (.func body (ksEnv qual scope L fI (.ref cda) cc)) (exec (.Expr (.Call (.Attribute (.Call (.Name "super" p0) [] [] p1) "__init__" p2) [arg] [] p3) p4) (ksEnv qual scope L fI (.ref cda) cc)) Q E s := by
  obtain ⟨hC1, hC2⟩ : (∃ oD, s.heap.get? C = some oD ∧ ∃ cd, oD.data = .cls cd) ∧ ∃ cd, clsIn K C = some cd := by
    have z := T.si
    unfold ks_superIn at z
    cases hc : clsIn K C with
    | none => rw [hc] at z; cases z
    | some cd =>
      refine ⟨?_, cd, rfl⟩
      unfold clsIn at hc
      split at hc
      · rename_i c d cd' sl ho
        exact ⟨_, X _ _ ho, _, rfl⟩
      · cases hc
  obtain ⟨oD, hD1, cdD, hD2⟩ := hC1
  obtain ⟨cd, hcd⟩ := hC2
  have si := T.si
  unfold ks_superIn at si
  rw [hcd] at si
  obtain ⟨⟨mg, hg1, hg2⟩, ⟨mb, hb1, hb2⟩, htop⟩ := bl
  have I0 : InstAt s.heap x (PX.excO C t0) C none := ⟨hx, rfl, rfl, trivial⟩
  have hxC : x ≠ C := ks_ne X I0 hcd
  refine ks_wpAt_Expr_any (ks_wpAt_MethodCall (pl := pl) ?_ hee) hi hs
  refine ks_wpAt_super_base (env := ksEnv qual scope L fI (.ref cda) cc) hks hkc (by decide +kernel) rfl (X _ _ hf) rfl hp rfl (X _ _ hcode) rfl hvs hfile htop ?_
  refine ks_loadName_global hk hks (loadGlobal_builtin (env := ksEnv qual scope L fI (.ref cda) cc) hg1 hg2 hb1 hb2 ⟨rfl, ?_⟩)
  refine wpAny_loadName_free hk hkc rfl ⟨_, X _ _ hcell, rfl⟩ ?_
  refine wpAny_loadName_local hk hka hn hm ?_
  refine ks_wpAny_isType_cls hD1 hD2 ⟨rfl, ?_⟩
  obtain ⟨hh, g, d, t, os⟩ := s
  refine ks_wpAny_call_super hD1 hD2 hx rfl (fun c e => by cases e) (looks_mroIn X T.mr) (fun h1 e1 k1 => ?_)
  have X1 : K.In h1 := X.keeps k1
  have hx1 := k1 _ _ hx
  have I1 : InstAt h1 x (PX.excO C t0) C none := ⟨hx1, rfl, rfl, trivial⟩
  refine kxs_getMethod (l₀ := cd.mro) T.KF e1 (looks_opaque X1 T.th) (fun A Q E s k q => wpAny_bind ((looks_clsIn X1 hcd) A _ E s k (wpAny_pure q))) rfl X1 si (I1.type.andThen (looks_subIn X1 T.sB)) hxC (by decide +kernel) ?_
  have k2 : ∀ b o, hh.get? b = some o → (h1.push (kxs_mw initId x)).get? b = some o := fun b o e => Heap.get?_push_of_some _ (k1 b o e)
  have hu : (h1.push (kxs_mw initId x)).get? h1.objs.size = some (kxs_mw initId x) := Heap.get?_push_at rfl rfl
  show wpAny _ _ (callWith p3 (.ref h1.objs.size) [] (backTo p3 (starEach (arg :: []) (ksEnv qual scope L fI (.ref cda) cc))) []) _ _ _
  rw [he]
  refine kxs_callWith (i := initId) (x := x) rfl ?_
  refine evalArgs_plain ?_
  refine Calls.spliced_cons (wpAny_mono (ha ⟨h1.push (kxs_mw initId x), g, d, t + 1, os⟩ k2) (fun v s2 hv => ?_) fun _ _ z => z)
  obtain ⟨tk, rfl⟩ := hv
  refine Calls.spliced_nil ?_
  refine ⟨hu, ?_⟩
  refine call_mw T (X.keeps k2) (k2 _ _ hx) hu (by rw [sizeLine_eq]; show 1 ≤ 16777216; decide) fun h' t1 k' hx' => ?_
  exact hq h' _ t1 (fun b o hb e => k' b o hb (k2 b o e)) hx'
end
end ExS

set_option maxHeartbeats 4000000
namespace ExS
open PySem PySem.W PySem.Calls PyProof.Rows PySem.Spec Builtin Builtin.ObjectAttr
abbrev a0 (p1 : Pos) : Arguments := { posonlyargs := [], args := [{ arg := "self", annotation := none, pos := p1 }], vararg := none, kwonlyargs := [], kw_defaults := [], kwarg := none, defaults := [] }
abbrev a1 (f : Str) (p1 p2 : Pos) : Arguments := { posonlyargs := [], args := [{ arg := "self", annotation := none, pos := p1 }, { arg := f, annotation := none, pos := p2 }], vararg := none, kwonlyargs := [], kw_defaults := [], kwarg := none, defaults := [] }
abbrev supSt (arg : Expr) (p0 p1 p2 p3 p4 : Pos) : Stmt := .Expr (.Call (.Attribute (.Call (.Name "super" p0) [] [] p1) "__init__" p2) [arg] [] p3) p4
abbrev b0 (arg : Expr) (p0 p1 p2 p3 p4 : Pos) : List Stmt := [supSt arg p0 p1 p2 p3 p4]
abbrev b1 (arg : Expr) (f : Str) (p0 p1 p2 p3 p4 q1 q2 q3 q4 : Pos) : List Stmt := [supSt arg p0 p1 p2 p3 p4, .Assign [.Attribute (.Name "self" q1) f q2] (.Name f q3) q4]
abbrev s0 : Scope := { kind := .function, names := [(PySem.Str.ofString "self", .local), (PySem.Str.ofString "__class__", .free), (PySem.Str.ofString "super", .globalImplicit)], isGenerator := false, isCoroutine := false, more := [] }
abbrev s1 (f : Str) : Scope := { kind := .function, names := [(PySem.Str.ofString "self", .local), (f, .local), (PySem.Str.ofString "__class__", .free), (PySem.Str.ofString "super", .globalImplicit)], isGenerator := false, isCoroutine := false, more := [] }
/-- the argument of super().__init__ is a plain expression -/
structure ArgOk (arg : Expr) (p0 p1 p2 p3 p4 : Pos) : Prop where
  he : ∀ env : Env, starEach (arg :: []) env = (false, eval arg env) :: starEach [] env
  hee : ∃ plf : Env → Sem Bool, ∀ env : Env, eval (.Call (.Attribute (.Call (.Name "super" p0) [] [] p1) "__init__" p2) [arg] [] p3) env = (do
      let ov ← attributeBase (.Call (.Name "super" p0) [] [] p1) "__init__" env (eval (.Call (.Name "super" p0) [] [] p1) env)
      standAt p2.atName
      let (f, first) ← holding [ov] (getMethod ov "__init__" (plf env))
      callWith p3 f first (backTo p3 (starEach [arg] env)) [])
  hs : ∀ env : Env, swapsWith (.Call (.Attribute (.Call (.Name "super" p0) [] [] p1) "__init__" p2) [arg] [] p3) none p4.line env = pure false
section
variable {prog : Program} {w : World} {A : Around} {R : Result → Shared → Prop} {s : Shared} {K : Frag} {C fI : Addr} {B newId initId : String} {bmB : List Value} {qual : Str}
theorem made0 {arg : Expr} {p1 p0 q1 q2 q3 q4 : Pos} (O : ArgOk arg p0 q1 q2 q3 q4) (T : ESup prog K C fI B newId initId bmB qual (a0 p1) (b0 arg p0 q1 q2 q3 q4) s0) (X : K.In s.heap) (bl : BltOk s.heap prog) (hlim : s.heap.NoLimit) (hroom : A.depth + 1 < recursionLimit)
    (ha : ∀ (A' : Around) (E' : Value → Shared → Prop) (s' : Shared) (L cda cc : Addr), wpAny (model prog w) A' (eval arg (ksEnv qual s0 L fI (.ref cda) cc)) (fun _ s'' => ∃ tk, s'' = { s' with toks := tk }) E' s')
    (hq : ∀ h' tk e t1, (∀ b o, s.heap.get? b = some o → h'.get? b = some o) → s.heap.objs.size ≤ e → h'.get? e = some (PX.excO C t1) → R (.ok (.ret (.ref e))) { s with heap := h', toks := tk }) :
    codeAny (model prog w) A (.call (.ref C) ⟨[], []⟩) R s := by
  obtain ⟨nm, N', qn, bs, bm, hdct, sn, sub, ab, col, dd, k0, k1, k2, k3, k5, hC, hT⟩ := excInit_of X T.ei
  obtain ⟨oI, hoI, hcI⟩ : ∃ oI, s.heap.get? fI = some oI ∧ oI.cls = .type "function" := by
    obtain ⟨o, ho, hc⟩ := Option.map_eq_some_iff.mp (show (K.lookup fI).map (·.cls) = some (.type "function") from beq_iff_eq.mp T.ff)
    exact ⟨o, X _ _ ho, hc⟩
  obtain ⟨oc, od, kV, doc, pm, an, ct, osl, cc, cda, ccl, cdd, vs, ccs, file, tf, cl, cld, csl, hf, hcd, hcode, hvs, hfile, hcell⟩ := T.fn
  obtain ⟨plf, plh⟩ := O.hee
  obtain ⟨hp, g, d, tk, os⟩ := s
  refine PX.call_own T.FB hT hC (looks_findIn X T.hi) (fun self => exc_bind hoI hcI self) (by rw [sizeLine_eq]; show 0 ≤ 16777216; decide) ?_
  have kk : ∀ b o, hp.get? b = some o → ((hp.push (kdv_tup [])).push (PX.excO C hp.objs.size)).get? b = some o := fun b o e => Heap.get?_push_of_some _ (Heap.get?_push_of_some _ e)
  have hx : ((hp.push (kdv_tup [])).push (PX.excO C hp.objs.size)).get? (hp.objs.size + 1) = some (PX.excO C hp.objs.size) := by heap_get
  generalize ((hp.push (kdv_tup [])).push (PX.excO C hp.objs.size)) = h1 at kk hx
  have X1 : K.In h1 := X.keeps kk
  refine ks_codeAny_call_defAt (fd := fnX "__init__" qual (a0 p1) (b0 arg p0 q1 q2 q3 q4) s0 [("__class__", cc)] .none kV doc pm an (.ref cda) ct) (body := b0 arg p0 q1 q2 q3 q4) (binds := [("self", .ref (hp.objs.size + 1))]) ?_ (X1 _ _ hf) rfl (hlim.keeps kk) (codeRec_of X1 hcd) rfl (BindsTo.of_eq rfl) (fun x hx => (by decide : ∀ x ∈ s0.names, x.2 ≠ .cell) x hx) (by intro x hx; cases hx with | head => rfl | tail _ h => cases h) (fun h2 hns hk2 => ?_)
  · show A.depth + 1 < recursionLimit
    exact hroom
  · refine ks_wpAt_execs_cons ?_
    have k12 : ∀ b o, hp.get? b = some o → h2.get? b = some o := fun b o e => hk2 b o (kk b o e)
    refine super_stmt (s := ⟨h2, g, d, _, os⟩) (ar := { arg := "self", annotation := none, pos := p1 }) T (X1.keeps hk2) (bl.keeps k12) rfl rfl rfl rfl rfl hns rfl (hk2 _ _ hx) hf hcode hvs hfile hcell (fun s' _ => ha _ _ s' _ _ _) (fun h' tk2 t1 k' hx' => ?_) (O.he _) (plh _) rfl (O.hs _)
    refine wpAt_of_wpAny (wpAny_execs_nil ?_)
    refine ⟨rfl, ?_⟩
    exact hq h' tk2 _ t1 (fun b o e => k' b o (Nat.ne_of_lt (Nat.lt_succ_of_lt (Heap.lt_size e))) (k12 b o e)) (Nat.le_succ _) hx'
theorem made1 {arg : Expr} {f : Str} {p1 p2 p0 q1 q2 q3 q4 r1 r2 r3 r4 : Pos} {v : Value} (O : ArgOk arg p0 q1 q2 q3 q4) (T : ESup prog K C fI B newId initId bmB qual (a1 f p1 p2) (b1 arg f p0 q1 q2 q3 q4 r1 r2 r3 r4) (s1 f)) (hh : hasDictIn K C = true) (hno : findIn K (.ref C) f = some none) (X : K.In s.heap) (bl : BltOk s.heap prog) (hlim : s.heap.NoLimit) (hroom : A.depth + 1 < recursionLimit)
    (hf1 : ¬ f = "self") (hf2 : ¬ f = "__class__") (hf3 : ¬ f = "super") (hf4 : (f == ("__debug__" : Str)) = false)
    (hbd : ∀ (kV doc pm ct : Value) (an : Option Addr) (cc cda : Addr) (u u' : Value), bindArgs (fnX "__init__" qual (a1 f p1 p2) (b1 arg f p0 q1 q2 q3 q4 r1 r2 r3 r4) (s1 f) [("__class__", cc)] .none kV doc pm an (.ref cda) ct) ⟨[u, u'], []⟩ = pure ([(("self" : Str), u), (f, u')] : List (Str × Value)))
    (ha : ∀ (A' : Around) (E' : Value → Shared → Prop) (s' : Shared) (L cda cc : Addr) (m : Str → Option Value), s'.heap.Ns L m → m f = some v → wpAny (model prog w) A' (eval arg (ksEnv qual (s1 f) L fI (.ref cda) cc)) (fun _ s'' => ∃ tk, s'' = { s' with toks := tk }) E' s')
    (hq : ∀ h' tk e t1 dx, (∀ b o, s.heap.get? b = some o → h'.get? b = some o) → s.heap.objs.size ≤ e → s.heap.objs.size ≤ dx → dx ≠ e → h'.get? e = some { cls := .ref C, dict := some dx, data := .fields #[.ref t1, .none, .none, .none, .bool false, .none] } →
      h'.Ns1 dx (fun y => if y = f then some v else none) → R (.ok (.ret (.ref e))) { s with heap := h', toks := tk }) :
    codeAny (model prog w) A (.call (.ref C) ⟨[v], []⟩) R s := by
  obtain ⟨nm, N', qn, bs, bm, hdct, sn, sub, ab, col, dd, k0, k1, k2, k3, k5, hC, hT⟩ := excInit_of X T.ei
  obtain ⟨oI, hoI, hcI⟩ : ∃ oI, s.heap.get? fI = some oI ∧ oI.cls = .type "function" := by
    obtain ⟨o, ho, hc⟩ := Option.map_eq_some_iff.mp (show (K.lookup fI).map (·.cls) = some (.type "function") from beq_iff_eq.mp T.ff)
    exact ⟨o, X _ _ ho, hc⟩
  obtain ⟨oc, od, kV, doc, pm, an, ct, osl, cc, cda, ccl, cdd, vs, ccs, file, tf, cl, cld, csl, hf, hcd, hcode, hvs, hfile, hcell⟩ := T.fn
  have lf : (s1 f).names.lookup f = some .local := by
    show List.lookup f [(PySem.Str.ofString "self", NameKind.local), (f, .local), (PySem.Str.ofString "__class__", .free), (PySem.Str.ofString "super", .globalImplicit)] = _
    simp [List.lookup, show (f == ("self" : Str)) = false by simpa using hf1]
  have lc : (s1 f).names.lookup ("__class__" : Str) = some .free := by
    have e1 : (("__class__" : Str) == f) = false := by simpa using (fun z => hf2 z.symm)
    show List.lookup ("__class__" : Str) [(PySem.Str.ofString "self", NameKind.local), (f, .local), (PySem.Str.ofString "__class__", .free), (PySem.Str.ofString "super", .globalImplicit)] = _
    simp [List.lookup, e1, show (("__class__" : Str) == ("self" : Str)) = false by decide +kernel]
  have ls : (s1 f).names.lookup ("super" : Str) = some .globalImplicit := by
    have e1 : (("super" : Str) == f) = false := by simpa using (fun z => hf3 z.symm)
    show List.lookup ("super" : Str) [(PySem.Str.ofString "self", NameKind.local), (f, .local), (PySem.Str.ofString "__class__", .free), (PySem.Str.ofString "super", .globalImplicit)] = _
    simp [List.lookup, e1, show (("super" : Str) == ("self" : Str)) = false by decide +kernel, show (("super" : Str) == ("__class__" : Str)) = false by decide +kernel]
  obtain ⟨plf, plh⟩ := O.hee
  obtain ⟨hp, g, d, tk, os⟩ := s
  refine PX.call_own T.FB hT hC (looks_findIn X T.hi) (fun self => exc_bind hoI hcI self) (by rw [sizeLine_eq]; show 1 ≤ 16777216; decide) ?_
  have kk : ∀ b o, hp.get? b = some o → ((hp.push (kdv_tup [v])).push (PX.excO C hp.objs.size)).get? b = some o := fun b o e => Heap.get?_push_of_some _ (Heap.get?_push_of_some _ e)
  have hx : ((hp.push (kdv_tup [v])).push (PX.excO C hp.objs.size)).get? (hp.objs.size + 1) = some (PX.excO C hp.objs.size) := by heap_get
  have hz : ((hp.push (kdv_tup [v])).push (PX.excO C hp.objs.size)).objs.size = hp.objs.size + 2 := by rw [Heap.size_push, Heap.size_push]
  generalize ((hp.push (kdv_tup [v])).push (PX.excO C hp.objs.size)) = h1 at kk hx hz
  have X1 : K.In h1 := X.keeps kk
  have hxself : (("self" : Str) == f) = false := by simpa using (fun z => hf1 z.symm)
  refine ks_codeAny_call_defAt (fd := fnX "__init__" qual (a1 f p1 p2) (b1 arg f p0 q1 q2 q3 q4 r1 r2 r3 r4) (s1 f) [("__class__", cc)] .none kV doc pm an (.ref cda) ct) (body := b1 arg f p0 q1 q2 q3 q4 r1 r2 r3 r4) (binds := [("self", .ref (hp.objs.size + 1)), (f, v)]) ?_ (X1 _ _ hf) rfl (hlim.keeps kk) (codeRec_of X1 hcd) rfl (BindsTo.of_eq ?_) (fun y hy => ?_) (fun y hy => ?_) (fun h2 hns hk2 => ?_)
  · show A.depth + 1 < recursionLimit
    exact hroom
  · exact hbd _ _ _ _ _ _ _ _ _
  · cases hy with
    | head => intro z; cases z
    | tail _ hy => cases hy with
      | head => intro z; cases z
      | tail _ hy => cases hy with
        | head => intro z; cases z
        | tail _ hy => cases hy with
          | head => intro z; cases z
          | tail _ hy => cases hy
  · cases hy with
    | head => rfl
    | tail _ hy => cases hy with
      | head => exact lf
      | tail _ hy => cases hy
  · refine ks_wpAt_execs_cons ?_
    have k12 : ∀ b o, hp.get? b = some o → h2.get? b = some o := fun b o e => hk2 b o (kk b o e)
    have mS : ([("self", Value.ref (hp.objs.size + 1)), (f, v)] : List (Str × Value)).reverse.lookup ("self" : Str) = some (.ref (hp.objs.size + 1)) := by
      show List.lookup ("self" : Str) [(f, v), ("self", Value.ref (hp.objs.size + 1))] = _
      simp [List.lookup, hxself]
    have mF : ([("self", Value.ref (hp.objs.size + 1)), (f, v)] : List (Str × Value)).reverse.lookup f = some v := by
      show List.lookup f [(f, v), ("self", Value.ref (hp.objs.size + 1))] = _
      simp [List.lookup]
    refine super_stmt (s := ⟨h2, g, d, _, os⟩) (ar := { arg := "self", annotation := none, pos := p1 }) T (X1.keeps hk2) (bl.keeps k12) rfl ls lc rfl rfl hns mS (hk2 _ _ hx) hf hcode hvs hfile hcell (fun s' ks => ha _ _ s' _ _ _ _ (hns.keeps ks) mF) (fun h3 tk2 t1 k3 hx3 => ?_) (O.he _) (plh _) rfl (O.hs _)
    have hLx : h1.objs.size ≠ hp.objs.size + 1 := by omega
    have hns3 : h3.Ns h1.objs.size (fun y => ([("self", Value.ref (hp.objs.size + 1)), (f, v)] : List (Str × Value)).reverse.lookup y) := by
      obtain ⟨oL, es, ep, hL, r⟩ := hns
      exact ⟨oL, es, ep, k3 _ _ hLx hL, r⟩
    have k13 : ∀ b o, hp.get? b = some o → h3.get? b = some o := fun b o e => k3 b o (Nat.ne_of_lt (Nat.lt_succ_of_lt (Heap.lt_size e))) (k12 b o e)
    have X3 : K.In h3 := X.keeps k13
    refine ks_wpAt_execs_cons (ks_wpAt_Assign_Attr (wpAt_of_wpAny ?_))
    refine wpAny_Name (wpAny_loadName_local rfl lf hns3 mF ?_) hf4
    refine wpAny_Name (wpAny_loadName_local rfl rfl hns3 mS ?_)
    refine store_first T X3 hh hno hx3 fun h4 tk4 dx k4 dn dne hx4 hn4 => ?_
    refine wpAt_of_wpAny (wpAny_execs_nil ?_)
    refine ⟨rfl, ?_⟩
    refine hq h4 tk4 _ t1 dx (fun b o e => k4 b o (Nat.ne_of_lt (Nat.lt_succ_of_lt (Heap.lt_size e))) (k13 b o e)) (Nat.le_succ _) ?_ dne hx4 hn4
    have z1 := Heap.lt_size hx3
    show hp.objs.size ≤ dx
    exact Nat.le_trans (Nat.le_of_lt (Nat.lt_trans (Nat.lt_succ_self _) z1)) dn
end
end ExS

set_option maxHeartbeats 4000000
namespace ExS
open PySem PySem.Spec PyProof.Rows L2
/-- an own exception class without arguments: what a call of it makes -/
structure E0 (P : Program) (K : PySem.W.Frag) (C : Addr) : Prop where
  made : ∀ {w : World} {A : Around} {R : Result → Shared → Prop} {s : Shared}, K.In s.heap → BltOk s.heap P → s.heap.NoLimit → A.depth + 1 < recursionLimit →
    (∀ h' tk e t1, (∀ b o, s.heap.get? b = some o → h'.get? b = some o) → s.heap.objs.size ≤ e → h'.get? e = some (PX.excO C t1) → R (.ok (.ret (.ref e))) { s with heap := h', toks := tk }) →
    codeAny (model P w) A (.call (.ref C) ⟨[], []⟩) R s
  kC : PySem.W.keepIn K (.ref C) = true
  exC : PySem.W.subIn K (.ref C) (.type "BaseException") = some true
  tyC : PySem.W.typeIn K (.ref C) = some (.type "type")
/-- .. with one argument, kept in the field f -/
structure E1 (P : Program) (K : PySem.W.Frag) (C : Addr) (f : Str) (okv : V → Prop) : Prop where
  made : ∀ {w : World} {A : Around} {R : Result → Shared → Prop} {s : Shared} {v : V} {u : Value}, RelV v u → okv v → K.In s.heap → BltOk s.heap P → s.heap.NoLimit → A.depth + 1 < recursionLimit →
    (∀ h' tk e t1 dx, (∀ b o, s.heap.get? b = some o → h'.get? b = some o) → s.heap.objs.size ≤ e → s.heap.objs.size ≤ dx → dx ≠ e → h'.get? e = some { cls := .ref C, dict := some dx, data := .fields #[.ref t1, .none, .none, .none, .bool false, .none] } →
      h'.Ns1 dx (fun y => if y = f then some u else none) → R (.ok (.ret (.ref e))) { s with heap := h', toks := tk }) →
    codeAny (model P w) A (.call (.ref C) ⟨[u], []⟩) R s
  kC : PySem.W.keepIn K (.ref C) = true
  exC : PySem.W.subIn K (.ref C) (.type "BaseException") = some true
  tyC : PySem.W.typeIn K (.ref C) = some (.type "type")
theorem relO1 {v : V} {u : Value} (f : Str) (r : RelV v u) (y : Str) : RelO (List.lookup y [(f, v)]) (if y = f then some u else none) := by
  by_cases hw : y = f
  · subst hw
    rw [if_pos rfl]
    have q : List.lookup y [(y, v)] = some v := by simp [List.lookup]
    rw [q]
    exact r
  · rw [if_neg hw]
    have qw : (y == f) = false := by simpa using hw
    have q2 : List.lookup y [(f, v)] = none := by simp [List.lookup, qw]
    rw [q2]
    trivial
section
variable {X : Cx} {C : Addr} {f : Str} {okv : V → Prop}
theorem blt_of {pins : List (Addr × Obj)} {σ : L2.St} {H : Hp} {s : Shared} (I : Inv X pins σ H s) (hs : X.mg "super" = none) (ht : (X.prog.main.scope.names.lookup ("super" : Str)).isSome = false) : BltOk s.heap X.prog := by
  obtain ⟨mb, h1, h2⟩ := I.mod.blt
  have k := I.bk
  exact ⟨⟨X.mg, I.mod.glob.keeps k, hs⟩, ⟨mb, h1.keeps k, (h2 _ (by decide +kernel)).trans (by first | boot_by_name | rfl | kernel_rfl)⟩, ht⟩
theorem pmk_e0 {x : Str} {p pos : Pos} {k : Nat} (T : E0 X.prog X.K C) (gC : X.mg x = some (.ref C)) (hs : X.mg "super" = none) (ht : (X.prog.main.scope.names.lookup ("super" : Str)).isSome = false) (hr : Room k X.A) (hg : Gl X x := by rfl)
    (hdb : (x == ("__debug__" : Str)) = false := by decide) :
    PMk X (.Call (.Name x p) [] [] pos) (fun _ H Q => Q (.ref C) none H) := by
  intro pins s σ H Q I h
  refine wpAny_Call_Name_kw (ld_glob I hg gC ?_ hdb)
  refine PySem.W.callWith_K0 I.kIn T.kC ?_
  have hlim := I.nolimit
  have bl := blt_of I hs ht
  have X1 := I.kIn
  obtain ⟨hp, g, d, tk, os⟩ := s
  refine wpAny_call (T.made X1 bl hlim (by have := hr.dp; omega) fun h' tk' e t1 k' hn he => ?_)
  show MkP X pins σ Q (.ref e) ⟨h', g, d, tk', os⟩
  refine ⟨e, _, _, ⟨hp, g, d, tk, os⟩, H, .ref C, none, rfl, I, k', ?_, he, ⟨rfl, rfl⟩, rfl, rfl, I.hok.fresh hn, rfl, I.bare, raises_own T.exC T.tyC, h⟩
  exact Heap.get?_none_of_le hn
theorem pmk_e1 {x : Str} {a : Expr} {ta : TA} {p pos : Pos} {k : Nat} (T : E1 X.prog X.K C f okv) (gC : X.mg x = some (.ref C)) (hs : X.mg "super" = none) (ht : (X.prog.main.scope.names.lookup ("super" : Str)).isSome = false) (hr : Room k X.A) (ha : PA X [a] ta) (hg : Gl X x := by rfl)
    (hdb : (x == ("__debug__" : Str)) = false := by decide)
    (he : starEach (a :: []) X.env = (false, eval a X.env) :: starEach [] X.env := by rfl) (hpl : (backTo pos (starEach [] X.env)).any (·.1) = false := by rfl) :
    PMk X (.Call (.Name x p) [a] [] pos) (fun σ H Q => ta σ H fun vs H1 => ∃ v, vs = [v] ∧ okv v ∧ ∀ d, H1 d = none → Q (.ref C) (some d) (upd H1 d (.xd [(f, v)]))) := by
  intro pins s σ H Q I h
  refine wpAny_Call_Name_kw (ld_glob I hg gC ?_ hdb)
  refine PySem.W.callWith_K (h₀ := X.base) I.ok.mod.kin T.kC (thn (ha.run pos pins s σ H _ I h) fun us s1 hh => ?_) he hpl
  obtain ⟨vs, H1, I1, r1, v, ev, ov, q1⟩ := hh
  subst ev
  refine ⟨I1.kIn, ?_⟩
  cases r1 with
  | cons rv rn =>
    rename_i v' us'
    cases rn
    show wpAny _ _ (call (.ref C) [v']) _ _ _
    have hlim := I1.nolimit
    have bl := blt_of I1 hs ht
    have X1 := I1.kIn
    obtain ⟨hp, g, d, tk, os⟩ := s1
    refine wpAny_call (T.made rv ov X1 bl hlim (by have := hr.dp; omega) fun h' tk' e t1 dx k' hn dn dne heo hns => ?_)
    show MkP X pins σ Q (.ref e) ⟨h', g, d, tk', os⟩
    obtain ⟨G', g1, g2⟩ := restrict h' fun b => decide (b ≠ e)
    have gk : ∀ b, b ≠ e → G'.get? b = h'.get? b := fun b hb => g1 b (decide_eq_true hb)
    have ge : G'.get? e = none := g2 e (by simp)
    have old : ∀ b o, hp.get? b = some o → G'.get? b = some o := fun b o q => (gk b (Nat.ne_of_lt (Nat.lt_of_lt_of_le (Heap.lt_size q) hn))).trans (k' b o q)
    have ob : ObjOk X.prog X.w (upd H1 dx (.xd [(f, v)])) G' dx (.xd [(f, v)]) :=
      ⟨_, hns.at (fun o q => (gk dx dne).trans q), fun y => relO1 f rv y⟩
    have J : Inv X pins σ (upd H1 dx (.xd [(f, v)])) ⟨G', g, d, tk', os⟩ := I1.laid (t' := tk') old dn ob
    refine ⟨e, _, _, ⟨G', g, d, tk', os⟩, _, .ref C, some dx, rfl, J, fun b o q => ?_, ge, heo, ⟨rfl, rfl⟩, rfl, rfl, ?_, rfl, I1.bare, raises_own T.exC T.tyC, q1 dx (I1.hok.fresh dn)⟩
    · by_cases hb : b = e
      · have q' : G'.get? b = some o := q
        rw [hb, ge] at q'; cases q'
      · exact (gk b hb).symm.trans q
    · rw [upd_ne (Ne.symm dne)]
      exact I1.hok.fresh hn
end
end ExS

set_option maxHeartbeats 4000000
namespace ExS
open PySem PySem.W PySem.Calls PyProof.Rows PySem.Spec
/-- texts that an error's message takes -/
def ShortV (v : L2.V) : Prop := ∃ y : PySem.Str, v = .str y ∧ (reprText y).length ≤ 100000
def SmallI (v : L2.V) : Prop := ∃ i : Int, v = .int i ∧ i.natAbs.log2 < 1920
section
variable {prog : Program} {w : World} {A : Around} {E : Value → Shared → Prop} {s : Shared} {env : Env} {f : Str} {y : PySem.Str} {t : Tok} {m : Str → Option Value} {L : Addr} {x x2 : Str} {j1 j2 : Nat} {p0 p1 p2 p3 p2' : Pos}
theorem fits (a b : PySem.Str) (ha : a.length ≤ 200000) (hb : b.length ≤ 100000) : (a ++ b).length ≤ 300000 ∧ (a ++ b).length = a.length + b.length := by
  have e : (a ++ b).length = a.length + b.length := by
    show (a.cps ++ b.cps).size = a.cps.size + b.cps.size
    rw [Array.size_append]
  omega
theorem l300 {n : Nat} (h : n ≤ 300000) : n ≤ sizeLine := by rw [sizeLine_eq]; omega
theorem fv_name {Q : Value → Shared → Prop} (hn : s.heap.Ns env.locals m) (hv : m f = some (.str y t)) (hk : env.scope.kind = .function) (hl : env.kindOf f = some .local) (hd : (f == ("__debug__" : Str)) = false) (hz : (reprText y).length ≤ 100000)
    (h : ∀ tk u, Q (.str (reprText y) u) { s with toks := tk }) : wpAny (model prog w) A (eval (.FormattedValue (.Name f p0) 114 none p1) env) Q E s := by
  refine wpAny_FormattedValue_repr (wpAny_Name (wpAny_loadName_local hk hl hn hv ?_) hd)
  have hz2 : (reprText y).length ≤ sizeLine := l300 (by omega)
  exact pyReprObj_str (wpAny_formatField_str (h _ _) (h _ _) hz2) hz2
theorem fv_int {i : Int} {Q : Value → Shared → Prop} (hn : s.heap.Ns env.locals m) (hv : m f = some (.int i t)) (hk : env.scope.kind = .function) (hl : env.kindOf f = some .local) (hd : (f == ("__debug__" : Str)) = false) (hz : i.natAbs.log2 < 1920)
    (h : ∀ tk u, Q (.str (toString i) u) { s with toks := tk }) : wpAny (model prog w) A (eval (.FormattedValue (.Name f p0) (-1) none p1) env) Q E s := by
  refine wpAny_FormattedValue_plain (wpAny_Name (wpAny_loadName_local hk hl hn hv ?_) hd)
  exact wpAny_formatField_int hz (h _ _)
theorem msg_cf {v : Value} (rv : L2.RelV (.str y) v) (hz : (reprText y).length ≤ 100000) (hx : x.length ≤ 1000) (hn : s.heap.Ns env.locals m) (hv : m f = some v) (hk : env.scope.kind = .function) (hl : env.kindOf f = some .local) (hd : (f == ("__debug__" : Str)) = false) :
    wpAny (model prog w) A (eval (.JoinedStr [.Constant (.str x) j1 p2, .FormattedValue (.Name f p0) 114 none p1] p3) env) (fun _ s'' => ∃ tk, s'' = { s with toks := tk }) E s := by
  obtain ⟨t, rfl⟩ := rv
  have h1 := fits Str.empty x (by decide) (by omega)
  have h2 := fits (Str.empty ++ x) (reprText y) (by have : Str.empty.length = 0 := rfl; omega) hz
  refine wpAny_JoinedStr ?_
  refine wpAny_Constant_str ⟨_, _, rfl, l300 h1.1, ?_⟩
  refine fv_name (s := { s with toks := s.toks + 1 }) hn hv hk hl hd hz fun tk u => ⟨_, _, rfl, l300 h2.1, ?_⟩
  exact ⟨l300 h2.1, _, rfl⟩
theorem msg_fc {v : Value} (rv : L2.RelV (.str y) v) (hz : (reprText y).length ≤ 100000) (hx : x.length ≤ 1000) (hn : s.heap.Ns env.locals m) (hv : m f = some v) (hk : env.scope.kind = .function) (hl : env.kindOf f = some .local) (hd : (f == ("__debug__" : Str)) = false) :
    wpAny (model prog w) A (eval (.JoinedStr [.FormattedValue (.Name f p0) 114 none p1, .Constant (.str x) j1 p2] p3) env) (fun _ s'' => ∃ tk, s'' = { s with toks := tk }) E s := by
  obtain ⟨t, rfl⟩ := rv
  have h1 := fits Str.empty (reprText y) (by decide) hz
  have h2 := fits (Str.empty ++ reprText y) x (by have : Str.empty.length = 0 := rfl; omega) (by omega)
  refine wpAny_JoinedStr ?_
  refine fv_name hn hv hk hl hd hz fun tk u => ⟨_, _, rfl, l300 h1.1, ?_⟩
  refine wpAny_Constant_str ⟨_, _, rfl, l300 h2.1, ?_⟩
  exact ⟨l300 h2.1, _, rfl⟩
theorem msg_cfc {v : Value} (rv : L2.RelV (.str y) v) (hz : (reprText y).length ≤ 100000) (hx : x.length ≤ 1000) (hx2 : x2.length ≤ 1000) (hn : s.heap.Ns env.locals m) (hv : m f = some v) (hk : env.scope.kind = .function) (hl : env.kindOf f = some .local) (hd : (f == ("__debug__" : Str)) = false) :
    wpAny (model prog w) A (eval (.JoinedStr [.Constant (.str x) j1 p2, .FormattedValue (.Name f p0) 114 none p1, .Constant (.str x2) j2 p2'] p3) env) (fun _ s'' => ∃ tk, s'' = { s with toks := tk }) E s := by
  obtain ⟨t, rfl⟩ := rv
  have h1 := fits Str.empty x (by decide) (by omega)
  have h2 := fits (Str.empty ++ x) (reprText y) (by have : Str.empty.length = 0 := rfl; omega) hz
  have h3 := fits (Str.empty ++ x ++ reprText y) x2 (by have : Str.empty.length = 0 := rfl; omega) (by omega)
  refine wpAny_JoinedStr ?_
  refine wpAny_Constant_str ⟨_, _, rfl, l300 h1.1, ?_⟩
  refine fv_name (s := { s with toks := s.toks + 1 }) hn hv hk hl hd hz fun tk u => ⟨_, _, rfl, l300 h2.1, ?_⟩
  refine wpAny_Constant_str ⟨_, _, rfl, l300 h3.1, ?_⟩
  exact ⟨l300 h3.1, _, rfl⟩
theorem msg_ci {i : Int} {v : Value} (rv : L2.RelV (.int i) v) (hz : i.natAbs.log2 < 1920) (hx : x.length ≤ 1000) (hn : s.heap.Ns env.locals m) (hv : m f = some v) (hk : env.scope.kind = .function) (hl : env.kindOf f = some .local) (hd : (f == ("__debug__" : Str)) = false) :
    wpAny (model prog w) A (eval (.JoinedStr [.Constant (.str x) j1 p2, .FormattedValue (.Name f p0) (-1) none p1] p3) env) (fun _ s'' => ∃ tk, s'' = { s with toks := tk }) E s := by
  obtain ⟨t, rfl⟩ := rv
  have h1 := fits Str.empty x (by decide) (by omega)
  have hs : (PySem.Str.ofString (toString i)).length ≤ 100000 := by
    have h := PyProof.Rows.int_text_len_1921 hz
    omega
  have h2 := fits (Str.empty ++ x) (toString i) (by have : Str.empty.length = 0 := rfl; omega) hs
  refine wpAny_JoinedStr ?_
  refine wpAny_Constant_str ⟨_, _, rfl, l300 h1.1, ?_⟩
  refine fv_int (s := { s with toks := s.toks + 1 }) hn hv hk hl hd hz fun tk u => ⟨_, _, rfl, l300 h2.1, ?_⟩
  exact ⟨l300 h2.1, _, rfl⟩
end
end ExS

set_option maxHeartbeats 4000000
namespace HkS
open PySem PySem.Spec PyProof.Rows L2 He
/-! ### own exceptions, read off the head -/
abbrev FnY : Type := Option (Str × Str × Arguments × FuncBody × Scope × Addr × Addr)
def fnY (K : PySem.W.Frag) (a : Addr) : FnY := match K.lookup a with
  | some ⟨_, _, .func fd, _⟩ => some (fd.name, fd.qualname, fd.params, fd.body, fd.scope, fd.globals, fd.builtins)
  | _ => none
/-- an exception class: its name, its built-in base, its __init__ -/
structure ExD where
  x : Str
  B : String
  mro : List Value
  st : Stmt
  qual : Str
def iAd (K : PySem.W.Frag) (x : Str) : Addr := ma K (ga K x) "__init__"
def cloB (P : Program) (K : PySem.W.Frag) (a C : Addr) (qual : Str) : Bool := match K.lookup a with
  | some ⟨_, _, .func fd, _⟩ => (match fd.closure, fd.code, fd.defaults with
    | [(n, cc)], .ref cda, .none => decide (n = "__class__") && (PySem.W.codeIn K (.ref cda) qual && ((match K.lookup cda with
        | some ⟨_, _, .fields vs, _⟩ => (match (vs[2]? : Option Value) with
          | some (Value.str file _) => ((P.main.file : Str) == file)
          | _ => false)
        | _ => false) && (match K.lookup cc with
        | some ⟨_, _, .cell (some (.ref D)), _⟩ => decide (D = C)
        | _ => false)))
    | _, _, _ => false)
  | _ => false
def exB (P : Program) (K : PySem.W.Frag) (d : ExD) : Bool :=
  PySem.W.excInitIn K (ga K d.x) d.mro (d.B ++ ".__new__") && (PySem.W.excOver K (ga K d.x) d.mro && (eqO (PySem.W.findIn K (.ref (ga K d.x)) "__init__") (some (some (.ref (iAd K d.x)))) && (PySem.W.isFn K (.ref (iAd K d.x)) &&
  (decide (PySem.W.mroIn K (ga K d.x) (.ref (ga K d.x)) = some true) && (eqO (PySem.W.ks_superIn K (ga K d.x) (ga K d.x) "__init__") (some (some (.builtin (d.B ++ ".__init__")))) && (decide (PySem.W.subIn K (.ref (ga K d.x)) (.type d.B) = some true) &&
  (eqO (PySem.W.findIn K (.ref (ga K d.x)) "__setattr__") (some (some (.builtin "object.__setattr__"))) && (eqO (PySem.W.nsIn K cStatics "thirdparty.any") (some none) && (PySem.W.keepIn K (.ref (ga K d.x)) &&
  (decide (PySem.W.subIn K (.ref (ga K d.x)) (.type "BaseException") = some true) && (decide (PySem.W.typeIn K (.ref (ga K d.x)) = some (.type "type")) && (PySem.W.hasDictIn K (ga K d.x) && cloB P K (iAd K d.x) (ga K d.x) d.qual))))))))))))
/-- a built-in base's own facts -/
structure BaseOk (B : String) (bmB : List Value) : Prop where
  FB : ExcBaseFacts B (B ++ ".__new__") (B ++ ".__init__") bmB
  SF : StoreFacts B bmB "object.__setattr__" "object"
  KF : PySem.W.KxsFacts B (B ++ ".__init__")
theorem base_VE : BaseOk "ValueError" [.type "ValueError", .type "Exception", .type "BaseException", .type "object"] := ⟨F.excBase_ValueError, F.store_ValueError, PySem.W.kxs_ValueError⟩
theorem base_LE : BaseOk "LookupError" [.type "LookupError", .type "Exception", .type "BaseException", .type "object"] := ⟨F.excBase_LookupError, F.store_LookupError, PySem.W.kxs_LookupError⟩
def ExD.val (d : ExD) : FnY := some ("__init__", d.qual, defArgs d.st, .stmts (defBody d.st), defScope d.st, mainGlobals, builtinsNs)
theorem ex_ok {P : Program} {K : PySem.W.Frag} {d : ExD} (b : BaseOk d.B d.mro) (e : fnY K (iAd K d.x) = d.val) (c : exB P K d = true) :
    ExS.ESup P K (ga K d.x) (iAd K d.x) d.B (d.B ++ ".__new__") (d.B ++ ".__init__") d.mro d.qual (defArgs d.st) (defBody d.st) (defScope d.st) ∧ PySem.W.keepIn K (.ref (ga K d.x)) = true ∧ PySem.W.subIn K (.ref (ga K d.x)) (.type "BaseException") = some true ∧
    PySem.W.typeIn K (.ref (ga K d.x)) = some (.type "type") ∧ PySem.W.hasDictIn K (ga K d.x) = true := by
  obtain ⟨c1, c⟩ := ba c
  obtain ⟨c2, c⟩ := ba c
  obtain ⟨c3, c⟩ := ba c
  obtain ⟨c4, c⟩ := ba c
  obtain ⟨c5, c⟩ := ba c
  obtain ⟨c6, c⟩ := ba c
  obtain ⟨c7, c⟩ := ba c
  obtain ⟨c8, c⟩ := ba c
  obtain ⟨c9, c⟩ := ba c
  obtain ⟨c10, c⟩ := ba c
  obtain ⟨c11, c⟩ := ba c
  obtain ⟨c12, c⟩ := ba c
  obtain ⟨c13, c14⟩ := ba c
  refine ⟨⟨b.FB, b.SF, b.KF, c1, c2, eqO_ok c3, c4, ?_, of_decide_eq_true c5, eqO_ok c6, of_decide_eq_true c7, eqO_ok c8, eqO_ok c9⟩, c10, of_decide_eq_true c11, of_decide_eq_true c12, c13⟩
  unfold cloB at c14
  unfold fnY at e
  split at c14
  · rename_i oc od fd osl lk
    rw [lk] at e
    split at c14
    · rename_i n cc cda hcl hcd hdf
      obtain ⟨d1, d2⟩ := ba c14
      obtain ⟨d2, d3⟩ := ba d2
      obtain ⟨d3, d4⟩ := ba d3
      split at d3
      · rename_i ccl cdd vs ccs lk2
        split at d3
        · rename_i file tf hv
          split at d4
          · rename_i cl cld D csl lk3
            obtain ⟨n1, n2, n3, n4, n5, n6, n7, n8, n9, n10, n11, n12, n13, n14, n15⟩ := fd
            have e2 : (some (n1, n2, n3, n4, n5, n6, n15) : FnY) = (some (("__init__" : Str), d.qual, defArgs d.st, FuncBody.stmts (defBody d.st), defScope d.st, mainGlobals, builtinsNs) : FnY) := e
            simp only [Option.some.injEq, Prod.mk.injEq] at e2
            obtain ⟨h1, h2, h3, h4, h5, h6, h7⟩ := e2
            have h8 : n7 = [(n, cc)] := hcl
            have h9 : n13 = .ref cda := hcd
            have h10 : n8 = .none := hdf
            have h11 : n = "__class__" := of_decide_eq_true d1
            have h12 : D = ga K d.x := of_decide_eq_true d4
            subst h1 h2 h3 h4 h5 h6 h7 h8 h9 h10 h11 h12
            exact ⟨oc, od, n9, n10, n11, n12, n14, osl, cc, cda, ccl, cdd, vs, ccs, file, tf, cl, cld, csl, lk, d2, lk2, hv, d3, lk3⟩
          · cases d4
        · cases d3
      · cases d3
    · cases c14
  · cases c14
end HkS
namespace HkS
open PySem PySem.Spec PyProof.Rows L2 He
/-! ### the Hook -/
abbrev AlM : Type := Bool × List FnW × List FnY
def asM (g : Addr → Option Obj) (n : Nat) : List Addr := asD g n ++ [cStatics]
def obsM (P : Program) (fa : List Fa) (fn : List DefD) (ex : List ExD) (more : PySem.W.Frag → Bool) (K : PySem.W.Frag) : AlM :=
  ((fa.all fun f => f.ok K) && ((fn.all fun d => d.ok K) && ((ex.all fun d => exB P K d) && more K)), fn.map (fun d => fnW K d.at_), ex.map fun d => fnY K (iAd K d.x))
def valM (fn : List DefD) (ex : List ExD) : AlM := (true, fn.map DefD.val, ex.map ExD.val)
def SaysM (P : Program) (fa : List Fa) (fn : List DefD) (ex : List ExD) (more : PySem.W.Frag → Bool) (K : PySem.W.Frag) : Prop := obsM P fa fn ex more K = valM fn ex
def obsMG (n : Nat) (P : Program) (fa : List Fa) (fn : List DefD) (ex : List ExD) (more : PySem.W.Frag → Bool) (g : Addr → Option Obj) : AlM := obsM P fa fn ex more (frG g (asM g n))
def hookM (n : Nat) (P : Program) (fa : List Fa) (fn : List DefD) (ex : List ExD) (more : PySem.W.Frag → Bool) : PySem.W.Hook where
  α := AlM
  obs := fun s => obsMG n P fa fn ex more s.heap.get?
  val := fun _ => valM fn ex
  says := fun _ h => ∃ K : PySem.W.Frag, K.In h ∧ SaysM P fa fn ex more K
  of := fun _ _ e => ⟨_, frG_in, e⟩
  keeps := fun _ _ _ ⟨K, hK, c⟩ k => ⟨K, PySem.W.Frag.In.keeps hK k, c⟩
theorem obsMG_eq {n : Nat} {P : Program} {fa : List Fa} {fn : List DefD} {ex : List ExD} {more : PySem.W.Frag → Bool} {g : Addr → Option Obj} {s : Shared} (h : ∀ a, g a = s.heap.get? a) : obsMG n P fa fn ex more g = (hookM n P fa fn ex more).obs s := by
  have e : g = s.heap.get? := funext h
  rw [e] <;> rfl
section
variable {P : Program} {fa : List Fa} {fn : List DefD} {ex : List ExD} {more : PySem.W.Frag → Bool} {K : PySem.W.Frag}
theorem SaysM.bools (c : SaysM P fa fn ex more K) : (∀ f ∈ fa, f.ok K = true) ∧ (∀ d ∈ fn, d.ok K = true) ∧ (∀ d ∈ ex, exB P K d = true) ∧ more K = true := by
  have c1 : ((fa.all fun f => f.ok K) && ((fn.all fun d => d.ok K) && ((ex.all fun d => exB P K d) && more K))) = true := congrArg (fun z : AlM => z.1) c
  obtain ⟨h1, c1⟩ := ba c1
  obtain ⟨h2, c1⟩ := ba c1
  obtain ⟨h3, h4⟩ := ba c1
  exact ⟨List.all_eq_true.mp h1, List.all_eq_true.mp h2, List.all_eq_true.mp h3, h4⟩
theorem SaysM.moreB (c : SaysM P fa fn ex more K) : more K = true := c.bools.2.2.2
theorem SaysM.fact (c : SaysM P fa fn ex more K) (i : Nat) {f : Fa} (h : fa[i]? = some f := by rfl) : f.ok K = true := c.bools.1 f (List.mem_of_getElem? h)
theorem SaysM.def_ (c : SaysM P fa fn ex more K) (i : Nat) {d : DefD} (h : fn[i]? = some d := by rfl) : ∃ fd, FunD K d.name d.qual d.params d.body d.scope (d.dvs K) (d.kws K) (fAd K d.at_) fd := by
  have e : fn.map (fun d => fnW K d.at_) = fn.map DefD.val := congrArg (fun z : AlM => z.2.1) c
  have e2 : (fn.map fun d => fnW K d.at_)[i]? = (fn.map DefD.val)[i]? := by rw [e]
  rw [List.getElem?_map, List.getElem?_map, h] at e2
  exact DefD.funD (Option.some.inj e2) (c.bools.2.1 d (List.mem_of_getElem? h))
theorem SaysM.exn (c : SaysM P fa fn ex more K) (i : Nat) {d : ExD} (b : BaseOk d.B d.mro) (h : ex[i]? = some d := by rfl) :
    ExS.ESup P K (ga K d.x) (iAd K d.x) d.B (d.B ++ ".__new__") (d.B ++ ".__init__") d.mro d.qual (defArgs d.st) (defBody d.st) (defScope d.st) ∧ PySem.W.keepIn K (.ref (ga K d.x)) = true ∧ PySem.W.subIn K (.ref (ga K d.x)) (.type "BaseException") = some true ∧
    PySem.W.typeIn K (.ref (ga K d.x)) = some (.type "type") ∧ PySem.W.hasDictIn K (ga K d.x) = true := by
  have e : ex.map (fun d => fnY K (iAd K d.x)) = ex.map ExD.val := congrArg (fun z : AlM => z.2.2) c
  have e2 : (ex.map fun d => fnY K (iAd K d.x))[i]? = (ex.map ExD.val)[i]? := by rw [e]
  rw [List.getElem?_map, List.getElem?_map, h] at e2
  exact ex_ok b (Option.some.inj e2) (c.bools.2.2.1 d (List.mem_of_getElem? h))
end
end HkS

set_option maxHeartbeats 4000000
/-! short words of my own -/
namespace Bs
open PySem PySem.Spec PyProof.Rows L2 He HkS
/-- a def at f keeps its promise, and may be called by position -/
structure Ok (P : Program) (w : World) (K : PySem.W.Frag) (mg : Str → Option Value) (base : Heap) (k : Nat) (f : Addr) (ps : List Str) (sp : Sp) : Prop where
  ex : ∃ fd, FnOk P w K mg base (L2.CX P w) k f fd ps sp ∧ Binds K fd ps [] ∧ ∃ oc od sl, K.lookup f = some ⟨oc, od, .func fd, sl⟩
  kp : PySem.W.keepIn K (.ref f) = true
theorem Ok.mono {P : Program} {w : World} {K : PySem.W.Frag} {mg : Str → Option Value} {base : Heap} {j k : Nat} {f : Addr} {ps : List Str} {sp : Sp} (O : Ok P w K mg base j f ps sp) (h : j ≤ k) : Ok P w K mg base k f ps sp := by
  obtain ⟨fd, F, b, lkf⟩ := O.ex
  exact ⟨⟨fd, F.mono h, b, lkf⟩, O.kp⟩
theorem Ok.imp {P : Program} {w : World} {K : PySem.W.Frag} {mg : Str → Option Value} {base : Heap} {k : Nat} {f : Addr} {ps : List Str} {sp sp' : Sp} (O : Ok P w K mg base k f ps sp) (h : ∀ vs H Q E, sp' vs H Q E → sp vs H Q E) : Ok P w K mg base k f ps sp' := by
  obtain ⟨fd, F, b, lkf⟩ := O.ex
  exact ⟨⟨fd, F.imp h, b, lkf⟩, O.kp⟩
section
variable {X : Cx} {k : Nat} {f C fI : Addr} {ps : List Str} {sp : Sp} {E : XK} {x m : Str} {p pos apos : Pos} {e o : Expr} {es : List Expr} {ta : TE} {t : TA}
theorem pe_cO (O : Ok X.prog X.w X.K X.mg X.base k f ps sp) (hr : Room k X.A) (hm : X.mg x = some (.ref f)) (hx : Passes (L2.CX X.prog X.w) X E) (ha : PA X (e :: es) t) (hg : Gl X x := by rfl) (hdb : (x == ("__debug__" : Str)) = false := by decide)
    (he : starEach (e :: es) X.env = (false, eval e X.env) :: starEach es X.env := by rfl) (hpl : (backTo pos (starEach es X.env)).any (·.1) = false := by rfl) : PE X (.Call (.Name x p) (e :: es) [] pos) (tCall sp [] E t) := by
  obtain ⟨fd, F, b, lkf⟩ := O.ex
  exact pe_call F hr hg hm O.kp b .nil hx ha hdb he hpl
theorem pe_cO0 (O : Ok X.prog X.w X.K X.mg X.base k f ps sp) (hr : Room k X.A) (hm : X.mg x = some (.ref f)) (hx : Passes (L2.CX X.prog X.w) X E) (hg : Gl X x := by rfl) (hdb : (x == ("__debug__" : Str)) = false := by decide) : PE X (.Call (.Name x p) [] [] pos) (tCall sp [] E tNil) := by
  obtain ⟨fd, F, b, lkf⟩ := O.ex
  exact pe_call0 F hr hg hm O.kp b .nil hx hdb
theorem pe_mO {pl : Sem Bool} (he : PE X o ta) (c : Cls X.K C) (hm : Meth X.K C m f) (O : Ok X.prog X.w X.K X.mg X.base k f ps sp) (hr : Room k X.A) (hx : Passes (L2.CX X.prog X.w) X E) (ha : PA X (e :: es) t)
    (hst : starEach (e :: es) X.env = (false, eval e X.env) :: starEach es X.env := by rfl) (hpl : (backTo pos (starEach es X.env)).any (·.1) = false := by rfl)
    (ht : eval (.Call (.Attribute o m apos) (e :: es) [] pos) X.env = (do
      let ov ← eval o X.env
      standAt apos.atName
      let (f, first) ← holding [ov] (getMethod ov m pl)
      callWith pos f first (backTo pos (starEach (e :: es) X.env)) (backToKw pos (keywordEach [] X.env))) := by rfl) :
    PE X (.Call (.Attribute o m apos) (e :: es) [] pos) (tMeth C m sp [] E ta t) := by
  obtain ⟨fd, F, b, lkf⟩ := O.ex
  exact pe_meth he c hm F hr b .nil hx ha hst hpl ht
theorem pe_mO0 {pl : Sem Bool} (he : PE X o ta) (c : Cls X.K C) (hm : Meth X.K C m f) (O : Ok X.prog X.w X.K X.mg X.base k f ps sp) (hr : Room k X.A) (hx : Passes (L2.CX X.prog X.w) X E)
    (ht : eval (.Call (.Attribute o m apos) [] [] pos) X.env = (do
      let ov ← eval o X.env
      standAt apos.atName
      let (f, first) ← holding [ov] (getMethod ov m pl)
      callWith pos f first (backTo pos (starEach [] X.env)) (backToKw pos (keywordEach [] X.env))) := by rfl) :
    PE X (.Call (.Attribute o m apos) [] [] pos) (tMeth C m sp [] E ta tNil) := by
  obtain ⟨fd, F, b, lkf⟩ := O.ex
  exact pe_meth0 he c hm F hr b .nil hx ht
theorem pe_kO (M : Mk X.K C fI) (O : Ok X.prog X.w X.K X.mg X.base k fI ps sp) (hr : Room (k + 1) X.A) (hm : X.mg x = some (.ref C)) (hx : Passes (L2.CX X.prog X.w) X E) (ha : PA X (e :: es) t) (hg : Gl X x := by rfl) (hdb : (x == ("__debug__" : Str)) = false := by decide)
    (he : starEach (e :: es) X.env = (false, eval e X.env) :: starEach es X.env := by rfl) (hpl : (backTo pos (starEach es X.env)).any (·.1) = false := by rfl) : PE X (.Call (.Name x p) (e :: es) [] pos) (tMake C sp [] E t) := by
  obtain ⟨fd, F, b, lkf⟩ := O.ex
  exact pe_make M F hr hg hm b .nil hx ha hdb he hpl
/-- x = e -/
theorem ps_s (i : Nat) {y : Str} {p' : Pos} {te : TE} (nd : X.N.Nodup) (he : PE X e te) (hN : X.N[i]? = some y := by rfl) (hl : Loc X.env.scope y := by first | exact Or.inl rfl | exact Or.inr rfl) (hs : swapsWith e (some (.Name y p')) pos.line X.env = pure false := by rfl) (hf : X.fn y = true ∨ X.env.scope.names.lookup y = some .local := by first | exact .inl rfl | exact .inr rfl | assumption) : PS X (.Assign [.Name y p'] e pos) (tAsg te (gName i)) :=
  ps_set (i := i) nd hN hl he hs hf
theorem pg_n (i : Nat) {y : Str} {p' : Pos} (nd : X.N.Nodup) (hN : X.N[i]? = some y := by rfl) (hl : Loc X.env.scope y := by first | exact Or.inl rfl | exact Or.inr rfl) (hf : X.fn y = true ∨ X.env.scope.names.lookup y = some .local := by first | exact .inl rfl | exact .inr rfl | assumption) : PG X (.Name y p') (gName i) := pg_name nd hN hl hf
end
/-- THE RULE for a def of the text -/
theorem ok_of {P : Program} {w : World} {K : PySem.W.Frag} {mg : Str → Option Value} {base : Heap} {x qual : Str} {params : Arguments} {body : List Stmt} {scope : Scope} {f : Addr} {N ps : List Str} {k : Nat} {sp : Sp}
    (F : ∃ fd, FunD K x qual params body scope [] [] f fd) (S : FnScope N ps scope) (len : ∀ vs H Q E, sp vs H Q E → vs.length = ps.length)
    (hb : ∀ (kV doc pm : Value) (an : Option Addr) (cdv ct : Value) (us : List Value), us.length = ps.length → bindArgs (PySem.W.fnOf x qual params body scope .none kV doc pm an cdv ct) ⟨us, []⟩ = pure (ps.zip us))
    (hbody : ∀ (cdv : Value) (A : Around) (outer : List Env) (s : Shared) (H : Hp) (vs : List V) (Q : VK) (E : XK), Room k (A.deeper (envOfC qual scope s.heap.objs.size f cdv)) → sp vs H Q E →
      ∃ t, PSs (cxOf (L2.CX P w) P w K mg base N qual scope f cdv A outer s H E) body t ∧ t { nx := fun _ H' => Q .non H', rt := Q } (start N vs) H) : Ok P w K mg base (k + 1) f ps sp := by
  obtain ⟨fd, F⟩ := F
  obtain ⟨oc, od, dV, kV, doc, pm, an, cdv, ct, osl, rfl, lk, _⟩ := id F.ex
  exact ⟨⟨_, F.ok S len hbody, F.bindsN hb, oc, od, osl, lk⟩, F.kp⟩
/-! ### the same rules with K written out (within a comprehension) -/
section
variable {X : Cx} {K : PySem.W.Frag}
theorem ixL (h : X.K = K := by rfl) : IxR X (rIxL K) := by subst h; exact ix_list
theorem ixT (h : X.K = K := by rfl) : IxR X (rIxT K) := by subst h; exact ix_tup
theorem ixQ (h : X.K = K := by rfl) : IxR X (rIx K) := by subst h; exact ix_seq
theorem inQ (h : X.K = K := by rfl) : OpR X (compareOp .In) (rIn K false) := by subst h; exact op_in_seq
theorem ninQ (h : X.K = K := by rfl) : OpR X (compareOp .NotIn) (rIn K true) := by subst h; exact op_notIn_seq
theorem slL (h : X.K = K := by rfl) : SlR X (rSlL K) := by subst h; exact sl_list
def rLenQ (K : PySem.W.Frag) : List V → Hp → VK → Prop := fun xs H Q => ∃ p ys, xs = [.ref p] ∧ (SqL K H p ys ∨ SqT K H p ys) ∧ Q (.int ys.length) H
theorem lenQ (h : X.K = K := by rfl) : CallR X (.builtin "len") (rLenQ K) := by subst h; exact call_len_seq
def rListQ (K : PySem.W.Frag) : List V → Hp → VK → Prop := fun xs H Q => ∃ p ys, xs = [.ref p] ∧ (SqL K H p ys ∨ SqT K H p ys) ∧ ∀ l, H l = none → Q (.ref l) (upd H l (.lst ys))
theorem listQ (h : X.K = K := by rfl) : CallR X (.type "list") (rListQ K) := by subst h; exact call_list_of
theorem sumQ (hc : X.calm = true) (h : X.K = K := by rfl) : CallR X (.builtin "sum") (rSum K) := by subst h; exact cr_sum hc
theorem anyQ (hc : X.calm = true) (h : X.K = K := by rfl) : CallR X (.builtin "any") (rAny K) := by subst h; exact cr_any hc
theorem allQ (hc : X.calm = true) (h : X.K = K := by rfl) : CallR X (.builtin "all") (rAll K) := by subst h; exact cr_all hc
theorem isiQ (h : X.K = K := by rfl) : CallR X (.builtin "isinstance") (rIsi K) := by subst h; exact call_isi
theorem isiTQ (h : X.K = K := by rfl) : CallR X (.builtin "isinstance") (rIsiT K) := by subst h; exact call_isiT
theorem fldQ {e : Expr} {ta : TE} {f : Str} {pos : Pos} (he : PE X e ta) (hb : attributeBase e f X.env (eval e X.env) = eval e X.env := by rfl) (h : X.K = K := by rfl) : PE X (.Attribute e f pos) (tFld K ta f) := by subst h; exact pe_fld he hb
theorem listI {tg l : Expr} {tl : TE} (h : PE X l tl) (hk : X.K = K := by rfl) : PI X tg l (iList K tl) := by subst hk; exact pi_list h
theorem mtIx (h : X.K = K := by rfl) : MtR X "list.index" (rIndex K) := by subst h; exact mt_index
theorem eqDQ (hu : X.A.units + 64 < cLine) (h : X.K = K := by rfl) : OpR X (compareOp .Eq) (rEqD K) := by subst h; exact op_eqD hu
theorem neDQ (hu : X.A.units + 64 < cLine) (h : X.K = K := by rfl) : OpR X (compareOp .NotEq) (rNeD K) := by subst h; exact op_neD hu
end
/-! ### a base class's method, called through the class -/
def clsB (K : PySem.W.Frag) (C : Addr) (m : Str) : Bool := PySem.W.readsIn K C (.type "type") && (decide (PySem.W.specialIn K (.ref C) "__getattribute__" = some (some (.builtin "type.__getattribute__"))) && (match PySem.W.findCls K (.ref C) (.type "type") m with
  | some (.val (.ref a)) => decide (a = ma K C m)
  | _ => false))
structure ClsM (K : PySem.W.Frag) (C : Addr) (m : Str) : Prop where
  rd : ClX.CRead K C (.type "type")
  at_ : PySem.W.findCls K (.ref C) (.type "type") m = some (.val (.ref (ma K C m)))
theorem clsB_ok {K : PySem.W.Frag} {C : Addr} {m : Str} (h : clsB K C m = true) : ClsM K C m := by
  obtain ⟨h1, h⟩ := ba h
  obtain ⟨h2, h3⟩ := ba h
  refine ⟨⟨h1, of_decide_eq_true h2⟩, ?_⟩
  split at h3
  · rename_i a e
    rw [e, of_decide_eq_true h3]
  · cases h3
section
variable {X : Cx} {k : Nat} {f C : Addr} {ps : List Str} {sp : Sp} {E : XK} {x m : Str} {p pos apos : Pos} {e : Expr} {es : List Expr} {t : TA}
theorem pe_clsO {pl : Sem Bool} (c : ClsM X.K C m) (hm : X.mg x = some (.ref C)) (O : Ok X.prog X.w X.K X.mg X.base k (ma X.K C m) ps sp) (hr : Room k X.A) (hx : Passes (L2.CX X.prog X.w) X E) (ha : PA X (e :: es) t) (hg : Gl X x := by rfl) (hdb : (x == ("__debug__" : Str)) = false := by decide)
    (hst : starEach (e :: es) X.env = (false, eval e X.env) :: starEach es X.env := by rfl) (hpl : (backTo pos (starEach es X.env)).any (·.1) = false := by rfl)
    (ht : eval (.Call (.Attribute (.Name x p) m apos) (e :: es) [] pos) X.env = (do
      let ov ← eval (.Name x p) X.env
      standAt apos.atName
      let (f, first) ← holding [ov] (getMethod ov m pl)
      callWith pos f first (backTo pos (starEach (e :: es) X.env)) (backToKw pos (keywordEach [] X.env))) := by rfl) :
    PE X (.Call (.Attribute (.Name x p) m apos) (e :: es) [] pos) (tCall sp [] E t) := by
  obtain ⟨fd, F, b, lkf⟩ := O.ex
  have hn : PE X (.Name x p) (tC (.ref C)) := pe_glob hg hm rfl hdb
  refine ⟨fun pins s σ H Q I h => ?_⟩
  refine PySem.W.methodCall_KW (pl := pl) (thn (hn.run pins s σ H (fun v H1 => v = .ref C ∧ H1 = H) I ⟨rfl, rfl⟩) fun u s1 ⟨x, H1, I1, rx, ex, eH⟩ => ?_) ht
  subst ex
  subst eH
  obtain rfl : u = Value.ref C := rx
  refine PySem.W.method_cls I1.kIn c.rd.ga (PySem.W.cls_value I1.kIn c.rd.rd c.at_ (handed_of (v := .ref (ma X.K C m)) rfl) ?_)
  refine PySem.W.callWith_K (first := []) (h₀ := X.base) I1.ok.mod.kin O.kp (thn (ha.run pos pins _ σ H1 _ (I1.tok _) h) fun us s2 ⟨vs, H2, I2, r, q2⟩ => ⟨I2.kIn, ?_⟩) hst hpl
  exact run_fn F hr b .nil hx I2 r q2
end
/-! ### a method by the object's class as it is met; calls within a try -/
/-- the class at C has the method m, its def at f keeps sp -/
def MD (P : Program) (w : World) (K : PySem.W.Frag) (mg : Str → Option Value) (base : Heap) (k : Nat) (m : Str) (C f : Addr) (sp : Sp) : Prop := Cls K C ∧ Meth K C m f ∧ ∃ ps, Ok P w K mg base k f ps sp
def tMethD (D : Addr → Addr → Sp → Prop) (m : Str) (E : L2.St → XK) (ta : TE) (t : TA) : TE := fun σ H Q => ta σ H fun x H1 => ∃ (a C dx : Addr) (fs : List (Str × V)) (f : Addr) (sp : Sp), x = .ref a ∧ H1 a = some (.ins C dx fs) ∧ fs.lookup m = none ∧ D C f sp ∧ t σ H1 fun vs H2 => sp (x :: vs) H2 Q (E σ)
section
variable {X : Cx} {k : Nat} {f C fI : Addr} {ps : List Str} {sp : Sp} {E : L2.St → XK} {x m : Str} {p pos apos : Pos} {e o : Expr} {es : List Expr} {ta : TE} {t : TA} {D : Addr → Addr → Sp → Prop}
theorem pe_mD {pl : Sem Bool} (he : PE X o ta) (hD : ∀ C f sp, D C f sp → MD X.prog X.w X.K X.mg X.base k m C f sp) (hr : Room k X.A) (hx : ∀ σ, PassesAt (L2.CX X.prog X.w) X σ (E σ)) (ha : PA X (e :: es) t)
    (hst : starEach (e :: es) X.env = (false, eval e X.env) :: starEach es X.env := by rfl) (hpl : (backTo pos (starEach es X.env)).any (·.1) = false := by rfl)
    (ht : eval (.Call (.Attribute o m apos) (e :: es) [] pos) X.env = (do
      let ov ← eval o X.env
      standAt apos.atName
      let (f, first) ← holding [ov] (getMethod ov m pl)
      callWith pos f first (backTo pos (starEach (e :: es) X.env)) (backToKw pos (keywordEach [] X.env))) := by rfl) :
    PE X (.Call (.Attribute o m apos) (e :: es) [] pos) (tMethD D m E ta t) := by
  refine ⟨fun pins s σ H Q I h => ?_⟩
  refine PySem.W.methodCall_KW (pl := pl) (thn (he.run pins s σ H _ I h) fun u s1 ⟨x, H1, I1, rx, a, C, dx, fs, f, sp, ex, ea, l, d, q⟩ => ?_) ht
  obtain ⟨c, hm, ps, O⟩ := hD _ _ _ d
  obtain ⟨fd, F, b, lkf⟩ := O.ex
  subst ex
  obtain rfl : u = Value.ref a := rx
  refine getmeth_ok I1 ea c hm l ?_
  refine PySem.W.callWith_K (first := [.ref a]) (h₀ := X.base) I.ok.mod.kin hm.kp (thn (ha.run pos pins s1 σ H1 _ I1 q) fun us s2 ⟨vs, H2, I2, r, q2⟩ => ⟨I2.kIn, ?_⟩) hst hpl
  exact run_fnS (E := E) (us := .ref a :: us) (vs := .ref a :: vs) F hr b (hx σ) I2 (.cons rfl r) q2
theorem pe_mD0 {pl : Sem Bool} (he : PE X o ta) (hD : ∀ C f sp, D C f sp → MD X.prog X.w X.K X.mg X.base k m C f sp) (hr : Room k X.A) (hx : ∀ σ, PassesAt (L2.CX X.prog X.w) X σ (E σ))
    (ht : eval (.Call (.Attribute o m apos) [] [] pos) X.env = (do
      let ov ← eval o X.env
      standAt apos.atName
      let (f, first) ← holding [ov] (getMethod ov m pl)
      callWith pos f first (backTo pos (starEach [] X.env)) (backToKw pos (keywordEach [] X.env))) := by rfl) :
    PE X (.Call (.Attribute o m apos) [] [] pos) (tMethD D m E ta tNil) := by
  refine ⟨fun pins s σ H Q I h => ?_⟩
  refine PySem.W.methodCall_KW (pl := pl) (thn (he.run pins s σ H _ I h) fun u s1 ⟨x, H1, I1, rx, a, C, dx, fs, f, sp, ex, ea, l, d, q⟩ => ?_) ht
  obtain ⟨c, hm, ps, O⟩ := hD _ _ _ d
  obtain ⟨fd, F, b, lkf⟩ := O.ex
  subst ex
  obtain rfl : u = Value.ref a := rx
  refine getmeth_ok I1 ea c hm l ?_
  exact PySem.W.callWith_K0 (first := [.ref a]) I1.kIn hm.kp (run_fnS (E := E) (us := [.ref a]) (vs := [.ref a]) F hr b (hx σ) I1 (.cons rfl .nil) q)
theorem pe_cOS (O : Ok X.prog X.w X.K X.mg X.base k f ps sp) (hr : Room k X.A) (hm : X.mg x = some (.ref f)) (hx : ∀ σ, PassesAt (L2.CX X.prog X.w) X σ (E σ)) (ha : PA X (e :: es) t) (hg : Gl X x := by rfl) (hdb : (x == ("__debug__" : Str)) = false := by decide)
    (he : starEach (e :: es) X.env = (false, eval e X.env) :: starEach es X.env := by rfl) (hpl : (backTo pos (starEach es X.env)).any (·.1) = false := by rfl) : PE X (.Call (.Name x p) (e :: es) [] pos) (tCallS sp E t) := by
  obtain ⟨fd, F, b, lkf⟩ := O.ex
  exact pe_callS F hr hg hm O.kp b hx ha hdb he hpl
def tMakeS (C : Addr) (sp : Sp) (E : L2.St → XK) (t : TA) : TE := fun σ H Q => t σ H fun vs H1 => ∀ x dx, H1 x = none → H1 dx = none → dx ≠ x → sp (.ref x :: vs) (upd (upd H1 dx (.own x)) x (.ins C dx [])) (fun v H2 => v = .non ∧ Q (.ref x) H2) (E σ)
theorem run_makeS {pins : List (Addr × Obj)} {σ : L2.St} {H : Hp} {s : Shared} {Q : VK} {us : List Value} {vs : List V} {fd : FuncData} (M : Mk X.K C f) (F : FnOk X.prog X.w X.K X.mg X.base (L2.CX X.prog X.w) k f fd ps sp) (hr : Room (k + 1) X.A) (hb : Binds X.K fd ps [])
    (tk : ∀ (H' : Hp) (s' : Shared) (e : Value) (s'' : Shared), Inv X pins σ H' s' → L2.CX X.prog X.w X.stack H' s' (E σ) e s'' → X.xe e s'') (I : Inv X pins σ H s) (r : Vals vs us)
    (h : ∀ x dx, H x = none → H dx = none → dx ≠ x → sp (.ref x :: vs) (upd (upd H dx (.own x)) x (.ins C dx [])) (fun v H2 => v = .non ∧ Q (.ref x) H2) (E σ)) :
    wpAny (model X.prog X.w) X.A (call (.ref C) us) (EP X pins σ Q) X.xe s := by
  have hq := h (s.heap.objs.size + 1) s.heap.objs.size (I.hok.fresh (Nat.le_succ _)) (I.hok.fresh (Nat.le_refl _)) (Nat.ne_of_lt (Nat.lt_succ_self _))
  have I2 := Inv.made (C := C) I
  have r2 : Vals (V.ref (s.heap.objs.size + 1) :: vs) (Value.ref (s.heap.objs.size + 1) :: us) := .cons rfl r
  have hl : (Value.ref (s.heap.objs.size + 1) :: us).length = ps.length := by
    have e := r2.length
    rw [F.len _ _ _ _ hq] at e
    exact e.symm
  have hb2 := hb _ (Value.ref (s.heap.objs.size + 1) :: us) I2.kIn (by rw [List.append_nil]; exact hl)
  rw [List.append_nil] at hb2
  refine wpAny_call (make_map (f := f) I.kIn M.makes M.init (beq_iff_eq.mp M.fn) (codeAny_mono (F.run _ X.stack _ _ ⟨Value.ref (s.heap.objs.size + 1) :: us, []⟩ (Value.ref (s.heap.objs.size + 1) :: us) _ _ (E σ) (hr.make C us [])
    (I2.env0.make C us []) hb2 r2 hq) fun r s' hq' => ?_))
  cases r with
  | error e => exact tk _ _ e s' I2 hq'
  | ok fl =>
    cases fl with
    | ret u =>
      obtain ⟨v, H', I3, rv, ev, q3⟩ := I2.after hq'
      subst ev
      exact ⟨rv, ⟨V.ref (s.heap.objs.size + 1), H', I3, rfl, q3⟩⟩
    | next => exact False.elim hq'
    | brk => exact False.elim hq'
    | cont => exact False.elim hq'
theorem pe_kOS (M : Mk X.K C fI) (O : Ok X.prog X.w X.K X.mg X.base k fI ps sp) (hr : Room (k + 1) X.A) (hm : X.mg x = some (.ref C)) (hx : ∀ σ, PassesAt (L2.CX X.prog X.w) X σ (E σ)) (ha : PA X (e :: es) t) (hg : Gl X x := by rfl) (hdb : (x == ("__debug__" : Str)) = false := by decide)
    (he : starEach (e :: es) X.env = (false, eval e X.env) :: starEach es X.env := by rfl) (hpl : (backTo pos (starEach es X.env)).any (·.1) = false := by rfl) : PE X (.Call (.Name x p) (e :: es) [] pos) (tMakeS C sp E t) := by
  obtain ⟨fd, F, b, lkf⟩ := O.ex
  refine ⟨fun pins s σ H Q I h => ?_⟩
  refine wpAny_Call_Name_kw (ld_glob I hg hm ?_ hdb)
  refine PySem.W.callWith_K (h₀ := X.base) I.ok.mod.kin M.kp (thn (ha.run pos pins s σ H _ I h) fun us s1 ⟨vs, H1, I1, r, q⟩ => ⟨I1.kIn, ?_⟩) he hpl
  exact run_makeS (E := E) M F hr b (fun H' s' e s'' I' c => hx σ pins H' s' e s'' I' c) I1 r q
end
/-- nothing is let out here -/
theorem passLS {X : Cx} (σ : L2.St) : PassesAt (L2.CX X.prog X.w) X σ (fun _ _ _ => False) := fun _ _ _ _ _ _ h => by
  obtain ⟨_, _, _, _, _, _, _, _, _, _, _, _, z⟩ := h
  exact z.elim
/-- what the def itself may let out -/
theorem passOS {X : Cx} {E : XK} (tk : Takes X (fun cls d _ H => E cls d H)) (σ : L2.St) : PassesAt (L2.CX X.prog X.w) X σ E := fun _ _ _ e s' I c => tk e s' (XE.of_call I (fun _ _ _ h => h) c)
section
variable {X : Cx} {K : PySem.W.Frag} {T id : String} {name : Str} {r : V → List V → Hp → VK → Prop} {o e : Expr} {es : List Expr} {to : TE} {t : TA} {apos cpos : Pos}
theorem bmQ (pa : PlainAttrs T) (slot : Slot T name id) (hty : typeOf (.builtin id) = pure (.type "method_descriptor")) (hm : MtR X id r) (ho : PE X o to) (ha : PA X (e :: es) t)
    (hbase : attributeBase o name X.env (eval o X.env) = eval o X.env := by rfl)
    (hfew : ((backTo cpos (starEach (e :: es) X.env)).all (fun x => !x.1) && (backToKw cpos (keywordEach [] X.env)).all (fun x => x.1.isSome) && decide ((e :: es).length + ([] : List Keyword).length + (if ([] : List Keyword).isEmpty then 0 else 1) < 30)) = true := by rfl)
    (hline : (apos.endLine == cpos.line) = true := by rfl) (hs : starEach (e :: es) X.env = (false, eval e X.env) :: starEach es X.env := by rfl) (hplain : (backTo cpos (starEach es X.env)).any (·.1) = false := by rfl) (hk : X.K = K := by rfl) :
    PE X (.Call (.Attribute o name apos) (e :: es) [] cpos) (tBM K T r to t) := by
  subst hk
  exact pe_bm pa slot hty hm ho ha hbase hfew hline hs hplain
theorem bmQ0 (pa : PlainAttrs T) (slot : Slot T name id) (hty : typeOf (.builtin id) = pure (.type "method_descriptor")) (hm : MtR X id r) (ho : PE X o to)
    (hbase : attributeBase o name X.env (eval o X.env) = eval o X.env := by rfl) (hline : (apos.endLine == cpos.line) = true := by rfl) (hk : X.K = K := by rfl) : PE X (.Call (.Attribute o name apos) [] [] cpos) (tBM0 K T r to) := by
  subst hk
  exact pe_bm0 pa slot hty hm ho hbase hline
def rJoinQ (K : PySem.W.Frag) : V → List V → Hp → VK → Prop := fun x xs H Q => ∃ a p, ∃ ys : List Str, x = .str a ∧ xs = [.ref p] ∧ (SqL K H p (ys.map V.str) ∨ SqT K H p (ys.map V.str)) ∧ (ys.map (·.length)).sum + ys.length * a.length ≤ 16777216 ∧ Q (.str (Txt.join a ys)) H
theorem joinQ {te : TE} (ho : PE X o to) (he : PE X e te) (hs : starEach [e] X.env = [(false, eval e X.env)] := by rfl) (hbase : attributeBase o "join" X.env (eval o X.env) = eval o X.env := by rfl) (hline : (apos.endLine == cpos.line) = true := by rfl) (hk : X.K = K := by rfl) :
    PE X (.Call (.Attribute o "join" apos) [e] [] cpos) (tM1 (rJoinQ K) to te) := by
  subst hk
  exact pe_join ho he hs hbase hline
end
/-! ### the law's end -/
theorem cx0_of {P : Program} {w : World} {K : PySem.W.Frag} {mg : Str → Option Value} {base : Heap} {k : Nat} {f : Addr} {fd : FuncData} {ps : List Str} {sp : Sp} (F : FnOk P w K mg base (L2.CX P w) k f fd ps sp) :
    FnOk P w K mg base CX0 k f fd ps (fun vs H Q _ => sp vs H Q fun _ _ _ => False) := by
  refine ⟨fun vs H Q E h => F.len vs H Q _ h, fun A outer s H args us vs Q E hr he hb hv hs => codeAny_mono (F.run A outer s H args us vs Q _ hr he hb hv hs) fun r s' hq => ?_⟩
  cases r with
  | error e =>
    obtain ⟨_, _, _, _, _, _, _, _, _, _, _, _, z⟩ := hq
    exact z.elim
  | ok fl => cases fl <;> exact hq
theorem fd_same {K : PySem.W.Frag} {f : Addr} {fd fd0 : FuncData} (h1 : ∃ oc od sl, K.lookup f = some ⟨oc, od, .func fd, sl⟩) (h2 : ∃ oc od sl, K.lookup f = some ⟨oc, od, .func fd0, sl⟩) : fd = fd0 := by
  obtain ⟨_, _, _, e1⟩ := h1
  obtain ⟨_, _, _, e2⟩ := h2
  have e := e1.symm.trans e2
  cases e
  rfl
theorem law_end {P : Program} {w : World} {K : PySem.W.Frag} {mg : Str → Option Value} {h : Heap} {x qual : Str} {params : Arguments} {body : List Stmt} {scope : Scope} {f : Addr} {fd0 : FuncData} {k : Nat} {p : Str} {sp : Sp} {n : Nat} (KX : K.In h)
    (F0 : FunD K x qual params body scope [] [] f fd0) (hb : ∀ (s : Shared) (u : Value), BindsTo s fd0 ⟨[u], []⟩ [(p, u)]) (O : ∀ base : Heap, Ok P w K mg base k f [p] sp)
    (hsp : ∀ (H : Hp) (a : Addr) (ns : List Int), ns.length ≤ n → SqL K H a (ns.map V.int) → sp [.ref a] H (fun v _ => v = .bl true) fun _ _ _ => False) :
    ∃ (K : PySem.W.Frag) (fd : FuncData) (sp : Sp), K.In h ∧ (∀ (s : Shared) (u : Value), BindsTo s fd ⟨[u], []⟩ [(p, u)]) ∧
      (∀ (H : Hp) (a : Addr) (ns : List Int), ns.length ≤ n → Only H → SqL K H a (ns.map V.int) → sp [.ref a] H (fun v _ => v = .bl true) fun _ _ _ => False) ∧
      ∀ base : Heap, K.In base → base.Ns mainGlobals mg → FnOk P w K mg base CX0 k f fd [p] sp := by
  refine ⟨K, fd0, fun vs H Q _ => sp vs H Q fun _ _ _ => False, KX, hb, fun H a ns hl _ hS => hsp H a ns hl hS, fun base _ _ => ?_⟩
  obtain ⟨fd, F, b, lkf⟩ := (O base).ex
  obtain ⟨oc, od, dV, kV, doc, pm, an, cdv, ct, osl, e0, lk, _⟩ := F0.ex
  have e : fd = fd0 := fd_same lkf ⟨oc, od, osl, lk⟩
  subst e
  exact cx0_of F
end Bs

set_option maxHeartbeats 4000000
/-! own exceptions with their own __init__, held as values; isinstance and fields of them; text times a number -/
namespace ExV
open PySem PySem.Spec PyProof.Rows L2 He HkS Bs
/-- an exception object of the class at C with the dict d at a -/
def ExT (C : Addr) (d : Option Addr) (a : Addr) : HO := .ext fun h => ∃ (oe : Obj) (vs : Array Value), h.get? a = some oe ∧ Zc (.ref C) d oe ∧ oe.data = .fields vs
theorem exT_ok {P : Program} {w : World} {H : Hp} {h : Heap} {a C : Addr} {d : Option Addr} {oe : Obj} {vs : Array Value} (e : h.get? a = some oe) (z : Zc (.ref C) d oe) (hd : oe.data = .fields vs) : ObjOk P w H h a (ExT C d a) :=
  ⟨⟨oe, vs, e, z, hd⟩, ⟨oe, e⟩, fun _ _ ⟨o, v, q, r⟩ k => ⟨o, v, k o q, r⟩⟩
section
variable {X : Cx} {C : Addr} {f : Str} {okv : V → Prop}
theorem pe_e0 {x : Str} {p pos : Pos} {k : Nat} (T : ExS.E0 X.prog X.K C) (gC : X.mg x = some (.ref C)) (hs : X.mg "super" = none) (ht : (X.prog.main.scope.names.lookup ("super" : Str)).isSome = false) (hr : Room k X.A) (hg : Gl X x := by rfl)
    (hdb : (x == ("__debug__" : Str)) = false := by decide) :
    PE X (.Call (.Name x p) [] [] pos) (fun _ H Q => ∀ a, H a = none → Q (.ref a) (upd H a (ExT C none a))) := by
  refine ⟨fun pins s σ H Q I h => ?_⟩
  refine wpAny_Call_Name_kw (ld_glob I hg gC ?_ hdb)
  refine PySem.W.callWith_K0 I.kIn T.kC ?_
  have hlim := I.nolimit
  have bl := ExS.blt_of I hs ht
  have X1 := I.kIn
  refine wpAny_call (T.made X1 bl hlim (by have := hr.dp; omega) fun h' tk' e t1 k' hn he => ?_)
  exact ⟨.ref e, upd H e (ExT C none e), I.laid (t' := tk') k' hn (exT_ok he ⟨rfl, rfl⟩ rfl), rfl, h e (I.hok.fresh hn)⟩
theorem pe_e1 {x : Str} {a : Expr} {ta : TA} {p pos : Pos} {k : Nat} (T : ExS.E1 X.prog X.K C f okv) (gC : X.mg x = some (.ref C)) (hs : X.mg "super" = none) (ht : (X.prog.main.scope.names.lookup ("super" : Str)).isSome = false) (hr : Room k X.A) (ha : PA X [a] ta) (hg : Gl X x := by rfl)
    (hdb : (x == ("__debug__" : Str)) = false := by decide)
    (he : starEach (a :: []) X.env = (false, eval a X.env) :: starEach [] X.env := by rfl) (hpl : (backTo pos (starEach [] X.env)).any (·.1) = false := by rfl) :
    PE X (.Call (.Name x p) [a] [] pos) (fun σ H Q => ta σ H fun vs H1 => ∃ v, vs = [v] ∧ okv v ∧ ∀ d e, H1 d = none → H1 e = none → e ≠ d → Q (.ref e) (upd (upd H1 d (.xd [(f, v)])) e (ExT C (some d) e))) := by
  refine ⟨fun pins s σ H Q I h => ?_⟩
  refine wpAny_Call_Name_kw (ld_glob I hg gC ?_ hdb)
  refine PySem.W.callWith_K (h₀ := X.base) I.ok.mod.kin T.kC (thn (ha.run pos pins s σ H _ I h) fun us s1 hh => ?_) he hpl
  obtain ⟨vs, H1, I1, r1, v, ev, ov, q1⟩ := hh
  subst ev
  refine ⟨I1.kIn, ?_⟩
  cases r1 with
  | cons rv rn =>
    rename_i v' us'
    cases rn
    show wpAny _ _ (call (.ref C) [v']) _ _ _
    have hlim := I1.nolimit
    have bl := ExS.blt_of I1 hs ht
    have X1 := I1.kIn
    refine wpAny_call (T.made rv ov X1 bl hlim (by have := hr.dp; omega) fun h' tk' e t1 dx k' hn dn dne heo hns => ?_)
    obtain ⟨G', g1, g2⟩ := restrict h' fun b => decide (b ≠ e)
    have gk : ∀ b, b ≠ e → G'.get? b = h'.get? b := fun b hb => g1 b (decide_eq_true hb)
    have ge : G'.get? e = none := g2 e (by simp)
    have old : ∀ b o, s1.heap.get? b = some o → G'.get? b = some o := fun b o q => (gk b (Nat.ne_of_lt (Nat.lt_of_lt_of_le (Heap.lt_size q) hn))).trans (k' b o q)
    have ob : ObjOk X.prog X.w (upd H1 dx (.xd [(f, v)])) G' dx (.xd [(f, v)]) :=
      ⟨_, hns.at (fun o q => (gk dx dne).trans q), fun y => ExS.relO1 f rv y⟩
    have J : Inv X pins σ (upd H1 dx (.xd [(f, v)])) { s1 with heap := G', toks := tk' } := I1.laid (t' := tk') old dn ob
    have kk : ∀ b o, G'.get? b = some o → h'.get? b = some o := fun b o q => by
      by_cases hb : b = e
      · rw [hb, ge] at q; cases q
      · exact (gk b hb).symm.trans q
    have hne : (upd H1 dx (.xd [(f, v)])) e = none := by
      rw [upd_ne (Ne.symm dne)]
      exact I1.hok.fresh hn
    have J2 := J.laidN (h' := h') (a := e) (o := ExT C (some dx) e) (t' := tk') kk ge hne (exT_ok heo ⟨rfl, rfl⟩ rfl)
    exact ⟨.ref e, _, J2, rfl, q1 dx e (I1.hok.fresh dn) (I1.hok.fresh hn) (Ne.symm dne)⟩
end
/-! ### isinstance -/
def rIsX (K : PySem.W.Frag) : List V → Hp → VK → Prop := fun xs H Q => ∃ (a C : Addr) (d : Option Addr) (c : V) (cv : Value) (b : Bool), xs = [.ref a, c] ∧ H a = some (ExT C d a) ∧ (d = none ∨ ∃ dd fs, d = some dd ∧ H dd = some (.xd fs)) ∧ ExcC K C ∧ (∀ u, RelV c u → u = cv) ∧ PySem.W.kitOne K (.ref C) cv = some b ∧ Q (.bl b) H
theorem isXQ {X : Cx} {K : PySem.W.Frag} (hk : X.K = K := by rfl) : CallR X (.builtin "isinstance") (rIsX K) := by
  subst hk
  intro pins s σ H xs us Q I r h
  obtain ⟨a, C, d, c, cv, b, rfl, ha, hd, T, hcv, e, q⟩ := h
  cases r with
  | cons rx rr =>
    cases rr with
    | cons rt rr =>
      cases rr
      cases rx
      have ec := hcv _ rt
      subst ec
      obtain ⟨⟨oe, vs, ho, hz, hdt⟩, _, _⟩ := I.hok a _ ha
      obtain ⟨cd, hcd, _⟩ := PySem.W.any_some T.hd
      have hcl : (PySem.W.clsIn X.K C).isSome = true := by rw [hcd]; rfl
      have fin : ∀ od : Option Obj, PySem.W.InstAt s.heap a oe C od → wpAny (model X.prog X.w) X.A (call (.builtin "isinstance") [.ref a, _]) (EP X pins σ Q) X.xe s := fun od J =>
        PySem.W.kia_one (PySem.W.kitx_exc hcl T.hg T.hk T.hs T.ha T.hn T.ht T.hm) I.kIn J e (fun z => nomatch z) fun tk => ⟨.bl b, H, I.kept (t' := tk) fun _ _ z => z, rfl, q⟩
      rcases hd with rfl | ⟨dd, fs, rfl, hx⟩
      · refine fin none ⟨ho, hz.1, by unfold PySem.W.notCls; rw [hdt] <;> rfl, ?_⟩
        rw [hz.2]
        trivial
      · have hx2 : ObjOk X.prog X.w H s.heap dd (.xd fs) := I.hok dd _ hx
        obtain ⟨mA, hns, hr⟩ := hx2
        obtain ⟨od, ho2, hl⟩ := lookIn_ns hns
        exact fin (some od) ⟨ho, hz.1, by unfold PySem.W.notCls; rw [hdt] <;> rfl, by rw [hz.2]; exact ho2⟩
/-! ### fields -/
def tXfV (K : PySem.W.Frag) (f : Str) (te : TE) : TE := fun σ H Q => te σ H fun x H1 => ∃ (a C dd : Addr) (fs : List (Str × V)) (v : V), x = .ref a ∧ H1 a = some (ExT C (some dd) a) ∧ H1 dd = some (.xd fs) ∧ XfC K C ∧ PySem.W.findIn K (.ref C) f = some none ∧ fs.lookup f = some v ∧ Q v H1
theorem pe_xfV {X : Cx} {K : PySem.W.Frag} {e : Expr} {te : TE} {pos : Pos} {n : Str} (he : PE X e te) (hb : attributeBase e n X.env (eval e X.env) = eval e X.env := by rfl) (hk : X.K = K := by rfl) :
    PE X (.Attribute e n pos) (tXfV K n te) := by
  subst hk
  refine ⟨fun pins s σ H Q I h => ?_⟩
  refine attr_of hb (thn (he.run pins s σ H _ I h) fun u s1 hh => ?_)
  obtain ⟨x, H1, I1, rx, a, C, dd, fs, v, ex, ha, ea, T, hno, l, q⟩ := hh
  subst ex
  obtain rfl : u = Value.ref a := rx
  obtain ⟨⟨oe, vs, ho, hz, hdt⟩, _, _⟩ := I1.hok a _ ha
  have hx : ObjOk X.prog X.w H1 s1.heap dd (.xd fs) := I1.hok dd _ ea
  obtain ⟨mA, hns, hr⟩ := hx
  obtain ⟨od, ho2, hl⟩ := lookIn_ns hns
  obtain ⟨u, hu, ru⟩ := RelO.some_of (v := v) (o := mA n) (by rw [← l]; exact hr n)
  have J : PySem.W.InstAt s1.heap a oe C (some od) := ⟨ho, hz.1, by unfold PySem.W.notCls; rw [hdt] <;> rfl, by rw [hz.2]; exact ho2⟩
  exact HandSPX.exc_get I1.kIn J T.ga T.gg T.exC (PySem.W.findObj_own T.hdC hno rfl (by rw [hl, hu])) (handed_of ru) ⟨v, H1, I1.tok _, ru, q⟩
/-! ### a text times a number -/
def rMulS : R2 := fun x y H Q => ∃ (i : Str) (n : Int), x = .str i ∧ y = .int n ∧ (decide (n < -(2 ^ 63 : Int)) || decide (n ≥ 2 ^ 63)) = false ∧ ¬ ((i.length : Int) > (2 ^ 63 - 1) / n) ∧ Builtin.Str.tooLong (i.length * n.toNat) = false ∧ ¬ n < 1 ∧ (n == 1 || i.length == 0) = false ∧
  (⟨(List.replicate n.toNat i.cps).foldl (· ++ ·) #[]⟩ : Str).length ≤ sizeLine ∧ Q (.str ⟨(List.replicate n.toNat i.cps).foldl (· ++ ·) #[]⟩) H
theorem op_mulS {X : Cx} : OpR X (binaryOp .Mult) rMulS := by
  intro pins s σ H x y v u Q I rx ry h
  obtain ⟨i, n, rfl, rfl, h1, h2, h3, h4, h5, h6, q⟩ := h
  obtain ⟨t, rfl⟩ := rx
  obtain ⟨t', rfl⟩ := ry
  refine PySem.P.mul_str h1 (fun _ _ => h2) (fun _ _ => h3) ?_
  rw [if_neg h4, h5, if_neg Bool.false_ne_true]
  exact ⟨h6, ⟨.str _, H, I.tok _, ⟨_, rfl⟩, q⟩⟩
/-! ### what the head says of the classes -/
def exCB (K : PySem.W.Frag) (C : Addr) : Bool :=
  decide (PySem.W.findIn K (.ref C) "__getattribute__" = some (some (.builtin "BaseException.__getattribute__"))) && (decide (PySem.W.findIn K (.ref C) "__getattr__" = some none) && (decide (PySem.W.subIn K (.ref C) (.type "BaseException") = some true) && (PySem.W.hasDictIn K C &&
  (decide (PySem.W.findIn K (.ref C) "__class__" = some (some (.builtin "object.__class__"))) && (decide (PySem.W.specialIn K (.builtin "object.__class__") "__get__" = some (some (.builtin "getset_descriptor.__get__"))) && (decide (PySem.W.takesIn K (.builtin "object.__class__") = some true) && decide (PySem.W.mroIn K C (.type "object") = some true)))))))
theorem exCB_ok {K : PySem.W.Frag} {C : Addr} (h : exCB K C = true) : ExcC K C := by
  obtain ⟨h1, h⟩ := ba h
  obtain ⟨h2, h⟩ := ba h
  obtain ⟨h3, h⟩ := ba h
  obtain ⟨h4, h⟩ := ba h
  obtain ⟨h5, h⟩ := ba h
  obtain ⟨h6, h⟩ := ba h
  obtain ⟨h7, h8⟩ := ba h
  exact ⟨of_decide_eq_true h1, of_decide_eq_true h2, of_decide_eq_true h3, h4, of_decide_eq_true h5, of_decide_eq_true h6, of_decide_eq_true h7, of_decide_eq_true h8⟩
end ExV

set_option maxHeartbeats 4000000
namespace Lk91
open PySem PySem.Spec PyProof.Rows L2 He HkS Bs
abbrev PG : Program := PySem.Challenge.pw_latticewish_k91_errors
def top (i : Nat) : Stmt := PySem.Challenge.pw_latticewish_k91_errors.main.body.getD i (.Pass ⟨0, 0, 0, 0⟩)
abbrev s_BadLattice___init__ : Stmt := inClass (top 2) 0
abbrev s_MixedLattices___init__ : Stmt := inClass (top 3) 0
abbrev s_BadText___init__ : Stmt := inClass (top 4) 0
abbrev s_BadName___init__ : Stmt := inClass (top 5) 0
abbrev s_TwiceTold___init__ : Stmt := inClass (top 6) 0
abbrev s_NotIrreducible___init__ : Stmt := inClass (top 7) 0
abbrev s_BadMap___init__ : Stmt := inClass (top 8) 0
abbrev s_InUse___init__ : Stmt := inClass (top 9) 0
abbrev s_UnknownValue___init__ : Stmt := inClass (top 11) 0
abbrev s_UnknownState___init__ : Stmt := inClass (top 12) 0
abbrev s_UnboundName___init__ : Stmt := inClass (top 13) 0
abbrev s_UnknownFormula___init__ : Stmt := inClass (top 14) 0
abbrev s__law_cells : Stmt := top 16
abbrev s__law_pick : Stmt := top 17
abbrev s__law_classes : Stmt := top 18
abbrev s_law : Stmt := top 19
def d__law_cells : DefD := ⟨("_law_cells", none), "_law_cells", "_law_cells", defArgs s__law_cells, defBody s__law_cells, defScope s__law_cells, [], []⟩
def d__law_pick : DefD := ⟨("_law_pick", none), "_law_pick", "_law_pick", defArgs s__law_pick, defBody s__law_pick, defScope s__law_pick, [], []⟩
def d__law_classes : DefD := ⟨("_law_classes", none), "_law_classes", "_law_classes", defArgs s__law_classes, defBody s__law_classes, defScope s__law_classes, [], []⟩
def d_law : DefD := ⟨("law", none), "law", "law", defArgs s_law, defBody s_law, defScope s_law, [], []⟩
def fnl : List DefD := [d__law_cells, d__law_pick, d__law_classes, d_law]
def x_BadLattice : ExD := ⟨"BadLattice", "ValueError", [.type "ValueError", .type "Exception", .type "BaseException", .type "object"], s_BadLattice___init__, "BadLattice.__init__"⟩
def x_MixedLattices : ExD := ⟨"MixedLattices", "ValueError", [.type "ValueError", .type "Exception", .type "BaseException", .type "object"], s_MixedLattices___init__, "MixedLattices.__init__"⟩
def x_BadText : ExD := ⟨"BadText", "ValueError", [.type "ValueError", .type "Exception", .type "BaseException", .type "object"], s_BadText___init__, "BadText.__init__"⟩
def x_BadName : ExD := ⟨"BadName", "ValueError", [.type "ValueError", .type "Exception", .type "BaseException", .type "object"], s_BadName___init__, "BadName.__init__"⟩
def x_TwiceTold : ExD := ⟨"TwiceTold", "ValueError", [.type "ValueError", .type "Exception", .type "BaseException", .type "object"], s_TwiceTold___init__, "TwiceTold.__init__"⟩
def x_NotIrreducible : ExD := ⟨"NotIrreducible", "ValueError", [.type "ValueError", .type "Exception", .type "BaseException", .type "object"], s_NotIrreducible___init__, "NotIrreducible.__init__"⟩
def x_BadMap : ExD := ⟨"BadMap", "ValueError", [.type "ValueError", .type "Exception", .type "BaseException", .type "object"], s_BadMap___init__, "BadMap.__init__"⟩
def x_InUse : ExD := ⟨"InUse", "ValueError", [.type "ValueError", .type "Exception", .type "BaseException", .type "object"], s_InUse___init__, "InUse.__init__"⟩
def x_UnknownValue : ExD := ⟨"UnknownValue", "LookupError", [.type "LookupError", .type "Exception", .type "BaseException", .type "object"], s_UnknownValue___init__, "UnknownValue.__init__"⟩
def x_UnknownState : ExD := ⟨"UnknownState", "LookupError", [.type "LookupError", .type "Exception", .type "BaseException", .type "object"], s_UnknownState___init__, "UnknownState.__init__"⟩
def x_UnboundName : ExD := ⟨"UnboundName", "LookupError", [.type "LookupError", .type "Exception", .type "BaseException", .type "object"], s_UnboundName___init__, "UnboundName.__init__"⟩
def x_UnknownFormula : ExD := ⟨"UnknownFormula", "LookupError", [.type "LookupError", .type "Exception", .type "BaseException", .type "object"], s_UnknownFormula___init__, "UnknownFormula.__init__"⟩
def exl : List ExD := [x_BadLattice, x_MixedLattices, x_BadText, x_BadName, x_TwiceTold, x_NotIrreducible, x_BadMap, x_InUse, x_UnknownValue, x_UnknownState, x_UnboundName, x_UnknownFormula]
def fal : List Fa := [.glo "_law_cells",
  .glo "_law_pick",
  .glo "_law_classes",
  .glo "law",
  .glo "LatticeError",
  .glo "BadLattice",
  .glo "MixedLattices",
  .glo "BadText",
  .glo "BadName",
  .glo "TwiceTold",
  .glo "NotIrreducible",
  .glo "BadMap",
  .glo "InUse",
  .glo "NameMissing",
  .glo "UnknownValue",
  .glo "UnknownState",
  .glo "UnboundName",
  .glo "UnknownFormula",
  .free "IndexError",
  .free "KeyError",
  .free "LookupError",
  .free "ValueError",
  .free "abs",
  .free "int",
  .free "isinstance",
  .free "len",
  .free "range",
  .free "super",
  .noat "BadText" "at",
  .noat "BadName" "name",
  .noat "TwiceTold" "name",
  .noat "NotIrreducible" "name",
  .noat "InUse" "name",
  .noat "UnknownValue" "name",
  .noat "UnknownState" "name",
  .noat "UnboundName" "name",
  .noat "UnknownFormula" "name"]
def cn (k : Nat) : Str := (["BadLattice", "MixedLattices", "BadMap", "BadText", "BadName", "TwiceTold", "NotIrreducible", "InUse", "UnknownValue", "UnknownState", "UnboundName", "UnknownFormula"] : List Str).getD k ""
def tb (K : PySem.W.Frag) (j : Nat) : Value := ([.ref (ga K "LatticeError"), .type "ValueError", .ref (ga K "NameMissing"), .type "LookupError", .type "KeyError", .type "IndexError"] : List Value).getD j .none
def bb (k j : Nat) : Bool := if j < 2 then decide (k < 8) else if j < 4 then decide (7 < k) else false
def extra (K : PySem.W.Frag) : Bool := (List.range 12).all fun k => ExV.exCB K (ga K (cn k)) && ((List.range 12).all (fun j => decide (PySem.W.kitOne K (.ref (ga K (cn k))) (.ref (ga K (cn j))) = some (decide (j = k)))) && (List.range 6).all fun j => decide (PySem.W.kitOne K (.ref (ga K (cn k))) (tb K j) = some (bb k j)))

def more (K : PySem.W.Frag) : Bool := true && xfB K (ga K "BadText") && xfB K (ga K "BadName") && xfB K (ga K "TwiceTold") && xfB K (ga K "NotIrreducible") && xfB K (ga K "InUse") && xfB K (ga K "UnknownValue") && xfB K (ga K "UnknownState") && xfB K (ga K "UnboundName") && xfB K (ga K "UnknownFormula") && extra K
theorem top_super : (PG.main.scope.names.lookup ("super" : Str)).isSome = false := by decide +kernel
structure Ctx (K : PySem.W.Frag) (mg : Str → Option Value) : Prop where
  s : SaysM PG fal fnl exl more K
  g : ∀ x, (Fa.glo x).ok K = true → mg x = some (.ref (ga K x))
  f : ∀ x, (Fa.free x).ok K = true → mg x = none
  i : ∀ x j, (Fa.int x j).ok K = true → ∃ t, mg x = some (.int j t)
  t : ∀ x j, (Fa.str x j).ok K = true → ∃ t, mg x = some (.str j t)
theorem ctx_of {K : PySem.W.Frag} {h : Heap} {mg : Str → Option Value} (X : K.In h) (G : h.Ns mainGlobals mg) (c : SaysM PG fal fnl exl more K) : Ctx K mg :=
  ⟨c, fun _ q => glo_ok X G q, fun _ q => free_ok X G q, fun _ _ q => int_ok X G q, fun _ _ q => str_ok X G q⟩
section
variable {K : PySem.W.Frag} {mg : Str → Option Value}
theorem g__law_cells (Z : Ctx K mg) : mg "_law_cells" = some (.ref (ga K "_law_cells")) := Z.g _ (Z.s.fact 0)
theorem g__law_pick (Z : Ctx K mg) : mg "_law_pick" = some (.ref (ga K "_law_pick")) := Z.g _ (Z.s.fact 1)
theorem g__law_classes (Z : Ctx K mg) : mg "_law_classes" = some (.ref (ga K "_law_classes")) := Z.g _ (Z.s.fact 2)
theorem g_law (Z : Ctx K mg) : mg "law" = some (.ref (ga K "law")) := Z.g _ (Z.s.fact 3)
theorem g_LatticeError (Z : Ctx K mg) : mg "LatticeError" = some (.ref (ga K "LatticeError")) := Z.g _ (Z.s.fact 4)
theorem g_BadLattice (Z : Ctx K mg) : mg "BadLattice" = some (.ref (ga K "BadLattice")) := Z.g _ (Z.s.fact 5)
theorem g_MixedLattices (Z : Ctx K mg) : mg "MixedLattices" = some (.ref (ga K "MixedLattices")) := Z.g _ (Z.s.fact 6)
theorem g_BadText (Z : Ctx K mg) : mg "BadText" = some (.ref (ga K "BadText")) := Z.g _ (Z.s.fact 7)
theorem g_BadName (Z : Ctx K mg) : mg "BadName" = some (.ref (ga K "BadName")) := Z.g _ (Z.s.fact 8)
theorem g_TwiceTold (Z : Ctx K mg) : mg "TwiceTold" = some (.ref (ga K "TwiceTold")) := Z.g _ (Z.s.fact 9)
theorem g_NotIrreducible (Z : Ctx K mg) : mg "NotIrreducible" = some (.ref (ga K "NotIrreducible")) := Z.g _ (Z.s.fact 10)
theorem g_BadMap (Z : Ctx K mg) : mg "BadMap" = some (.ref (ga K "BadMap")) := Z.g _ (Z.s.fact 11)
theorem g_InUse (Z : Ctx K mg) : mg "InUse" = some (.ref (ga K "InUse")) := Z.g _ (Z.s.fact 12)
theorem g_NameMissing (Z : Ctx K mg) : mg "NameMissing" = some (.ref (ga K "NameMissing")) := Z.g _ (Z.s.fact 13)
theorem g_UnknownValue (Z : Ctx K mg) : mg "UnknownValue" = some (.ref (ga K "UnknownValue")) := Z.g _ (Z.s.fact 14)
theorem g_UnknownState (Z : Ctx K mg) : mg "UnknownState" = some (.ref (ga K "UnknownState")) := Z.g _ (Z.s.fact 15)
theorem g_UnboundName (Z : Ctx K mg) : mg "UnboundName" = some (.ref (ga K "UnboundName")) := Z.g _ (Z.s.fact 16)
theorem g_UnknownFormula (Z : Ctx K mg) : mg "UnknownFormula" = some (.ref (ga K "UnknownFormula")) := Z.g _ (Z.s.fact 17)
theorem f_IndexError (Z : Ctx K mg) : mg "IndexError" = none := Z.f _ (Z.s.fact 18)
theorem f_KeyError (Z : Ctx K mg) : mg "KeyError" = none := Z.f _ (Z.s.fact 19)
theorem f_LookupError (Z : Ctx K mg) : mg "LookupError" = none := Z.f _ (Z.s.fact 20)
theorem f_ValueError (Z : Ctx K mg) : mg "ValueError" = none := Z.f _ (Z.s.fact 21)
theorem f_abs (Z : Ctx K mg) : mg "abs" = none := Z.f _ (Z.s.fact 22)
theorem f_int (Z : Ctx K mg) : mg "int" = none := Z.f _ (Z.s.fact 23)
theorem f_isinstance (Z : Ctx K mg) : mg "isinstance" = none := Z.f _ (Z.s.fact 24)
theorem f_len (Z : Ctx K mg) : mg "len" = none := Z.f _ (Z.s.fact 25)
theorem f_range (Z : Ctx K mg) : mg "range" = none := Z.f _ (Z.s.fact 26)
theorem f_super (Z : Ctx K mg) : mg "super" = none := Z.f _ (Z.s.fact 27)
theorem n_BadText_at (Z : Ctx K mg) : NoAttr K (ga K "BadText") "at" := noat_ok (Z.s.fact 28)
theorem n_BadName_name (Z : Ctx K mg) : NoAttr K (ga K "BadName") "name" := noat_ok (Z.s.fact 29)
theorem n_TwiceTold_name (Z : Ctx K mg) : NoAttr K (ga K "TwiceTold") "name" := noat_ok (Z.s.fact 30)
theorem n_NotIrreducible_name (Z : Ctx K mg) : NoAttr K (ga K "NotIrreducible") "name" := noat_ok (Z.s.fact 31)
theorem n_InUse_name (Z : Ctx K mg) : NoAttr K (ga K "InUse") "name" := noat_ok (Z.s.fact 32)
theorem n_UnknownValue_name (Z : Ctx K mg) : NoAttr K (ga K "UnknownValue") "name" := noat_ok (Z.s.fact 33)
theorem n_UnknownState_name (Z : Ctx K mg) : NoAttr K (ga K "UnknownState") "name" := noat_ok (Z.s.fact 34)
theorem n_UnboundName_name (Z : Ctx K mg) : NoAttr K (ga K "UnboundName") "name" := noat_ok (Z.s.fact 35)
theorem n_UnknownFormula_name (Z : Ctx K mg) : NoAttr K (ga K "UnknownFormula") "name" := noat_ok (Z.s.fact 36)
theorem fd__law_cells (Z : Ctx K mg) : ∃ fd, FunD K "_law_cells" "_law_cells" (defArgs s__law_cells) (defBody s__law_cells) (defScope s__law_cells) [] [] (ga K "_law_cells") fd := Z.s.def_ 0 (d := d__law_cells)
theorem fd__law_pick (Z : Ctx K mg) : ∃ fd, FunD K "_law_pick" "_law_pick" (defArgs s__law_pick) (defBody s__law_pick) (defScope s__law_pick) [] [] (ga K "_law_pick") fd := Z.s.def_ 1 (d := d__law_pick)
theorem fd__law_classes (Z : Ctx K mg) : ∃ fd, FunD K "_law_classes" "_law_classes" (defArgs s__law_classes) (defBody s__law_classes) (defScope s__law_classes) [] [] (ga K "_law_classes") fd := Z.s.def_ 2 (d := d__law_classes)
theorem fd_law (Z : Ctx K mg) : ∃ fd, FunD K "law" "law" (defArgs s_law) (defBody s_law) (defScope s_law) [] [] (ga K "law") fd := Z.s.def_ 3 (d := d_law)
theorem xx_BadLattice (Z : Ctx K mg) : ExS.ESup PG K (ga K "BadLattice") (iAd K "BadLattice") "ValueError" ("ValueError" ++ ".__new__") ("ValueError" ++ ".__init__") [.type "ValueError", .type "Exception", .type "BaseException", .type "object"] "BadLattice.__init__" (defArgs s_BadLattice___init__) (defBody s_BadLattice___init__) (defScope s_BadLattice___init__) ∧ PySem.W.keepIn K (.ref (ga K "BadLattice")) = true ∧ PySem.W.subIn K (.ref (ga K "BadLattice")) (.type "BaseException") = some true ∧ PySem.W.typeIn K (.ref (ga K "BadLattice")) = some (.type "type") ∧ PySem.W.hasDictIn K (ga K "BadLattice") = true := Z.s.exn 0 (d := x_BadLattice) base_VE
theorem xx_MixedLattices (Z : Ctx K mg) : ExS.ESup PG K (ga K "MixedLattices") (iAd K "MixedLattices") "ValueError" ("ValueError" ++ ".__new__") ("ValueError" ++ ".__init__") [.type "ValueError", .type "Exception", .type "BaseException", .type "object"] "MixedLattices.__init__" (defArgs s_MixedLattices___init__) (defBody s_MixedLattices___init__) (defScope s_MixedLattices___init__) ∧ PySem.W.keepIn K (.ref (ga K "MixedLattices")) = true ∧ PySem.W.subIn K (.ref (ga K "MixedLattices")) (.type "BaseException") = some true ∧ PySem.W.typeIn K (.ref (ga K "MixedLattices")) = some (.type "type") ∧ PySem.W.hasDictIn K (ga K "MixedLattices") = true := Z.s.exn 1 (d := x_MixedLattices) base_VE
theorem xx_BadText (Z : Ctx K mg) : ExS.ESup PG K (ga K "BadText") (iAd K "BadText") "ValueError" ("ValueError" ++ ".__new__") ("ValueError" ++ ".__init__") [.type "ValueError", .type "Exception", .type "BaseException", .type "object"] "BadText.__init__" (defArgs s_BadText___init__) (defBody s_BadText___init__) (defScope s_BadText___init__) ∧ PySem.W.keepIn K (.ref (ga K "BadText")) = true ∧ PySem.W.subIn K (.ref (ga K "BadText")) (.type "BaseException") = some true ∧ PySem.W.typeIn K (.ref (ga K "BadText")) = some (.type "type") ∧ PySem.W.hasDictIn K (ga K "BadText") = true := Z.s.exn 2 (d := x_BadText) base_VE
theorem xx_BadName (Z : Ctx K mg) : ExS.ESup PG K (ga K "BadName") (iAd K "BadName") "ValueError" ("ValueError" ++ ".__new__") ("ValueError" ++ ".__init__") [.type "ValueError", .type "Exception", .type "BaseException", .type "object"] "BadName.__init__" (defArgs s_BadName___init__) (defBody s_BadName___init__) (defScope s_BadName___init__) ∧ PySem.W.keepIn K (.ref (ga K "BadName")) = true ∧ PySem.W.subIn K (.ref (ga K "BadName")) (.type "BaseException") = some true ∧ PySem.W.typeIn K (.ref (ga K "BadName")) = some (.type "type") ∧ PySem.W.hasDictIn K (ga K "BadName") = true := Z.s.exn 3 (d := x_BadName) base_VE
theorem xx_TwiceTold (Z : Ctx K mg) : ExS.ESup PG K (ga K "TwiceTold") (iAd K "TwiceTold") "ValueError" ("ValueError" ++ ".__new__") ("ValueError" ++ ".__init__") [.type "ValueError", .type "Exception", .type "BaseException", .type "object"] "TwiceTold.__init__" (defArgs s_TwiceTold___init__) (defBody s_TwiceTold___init__) (defScope s_TwiceTold___init__) ∧ PySem.W.keepIn K (.ref (ga K "TwiceTold")) = true ∧ PySem.W.subIn K (.ref (ga K "TwiceTold")) (.type "BaseException") = some true ∧ PySem.W.typeIn K (.ref (ga K "TwiceTold")) = some (.type "type") ∧ PySem.W.hasDictIn K (ga K "TwiceTold") = true := Z.s.exn 4 (d := x_TwiceTold) base_VE
theorem xx_NotIrreducible (Z : Ctx K mg) : ExS.ESup PG K (ga K "NotIrreducible") (iAd K "NotIrreducible") "ValueError" ("ValueError" ++ ".__new__") ("ValueError" ++ ".__init__") [.type "ValueError", .type "Exception", .type "BaseException", .type "object"] "NotIrreducible.__init__" (defArgs s_NotIrreducible___init__) (defBody s_NotIrreducible___init__) (defScope s_NotIrreducible___init__) ∧ PySem.W.keepIn K (.ref (ga K "NotIrreducible")) = true ∧ PySem.W.subIn K (.ref (ga K "NotIrreducible")) (.type "BaseException") = some true ∧ PySem.W.typeIn K (.ref (ga K "NotIrreducible")) = some (.type "type") ∧ PySem.W.hasDictIn K (ga K "NotIrreducible") = true := Z.s.exn 5 (d := x_NotIrreducible) base_VE
theorem xx_BadMap (Z : Ctx K mg) : ExS.ESup PG K (ga K "BadMap") (iAd K "BadMap") "ValueError" ("ValueError" ++ ".__new__") ("ValueError" ++ ".__init__") [.type "ValueError", .type "Exception", .type "BaseException", .type "object"] "BadMap.__init__" (defArgs s_BadMap___init__) (defBody s_BadMap___init__) (defScope s_BadMap___init__) ∧ PySem.W.keepIn K (.ref (ga K "BadMap")) = true ∧ PySem.W.subIn K (.ref (ga K "BadMap")) (.type "BaseException") = some true ∧ PySem.W.typeIn K (.ref (ga K "BadMap")) = some (.type "type") ∧ PySem.W.hasDictIn K (ga K "BadMap") = true := Z.s.exn 6 (d := x_BadMap) base_VE
theorem xx_InUse (Z : Ctx K mg) : ExS.ESup PG K (ga K "InUse") (iAd K "InUse") "ValueError" ("ValueError" ++ ".__new__") ("ValueError" ++ ".__init__") [.type "ValueError", .type "Exception", .type "BaseException", .type "object"] "InUse.__init__" (defArgs s_InUse___init__) (defBody s_InUse___init__) (defScope s_InUse___init__) ∧ PySem.W.keepIn K (.ref (ga K "InUse")) = true ∧ PySem.W.subIn K (.ref (ga K "InUse")) (.type "BaseException") = some true ∧ PySem.W.typeIn K (.ref (ga K "InUse")) = some (.type "type") ∧ PySem.W.hasDictIn K (ga K "InUse") = true := Z.s.exn 7 (d := x_InUse) base_VE
theorem xx_UnknownValue (Z : Ctx K mg) : ExS.ESup PG K (ga K "UnknownValue") (iAd K "UnknownValue") "LookupError" ("LookupError" ++ ".__new__") ("LookupError" ++ ".__init__") [.type "LookupError", .type "Exception", .type "BaseException", .type "object"] "UnknownValue.__init__" (defArgs s_UnknownValue___init__) (defBody s_UnknownValue___init__) (defScope s_UnknownValue___init__) ∧ PySem.W.keepIn K (.ref (ga K "UnknownValue")) = true ∧ PySem.W.subIn K (.ref (ga K "UnknownValue")) (.type "BaseException") = some true ∧ PySem.W.typeIn K (.ref (ga K "UnknownValue")) = some (.type "type") ∧ PySem.W.hasDictIn K (ga K "UnknownValue") = true := Z.s.exn 8 (d := x_UnknownValue) base_LE
theorem xx_UnknownState (Z : Ctx K mg) : ExS.ESup PG K (ga K "UnknownState") (iAd K "UnknownState") "LookupError" ("LookupError" ++ ".__new__") ("LookupError" ++ ".__init__") [.type "LookupError", .type "Exception", .type "BaseException", .type "object"] "UnknownState.__init__" (defArgs s_UnknownState___init__) (defBody s_UnknownState___init__) (defScope s_UnknownState___init__) ∧ PySem.W.keepIn K (.ref (ga K "UnknownState")) = true ∧ PySem.W.subIn K (.ref (ga K "UnknownState")) (.type "BaseException") = some true ∧ PySem.W.typeIn K (.ref (ga K "UnknownState")) = some (.type "type") ∧ PySem.W.hasDictIn K (ga K "UnknownState") = true := Z.s.exn 9 (d := x_UnknownState) base_LE
theorem xx_UnboundName (Z : Ctx K mg) : ExS.ESup PG K (ga K "UnboundName") (iAd K "UnboundName") "LookupError" ("LookupError" ++ ".__new__") ("LookupError" ++ ".__init__") [.type "LookupError", .type "Exception", .type "BaseException", .type "object"] "UnboundName.__init__" (defArgs s_UnboundName___init__) (defBody s_UnboundName___init__) (defScope s_UnboundName___init__) ∧ PySem.W.keepIn K (.ref (ga K "UnboundName")) = true ∧ PySem.W.subIn K (.ref (ga K "UnboundName")) (.type "BaseException") = some true ∧ PySem.W.typeIn K (.ref (ga K "UnboundName")) = some (.type "type") ∧ PySem.W.hasDictIn K (ga K "UnboundName") = true := Z.s.exn 10 (d := x_UnboundName) base_LE
theorem xx_UnknownFormula (Z : Ctx K mg) : ExS.ESup PG K (ga K "UnknownFormula") (iAd K "UnknownFormula") "LookupError" ("LookupError" ++ ".__new__") ("LookupError" ++ ".__init__") [.type "LookupError", .type "Exception", .type "BaseException", .type "object"] "UnknownFormula.__init__" (defArgs s_UnknownFormula___init__) (defBody s_UnknownFormula___init__) (defScope s_UnknownFormula___init__) ∧ PySem.W.keepIn K (.ref (ga K "UnknownFormula")) = true ∧ PySem.W.subIn K (.ref (ga K "UnknownFormula")) (.type "BaseException") = some true ∧ PySem.W.typeIn K (.ref (ga K "UnknownFormula")) = some (.type "type") ∧ PySem.W.hasDictIn K (ga K "UnknownFormula") = true := Z.s.exn 11 (d := x_UnknownFormula) base_LE
theorem xf_BadText (Z : Ctx K mg) : XfC K (ga K "BadText") := by
  have h := Z.s.moreB
  unfold more at h
  simp only [Bool.and_eq_true] at h
  exact xfB_ok h.1.1.1.1.1.1.1.1.1.2
theorem xf_BadName (Z : Ctx K mg) : XfC K (ga K "BadName") := by
  have h := Z.s.moreB
  unfold more at h
  simp only [Bool.and_eq_true] at h
  exact xfB_ok h.1.1.1.1.1.1.1.1.2
theorem xf_TwiceTold (Z : Ctx K mg) : XfC K (ga K "TwiceTold") := by
  have h := Z.s.moreB
  unfold more at h
  simp only [Bool.and_eq_true] at h
  exact xfB_ok h.1.1.1.1.1.1.1.2
theorem xf_NotIrreducible (Z : Ctx K mg) : XfC K (ga K "NotIrreducible") := by
  have h := Z.s.moreB
  unfold more at h
  simp only [Bool.and_eq_true] at h
  exact xfB_ok h.1.1.1.1.1.1.2
theorem xf_InUse (Z : Ctx K mg) : XfC K (ga K "InUse") := by
  have h := Z.s.moreB
  unfold more at h
  simp only [Bool.and_eq_true] at h
  exact xfB_ok h.1.1.1.1.1.2
theorem xf_UnknownValue (Z : Ctx K mg) : XfC K (ga K "UnknownValue") := by
  have h := Z.s.moreB
  unfold more at h
  simp only [Bool.and_eq_true] at h
  exact xfB_ok h.1.1.1.1.2
theorem xf_UnknownState (Z : Ctx K mg) : XfC K (ga K "UnknownState") := by
  have h := Z.s.moreB
  unfold more at h
  simp only [Bool.and_eq_true] at h
  exact xfB_ok h.1.1.1.2
theorem xf_UnboundName (Z : Ctx K mg) : XfC K (ga K "UnboundName") := by
  have h := Z.s.moreB
  unfold more at h
  simp only [Bool.and_eq_true] at h
  exact xfB_ok h.1.1.2
theorem xf_UnknownFormula (Z : Ctx K mg) : XfC K (ga K "UnknownFormula") := by
  have h := Z.s.moreB
  unfold more at h
  simp only [Bool.and_eq_true] at h
  exact xfB_ok h.1.2
theorem x_extra (Z : Ctx K mg) : extra K = true := by
  have h := Z.s.moreB
  unfold more at h
  simp only [Bool.and_eq_true] at h
  exact h.2
end
end Lk91

set_option maxHeartbeats 4000000
namespace Lk91
open PySem PySem.Spec PyProof.Rows L2 He HkS Bs
/-- what draws are made of stands at st -/
def Src (H : Hp) (st : Addr) : Prop := ∃ (c : Addr) (cs : List Int) (i left mixed : Int), H st = some (.lst [.ref c, .int i, .int left, .int mixed]) ∧ H c = some (.lst (cs.map V.int)) ∧ cs.length ≤ 63 ∧ (∀ z ∈ cs, 0 ≤ z) ∧ 0 ≤ i ∧ 0 ≤ left ∧ 0 ≤ mixed ∧ mixed < 2147483563
def spCells (K : PySem.W.Frag) : Sp := fun vs H Q _ => ∃ (a : Addr) (ns : List Int), vs = [.ref a] ∧ SqL K H a (ns.map V.int) ∧ ns.length ≤ 63 ∧ ∀ H' st, Same H H' → H st = none → Src H' st → Q (.ref st) H'
def spPick : Sp := fun vs H Q _ => ∃ (st : Addr) (many : Int), vs = [.ref st, .int many] ∧ Src H st ∧ 1 ≤ many ∧ many.natAbs < 2 ^ 200 ∧ ∀ d H', 0 ≤ d → d < many → (∀ b, b ≠ st → H' b = H b) → Src H' st → Q (.int d) H'
section
variable {P : Program} {w : World} {K : PySem.W.Frag} {mg : Str → Option Value} {base : Heap}
theorem scCells : FnScope ["script", "mixed", "cell"] ["script"] (defScope s__law_cells) := ⟨rfl, rfl, rfl, by decide +kernel, rfl, by decide +kernel, by decide +kernel⟩
theorem ints_at {ns : List Int} {i : Nat} {y : V} (h : (ns.map V.int)[i]? = some y) : ∃ z, ns[i]? = some z ∧ y = V.int z := by
  rw [List.getElem?_map] at h
  cases e : ns[i]? with
  | none =>
    rw [e] at h
    cases h
  | some z =>
    rw [e] at h
    exact ⟨z, rfl, (Option.some.inj h).symm⟩
theorem take_more {α : Type} : ∀ {l : List α} {i : Nat} {x : α}, l[i]? = some x → l.take (i + 1) = l.take i ++ [x]
  | [], i, x, h => by simp at h
  | a :: l, 0, x, h => by
    have e : a = x := Option.some.inj h
    subst e
    rfl
  | a :: l, i + 1, x, h => by
    have ih := take_more (l := l) (i := i) (x := x) h
    show a :: l.take (i + 1) = a :: l.take i ++ [x]
    rw [ih]
    rfl
theorem ok_cells (Z : Ctx K mg) : Ok P w K mg base 2 (ga K "_law_cells") ["script"] (spCells K) := by
  refine ok_of (fd__law_cells Z) scCells (fun vs H Q E h => ?_) (fun _ _ _ _ _ _ us hl => match us, hl with | [_], _ => rfl) (fun cdv A outer s H vs Q E hr h => ?_)
  · obtain ⟨a, ns, rfl, _⟩ := h
    rfl
  · obtain ⟨a, ns, rfl, hS, hlen, k⟩ := h
    refine ⟨_, pss_cons (ps_s 1 scCells.nd pe_int)
      (pss_cons (ps_for (passes_of rfl) rfl (pi_list (pv 0)) (pg_n 2 scCells.nd)
        (pss_one (ps_s 1 scCells.nd (pe_op op_mod (pe_callTy call_int1 (by rfl) (f_int Z) (by decide +kernel) (pa_cons (pe_op op_add (pe_op op_add (pe_op op_mul (pv 1) pe_int) (pe_op op_mul (pv 2) pe_int)) pe_int) pa_nil)) pe_int))))
      (pss_one (ps_ret (pe_lst (pa_cons (pe_lc (own := [("cell", 2)]) (g := gName 2) (tt := tYes) rfl scCells.nd (pi_list (pv 0)) (blkOk_by (N := ["script", "mixed", "cell"]) (sc := defScope s__law_cells) (by decide +kernel)) (fun _ _ _ _ _ => pg_n 2 scCells.nd) (fun _ _ _ _ _ => pts_nil)
          (fun _ _ _ _ _ => pe_callB call_abs (by rfl) (f_abs Z) (by decide +kernel) (pa_cons (pv 2) pa_nil)))
        (pa_cons pe_int (pa_cons pe_int (pa_cons (pv 1) pa_nil)))))))), ?_⟩
    refine ⟨_, rfl, a, rfl, ⟨_, hS⟩, for_list (K := K) (a := a) (xs := ns.map V.int) (fun i σ H1 => ∃ (m : Int) (v : Option V), σ = [some (.ref a), some (.int m), v] ∧ H1 = H ∧ 0 ≤ m ∧ m < 2147483563)
      ⟨3, none, rfl, rfl, by decide, by decide⟩ (fun i σ H1 _ ⟨_, _, _, e, _⟩ => by rw [e]; exact hS) ?_ ?_⟩
    · rintro i y σ H1 hi ⟨m, v, rfl, rfl, h0, h1⟩
      obtain ⟨z, hz, rfl⟩ := ints_at hi
      refine ⟨_, rfl, _, _, rfl, rfl, .inl ⟨by omega, by omega⟩, _, rfl, _, _, rfl, rfl, .inr ⟨by decide, by decide⟩, _, _, rfl, rfl, _, _, rfl, rfl, .inl ⟨_, rfl, ?_⟩⟩
      refine ⟨_, _, rfl, rfl, (by show (0 : Int) < 2147483563; decide), ?_⟩
      exact ⟨_, some (.int z), rfl, rfl, Int.emod_nonneg _ (by decide), Int.emod_lt_of_pos _ (by decide)⟩
    · rintro σ H1 ⟨m, v, rfl, rfl, h0, h1⟩
      refine ⟨_, rfl, a, rfl, ⟨_, hS⟩, fun D hD => ?_⟩
      have na : a ≠ D ∨ True := .inr trivial
      refine lc_list (K := K) (a := a) (xs := ns.map V.int) (fun i H2 => Same H1 H2 ∧ H2 D = some (.lst (((ns.take i).map fun z => if z < 0 then -z else z).map V.int)))
        ⟨fun b o e => by rw [upd_ne (ne_of_none e hD)]; exact e, by rw [upd_same]; rfl⟩ (fun i H2 _ h => h.1.seq hS) ?_ ?_
      · rintro i y H2 hi ⟨sm, hd⟩
        obtain ⟨z, hz, rfl⟩ := ints_at hi
        have hl : i < ns.length := (List.getElem?_eq_some_iff.mp hz).1
        refine ⟨rfl, ?_⟩
        show _
        refine ⟨_, rfl, _, rfl, _, hd, ?_, ?_, ?_⟩
        · rw [List.length_map, List.length_map, List.length_take]
          exact small1000 (by omega)
        · intro b o e
          rw [upd_ne (ne_of_none e hD)]
          exact sm b o e
        · rw [upd_same, take_more hz, List.map_append, List.map_append]
          rfl
      · rintro H2 ⟨sm, hd⟩
        rw [List.length_map, List.take_length] at hd
        refine ⟨_, rfl, (by show 4 ≤ sizeLine; decide), fun p hp => ?_⟩
        have dp : D ≠ p := ne_of_none hd hp
        refine k _ p (fun b o e => ?_) (sm.free hp) ⟨D, _, 0, 1, m, upd_same, by rw [upd_ne dp]; exact hd, by rw [List.length_map]; omega, ?_, by decide, by decide, h0, h1⟩
        · have e2 := sm b o e
          rw [upd_ne (ne_of_none e2 hp)]
          exact e2
        · intro z hz
          obtain ⟨y, _, rfl⟩ := List.mem_map.mp hz
          split <;> omega
end
end Lk91

set_option maxHeartbeats 4000000
namespace Lk91
open PySem PySem.Spec PyProof.Rows L2 He HkS Bs
section
variable {P : Program} {w : World} {K : PySem.W.Frag} {mg : Str → Option Value} {base : Heap}
theorem scPick : FnScope ["source", "many", "digit", "number"] ["source", "many"] (defScope s__law_pick) := ⟨rfl, rfl, rfl, by decide +kernel, rfl, by decide +kernel, by decide +kernel⟩
theorem at0 {a b c d : V} : atI [a, b, c, d] 0 = some a := rfl
theorem at1 {a b c d : V} : atI [a, b, c, d] 1 = some b := rfl
theorem at2 {a b c d : V} : atI [a, b, c, d] 2 = some c := rfl
theorem at3 {a b c d : V} : atI [a, b, c, d] 3 = some d := rfl
theorem at_cs {cs : List Int} {i : Int} (h0 : 0 ≤ i) (h1 : i < cs.length) : ∃ z, cs[i.toNat]? = some z ∧ atI (cs.map V.int) i = some (V.int z) := by
  have hl : i.toNat < cs.length := by omega
  refine ⟨cs[i.toNat], List.getElem?_eq_getElem hl, at_of (j := i.toNat) (by omega) ?_⟩
  rw [List.getElem?_map, List.getElem?_eq_getElem hl]
  rfl
theorem pow_nn {i : Int} (h : 0 ≤ i) (n : Nat) : 0 ≤ i ^ n := Int.pow_nonneg h
theorem ok_pick (Z : Ctx K mg) : Ok P w K mg base 2 (ga K "_law_pick") ["source", "many"] spPick := by
  refine ok_of (fd__law_pick Z) scPick (fun vs H Q E h => ?_) (fun _ _ _ _ _ _ us hl => match us, hl with | [_, _], _ => rfl) (fun cdv A outer s H vs Q E hr h => ?_)
  · obtain ⟨a, ns, rfl, _⟩ := h
    rfl
  · obtain ⟨st, many, rfl, ⟨c, cs, i0, l0, m0, hst, hc, hlen, hcs, hi0, hl0, hm0, hm1⟩, hmany, hbig, k⟩ := h
    have ncs : c ≠ st := by
      intro e
      rw [e, hst] at hc
      have z := Option.some.inj hc
      injection z with z
      have z2 := congrArg List.head? z
      cases cs with
      | nil => cases z2
      | cons a l => cases z2
    refine ⟨_, pss_cons (ps_if (pt_cmpR op_lt (pv 1) pe_int (nomark _)) (pss_one (ps_ret pe_int)) pss_nil)
      (C8.pss_cut (ps_while (passes_of rfl) (PW.pt (pw_and (pt_cmpR op_lt (pe_ix ix_list (pv 0) pe_int (fun _ _ => rfl)) pe_int (nomark _)) (pw_and1 (pt_cmpR op_lt (pe_ix ix_list (pv 0) pe_int (fun _ _ => rfl)) (pe_callB call_len_seq (by rfl) (f_len Z) boot_len (pa_cons (pe_ix ix_list (pv 0) pe_int (fun _ _ => rfl)) pa_nil)) (nomark _)))))
        (pss_cons (ps_asg (pe_ix ix_list (pe_ix ix_list (pv 0) pe_int (fun _ _ => rfl)) (pe_ix ix_list (pv 0) pe_int (fun _ _ => rfl)) (fun _ _ => rfl)) (pg_sub (pv 0) pe_int set_list))
        (pss_one (ps_asg (pe_op op_add (pe_ix ix_list (pv 0) pe_int (fun _ _ => rfl)) pe_int) (pg_sub (pv 0) pe_int set_list)))))
      (pss_cons (ps_if (pt_cmpR op_gt (pe_ix ix_list (pv 0) pe_int (fun _ _ => rfl)) pe_int (nomark _))
        (pss_cons (ps_s 2 scPick.nd (pe_op op_mod (pe_callTy call_int1 (by rfl) (f_int Z) (by decide +kernel) (pa_cons (pe_ix ix_list (pv 0) pe_int (fun _ _ => rfl)) pa_nil)) (pv 1)))
        (pss_cons (ps_asg (pe_op op_fdivW (pe_ix ix_list (pv 0) pe_int (fun _ _ => rfl)) (pv 1)) (pg_sub (pv 0) pe_int set_list))
        (pss_one (ps_ret (pv 2))))) pss_nil)
      (pss_cons (ps_asg (pe_op op_mod (pe_callTy call_int1 (by rfl) (f_int Z) (by decide +kernel) (pa_cons (pe_op op_add (pe_op op_mul (pe_ix ix_list (pv 0) pe_int (fun _ _ => rfl)) pe_int) pe_int) pa_nil)) pe_int) (pg_sub (pv 0) pe_int set_list))
      (pss_cons (ps_s 3 scPick.nd (pe_op op_fdiv (pe_ix ix_list (pv 0) pe_int (fun _ _ => rfl)) pe_int))
      (pss_cons (ps_if (pt_cmpR op_gt (pv 1) (pe_op op_pow pe_int pe_int) (nomark _)) (pss_one (ps_s 3 scPick.nd (pe_op op_pow (pv 3) pe_int))) pss_nil)
      (pss_one (ps_ret (pe_op op_mod (pe_callTy call_int1 (by rfl) (f_int Z) (by decide +kernel) (pa_cons (pv 3) pa_nil)) (pv 1))))))))), ?_⟩
    refine ⟨_, rfl, _, _, rfl, rfl, _, rfl, ite2 (fun hlt => ?_) (fun hge => ?_)⟩
    · have hlt := of_decide_eq_true hlt
      exact k 0 H (by decide) (by omega) (fun _ _ => rfl) ⟨c, cs, i0, l0, m0, hst, hc, hlen, hcs, hi0, hl0, hm0, hm1⟩
    -- the while
    refine ⟨fun σ H1 => ∃ (i left : Int), σ = [some (.ref st), some (.int many), none, none] ∧ H1 st = some (.lst [.ref c, .int i, .int left, .int m0]) ∧ (∀ b, b ≠ st → H1 b = H b) ∧ 0 ≤ i ∧ 0 ≤ left, ?_, ?_⟩
    · refine ⟨fun m σ H1 => ∃ (i left : Int), σ = [some (.ref st), some (.int many), none, none] ∧ H1 st = some (.lst [.ref c, .int i, .int left, .int m0]) ∧ (∀ b, b ≠ st → H1 b = H b) ∧ 0 ≤ i ∧ 0 ≤ left ∧ m = ((cs.length : Int) - i).toNat, ⟨_, i0, l0, rfl, hst, fun _ _ => rfl, hi0, hl0, rfl⟩, ?_⟩
      rintro m σ H1 ⟨i, left, rfl, h1, hk, hi, hl, rfl⟩
      have hc1 : H1 c = some (.lst (cs.map V.int)) := (hk c ncs).trans hc
      refine ⟨_, rfl, _, _, _, _, rfl, rfl, SqL.of h1, at2, _, _, rfl, rfl, _, rfl, ?_⟩
      refine ite2 (fun t1 => ?_) (fun t1 => ?_)
      · refine ⟨_, rfl, _, _, _, _, rfl, rfl, SqL.of h1, at1, _, rfl, _, _, _, _, rfl, rfl, SqL.of h1, at0, c, _, rfl, .inl (SqL.of hc1), _, _, rfl, rfl, _, rfl, ?_⟩
        rw [List.length_map]
        refine ite2 (fun t2 => ?_) (fun t2 => ?_)
        · have hlt := of_decide_eq_true t2
          obtain ⟨z, hz, haz⟩ := at_cs hi hlt
          have hzn : 0 ≤ z := hcs z (List.mem_of_getElem? hz)
          refine ⟨fun σ' H' => ∃ (left : Int), σ' = [some (.ref st), some (.int many), none, none] ∧ H' st = some (.lst [.ref c, .int (i + 1), .int left, .int m0]) ∧ (∀ b, b ≠ st → H' b = H b) ∧ 0 ≤ left, fun σ' H' ⟨l2, e1, e2, e3, e4⟩ => ⟨_, by omega, i + 1, l2, e1, e2, e3, by omega, e4, rfl⟩, ?_⟩
          refine ⟨_, rfl, _, _, _, _, rfl, rfl, SqL.of h1, at0, _, rfl, _, _, _, _, rfl, rfl, SqL.of h1, at1, _, _, _, _, rfl, rfl, SqL.of hc1, haz, _, rfl, _, _, _, _, rfl, rfl, h1, rfl, ?_⟩
          refine ⟨_, rfl, _, _, _, _, rfl, rfl, SqL.of upd_same, at1, _, _, rfl, rfl, _, rfl, _, _, _, _, rfl, rfl, upd_same, rfl, ?_⟩
          exact ⟨z, rfl, upd_same, fun b hb => by rw [upd_ne hb, upd_ne hb]; exact hk b hb, hzn⟩
        · exact ⟨i, left, rfl, h1, hk, hi, hl⟩
      · exact ⟨i, left, rfl, h1, hk, hi, hl⟩
    · rintro σ H1 ⟨i, left, rfl, h1, hk, hi, hl⟩
      have hc1 : H1 c = some (.lst (cs.map V.int)) := (hk c ncs).trans hc
      refine ⟨_, rfl, _, _, _, _, rfl, rfl, SqL.of h1, at2, _, _, rfl, rfl, _, rfl, ite2 (fun t => ?_) (fun t => ?_)⟩
      · -- a digit of the present cell
        refine ⟨_, rfl, _, _, _, _, rfl, rfl, SqL.of h1, at2, .inl ⟨_, rfl, _, rfl, _, _, rfl, rfl, (by show (0 : Int) < many; omega), ?_⟩⟩
        refine ⟨_, rfl, _, _, _, _, rfl, rfl, SqL.of h1, at2, _, rfl, _, _, rfl, rfl, wide_div (by omega) hbig (by decide) (by decide), _, rfl, _, _, _, _, rfl, rfl, h1, rfl, ?_⟩
        refine ⟨_, rfl, k _ _ (Int.emod_nonneg _ (by omega)) (Int.emod_lt_of_pos _ (by omega)) (fun b hb => by rw [upd_ne hb]; exact hk b hb) ⟨c, cs, i, left / many, m0, upd_same, by rw [upd_ne ncs]; exact hc1, hlen, hcs, hi, Int.ediv_nonneg hl (by omega), hm0, hm1⟩⟩
      · refine ⟨_, rfl, _, _, _, _, rfl, rfl, SqL.of h1, at3, _, _, rfl, rfl, .inl ⟨by omega, by omega⟩, _, _, rfl, rfl, .inl ⟨_, rfl, _, _, rfl, rfl, (by show (0 : Int) < 2147483563; decide), _, rfl, _, _, _, _, rfl, rfl, h1, rfl, ?_⟩⟩
        have g0 : 0 ≤ (m0 * 40014 + 12345) % 2147483563 := Int.emod_nonneg _ (by decide)
        have g1 : (m0 * 40014 + 12345) % 2147483563 < 2147483563 := Int.emod_lt_of_pos _ (by decide)
        obtain ⟨m1, hm⟩ : ∃ m1, (m0 * 40014 + 12345) % 2147483563 = m1 := ⟨_, rfl⟩
        obtain ⟨H2, hH⟩ : ∃ H2, upd H1 st (.lst ([V.ref c, .int i, .int left, .int m0].set (Int.toNat 3) ((fun i j => V.int (i % j)) (m0 * 40014 + 12345) 2147483563))) = H2 := ⟨_, rfl⟩
        have h2 : H2 st = some (.lst [.ref c, .int i, .int left, .int m1]) := by
          rw [← hH, ← hm]
          exact upd_same
        have K1 : ∀ b, b ≠ st → H2 b = H b := fun b hb => by
          rw [← hH, upd_ne hb]
          exact hk b hb
        rw [hm] at g0 g1
        have S1 : Src H2 st := ⟨c, cs, i, left, m1, h2, (K1 c ncs).trans hc, hlen, hcs, hi, hl, g0, g1⟩
        show tSeq _ _ _ _ (upd H1 st (.lst ([V.ref c, .int i, .int left, .int m0].set (Int.toNat 3) ((fun i j => V.int (i % j)) (m0 * 40014 + 12345) 2147483563))))
        rw [hH]
        refine ⟨_, rfl, _, _, _, _, rfl, rfl, SqL.of h2, at3, _, _, rfl, rfl, ⟨by decide, by decide⟩, ?_⟩
        have f0 : 0 ≤ m1 / 7 := Int.ediv_nonneg g0 (by decide)
        have f1 : m1 / 7 < 2147483563 := by omega
        refine ⟨_, rfl, _, _, rfl, rfl, ⟨by decide, by decide, by decide⟩, _, _, rfl, rfl, _, rfl, ite2 (fun t => ?_) (fun t => ?_)⟩
        · refine ⟨_, rfl, _, _, rfl, rfl, ⟨by decide, by decide, by show (m1 / 7).natAbs < 2 ^ 64; omega⟩, ?_⟩
          refine ⟨_, rfl, .inl ⟨_, rfl, _, rfl, _, _, rfl, rfl, (by show (0 : Int) < many; omega), ?_⟩⟩
          exact k _ _ (Int.emod_nonneg _ (by omega)) (Int.emod_lt_of_pos _ (by omega)) K1 S1
        · refine ⟨_, rfl, .inl ⟨_, rfl, _, rfl, _, _, rfl, rfl, (by show (0 : Int) < many; omega), ?_⟩⟩
          exact k _ _ (Int.emod_nonneg _ (by omega)) (Int.emod_lt_of_pos _ (by omega)) K1 S1
end
end Lk91

set_option maxHeartbeats 8000000
namespace Lk91
open PySem PySem.Spec PyProof.Rows L2 He HkS Bs ExV
section
variable {P : Program} {w : World} {K : PySem.W.Frag} {mg : Str → Option Value} {base : Heap}
theorem xe_BadLattice (Z : Ctx K mg) : ExS.E0 PG K (ga K "BadLattice") := by
  obtain ⟨T, kC, eC, tC, hC⟩ := xx_BadLattice Z
  refine ⟨fun X bl hl hr hq => ?_, kC, eC, tC⟩
  exact ExS.made0 (arg := .Constant (.str _) _ _) ⟨fun _ => rfl, ⟨_, fun _ => rfl⟩, fun _ => rfl⟩ T X bl hl hr (fun A' E' s' L cda cc => wpAny_Constant_str ⟨_, rfl⟩) hq
theorem xe_MixedLattices (Z : Ctx K mg) : ExS.E0 PG K (ga K "MixedLattices") := by
  obtain ⟨T, kC, eC, tC, hC⟩ := xx_MixedLattices Z
  refine ⟨fun X bl hl hr hq => ?_, kC, eC, tC⟩
  exact ExS.made0 (arg := .Constant (.str _) _ _) ⟨fun _ => rfl, ⟨_, fun _ => rfl⟩, fun _ => rfl⟩ T X bl hl hr (fun A' E' s' L cda cc => wpAny_Constant_str ⟨_, rfl⟩) hq
theorem xe_BadMap (Z : Ctx K mg) : ExS.E0 PG K (ga K "BadMap") := by
  obtain ⟨T, kC, eC, tC, hC⟩ := xx_BadMap Z
  refine ⟨fun X bl hl hr hq => ?_, kC, eC, tC⟩
  exact ExS.made0 (arg := .Constant (.str _) _ _) ⟨fun _ => rfl, ⟨_, fun _ => rfl⟩, fun _ => rfl⟩ T X bl hl hr (fun A' E' s' L cda cc => wpAny_Constant_str ⟨_, rfl⟩) hq
theorem xe_BadText (Z : Ctx K mg) : ExS.E1 PG K (ga K "BadText") "at" ExS.SmallI := by
  obtain ⟨T, kC, eC, tC, hC⟩ := xx_BadText Z
  refine ⟨fun rv ov X bl hl hr hq => ?_, kC, eC, tC⟩
  obtain ⟨y, rfl, hy⟩ := ov
  exact ExS.made1 (f := "at") (arg := .JoinedStr [.Constant (.str _) _ _, .FormattedValue (.Name "at" _) (-1) none _] _) ⟨fun _ => rfl, ⟨_, fun _ => rfl⟩, fun _ => rfl⟩ T hC (n_BadText_at Z) X bl hl hr (by decide +kernel) (by decide +kernel) (by decide +kernel) (by decide +kernel) (fun _ _ _ _ _ _ _ _ _ => rfl)
    (fun A' E' s' L cda cc m hn hm => ExS.msg_ci rv hy (by decide +kernel) hn hm rfl rfl (by decide +kernel)) hq
theorem xe_BadName (Z : Ctx K mg) : ExS.E1 PG K (ga K "BadName") "name" ExS.ShortV := by
  obtain ⟨T, kC, eC, tC, hC⟩ := xx_BadName Z
  refine ⟨fun rv ov X bl hl hr hq => ?_, kC, eC, tC⟩
  obtain ⟨y, rfl, hy⟩ := ov
  exact ExS.made1 (f := "name") (arg := .JoinedStr [.FormattedValue (.Name "name" _) 114 none _, .Constant (.str _) _ _] _) ⟨fun _ => rfl, ⟨_, fun _ => rfl⟩, fun _ => rfl⟩ T hC (n_BadName_name Z) X bl hl hr (by decide +kernel) (by decide +kernel) (by decide +kernel) (by decide +kernel) (fun _ _ _ _ _ _ _ _ _ => rfl)
    (fun A' E' s' L cda cc m hn hm => ExS.msg_fc rv hy (by decide +kernel) hn hm rfl rfl (by decide +kernel)) hq
theorem xe_TwiceTold (Z : Ctx K mg) : ExS.E1 PG K (ga K "TwiceTold") "name" ExS.ShortV := by
  obtain ⟨T, kC, eC, tC, hC⟩ := xx_TwiceTold Z
  refine ⟨fun rv ov X bl hl hr hq => ?_, kC, eC, tC⟩
  obtain ⟨y, rfl, hy⟩ := ov
  exact ExS.made1 (f := "name") (arg := .JoinedStr [.FormattedValue (.Name "name" _) 114 none _, .Constant (.str _) _ _] _) ⟨fun _ => rfl, ⟨_, fun _ => rfl⟩, fun _ => rfl⟩ T hC (n_TwiceTold_name Z) X bl hl hr (by decide +kernel) (by decide +kernel) (by decide +kernel) (by decide +kernel) (fun _ _ _ _ _ _ _ _ _ => rfl)
    (fun A' E' s' L cda cc m hn hm => ExS.msg_fc rv hy (by decide +kernel) hn hm rfl rfl (by decide +kernel)) hq
theorem xe_NotIrreducible (Z : Ctx K mg) : ExS.E1 PG K (ga K "NotIrreducible") "name" ExS.ShortV := by
  obtain ⟨T, kC, eC, tC, hC⟩ := xx_NotIrreducible Z
  refine ⟨fun rv ov X bl hl hr hq => ?_, kC, eC, tC⟩
  obtain ⟨y, rfl, hy⟩ := ov
  exact ExS.made1 (f := "name") (arg := .JoinedStr [.Constant (.str _) _ _, .FormattedValue (.Name "name" _) 114 none _, .Constant (.str _) _ _] _) ⟨fun _ => rfl, ⟨_, fun _ => rfl⟩, fun _ => rfl⟩ T hC (n_NotIrreducible_name Z) X bl hl hr (by decide +kernel) (by decide +kernel) (by decide +kernel) (by decide +kernel) (fun _ _ _ _ _ _ _ _ _ => rfl)
    (fun A' E' s' L cda cc m hn hm => ExS.msg_cfc rv hy (by decide +kernel) (by decide +kernel) hn hm rfl rfl (by decide +kernel)) hq
theorem xe_InUse (Z : Ctx K mg) : ExS.E1 PG K (ga K "InUse") "name" ExS.ShortV := by
  obtain ⟨T, kC, eC, tC, hC⟩ := xx_InUse Z
  refine ⟨fun rv ov X bl hl hr hq => ?_, kC, eC, tC⟩
  obtain ⟨y, rfl, hy⟩ := ov
  exact ExS.made1 (f := "name") (arg := .JoinedStr [.FormattedValue (.Name "name" _) 114 none _, .Constant (.str _) _ _] _) ⟨fun _ => rfl, ⟨_, fun _ => rfl⟩, fun _ => rfl⟩ T hC (n_InUse_name Z) X bl hl hr (by decide +kernel) (by decide +kernel) (by decide +kernel) (by decide +kernel) (fun _ _ _ _ _ _ _ _ _ => rfl)
    (fun A' E' s' L cda cc m hn hm => ExS.msg_fc rv hy (by decide +kernel) hn hm rfl rfl (by decide +kernel)) hq
theorem xe_UnknownValue (Z : Ctx K mg) : ExS.E1 PG K (ga K "UnknownValue") "name" ExS.ShortV := by
  obtain ⟨T, kC, eC, tC, hC⟩ := xx_UnknownValue Z
  refine ⟨fun rv ov X bl hl hr hq => ?_, kC, eC, tC⟩
  obtain ⟨y, rfl, hy⟩ := ov
  exact ExS.made1 (f := "name") (arg := .JoinedStr [.Constant (.str _) _ _, .FormattedValue (.Name "name" _) 114 none _] _) ⟨fun _ => rfl, ⟨_, fun _ => rfl⟩, fun _ => rfl⟩ T hC (n_UnknownValue_name Z) X bl hl hr (by decide +kernel) (by decide +kernel) (by decide +kernel) (by decide +kernel) (fun _ _ _ _ _ _ _ _ _ => rfl)
    (fun A' E' s' L cda cc m hn hm => ExS.msg_cf rv hy (by decide +kernel) hn hm rfl rfl (by decide +kernel)) hq
theorem xe_UnknownState (Z : Ctx K mg) : ExS.E1 PG K (ga K "UnknownState") "name" ExS.ShortV := by
  obtain ⟨T, kC, eC, tC, hC⟩ := xx_UnknownState Z
  refine ⟨fun rv ov X bl hl hr hq => ?_, kC, eC, tC⟩
  obtain ⟨y, rfl, hy⟩ := ov
  exact ExS.made1 (f := "name") (arg := .JoinedStr [.Constant (.str _) _ _, .FormattedValue (.Name "name" _) 114 none _] _) ⟨fun _ => rfl, ⟨_, fun _ => rfl⟩, fun _ => rfl⟩ T hC (n_UnknownState_name Z) X bl hl hr (by decide +kernel) (by decide +kernel) (by decide +kernel) (by decide +kernel) (fun _ _ _ _ _ _ _ _ _ => rfl)
    (fun A' E' s' L cda cc m hn hm => ExS.msg_cf rv hy (by decide +kernel) hn hm rfl rfl (by decide +kernel)) hq
theorem xe_UnboundName (Z : Ctx K mg) : ExS.E1 PG K (ga K "UnboundName") "name" ExS.ShortV := by
  obtain ⟨T, kC, eC, tC, hC⟩ := xx_UnboundName Z
  refine ⟨fun rv ov X bl hl hr hq => ?_, kC, eC, tC⟩
  obtain ⟨y, rfl, hy⟩ := ov
  exact ExS.made1 (f := "name") (arg := .JoinedStr [.Constant (.str _) _ _, .FormattedValue (.Name "name" _) 114 none _] _) ⟨fun _ => rfl, ⟨_, fun _ => rfl⟩, fun _ => rfl⟩ T hC (n_UnboundName_name Z) X bl hl hr (by decide +kernel) (by decide +kernel) (by decide +kernel) (by decide +kernel) (fun _ _ _ _ _ _ _ _ _ => rfl)
    (fun A' E' s' L cda cc m hn hm => ExS.msg_cf rv hy (by decide +kernel) hn hm rfl rfl (by decide +kernel)) hq
theorem xe_UnknownFormula (Z : Ctx K mg) : ExS.E1 PG K (ga K "UnknownFormula") "name" ExS.ShortV := by
  obtain ⟨T, kC, eC, tC, hC⟩ := xx_UnknownFormula Z
  refine ⟨fun rv ov X bl hl hr hq => ?_, kC, eC, tC⟩
  obtain ⟨y, rfl, hy⟩ := ov
  exact ExS.made1 (f := "name") (arg := .JoinedStr [.Constant (.str _) _ _, .FormattedValue (.Name "name" _) 114 none _] _) ⟨fun _ => rfl, ⟨_, fun _ => rfl⟩, fun _ => rfl⟩ T hC (n_UnknownFormula_name Z) X bl hl hr (by decide +kernel) (by decide +kernel) (by decide +kernel) (by decide +kernel) (fun _ _ _ _ _ _ _ _ _ => rfl)
    (fun A' E' s' L cda cc m hn hm => ExS.msg_cf rv hy (by decide +kernel) hn hm rfl rfl (by decide +kernel)) hq
theorem x_all (Z : Ctx K mg) {k : Nat} (hk : k < 12) : ExcC K (ga K (cn k)) ∧ (∀ j : Nat, j < 12 → PySem.W.kitOne K (.ref (ga K (cn k))) (.ref (ga K (cn j))) = some (decide (j = k))) ∧ ∀ j : Nat, j < 6 → PySem.W.kitOne K (.ref (ga K (cn k))) (tb K j) = some (bb k j) := by
  have h := x_extra Z
  unfold extra at h
  have h1 := List.all_eq_true.mp h k (List.mem_range.mpr hk)
  obtain ⟨a, h1⟩ := ba h1
  obtain ⟨b, c⟩ := ba h1
  exact ⟨exCB_ok a, fun j hj => of_decide_eq_true (List.all_eq_true.mp b j (List.mem_range.mpr hj)), fun j hj => of_decide_eq_true (List.all_eq_true.mp c j (List.mem_range.mpr hj))⟩
theorem _root_.L2.Same.new {H : Hp} {p : Addr} {o : HO} (h : H p = none) : Same H (upd H p o) := fun b u e => by rw [upd_ne (ne_of_none e h)]; exact e
/-- the field of an error of the class k, and what is in it -/
def fk (k : Nat) : Str := if k = 3 then "at" else "name"
def fv (word : Str) (count : Int) (k : Nat) : V := if k = 3 then .int count else .str word
/-- an error of the class k at a -/
def Er (K : PySem.W.Frag) (word : Str) (count : Int) (H : Hp) (k : Nat) (a : Addr) : Prop := ∃ d, H a = some (ExT (ga K (cn k)) d a) ∧ ((k < 3 ∧ d = none) ∨ (3 ≤ k ∧ ∃ dd, d = some dd ∧ H dd = some (.xd [(fk k, fv word count k)])))
theorem Er.same {word : Str} {count : Int} {H H' : Hp} {k : Nat} {a : Addr} (h : Er K word count H k a) (s : Same H H') : Er K word count H' k a := by
  obtain ⟨d, h1, h2⟩ := h
  refine ⟨d, s _ _ h1, ?_⟩
  rcases h2 with h2 | ⟨h2, dd, h3, h4⟩
  · exact .inl h2
  · exact .inr ⟨h2, dd, h3, s _ _ h4⟩
theorem Er.dict {word : Str} {count : Int} {H : Hp} {k : Nat} {a : Addr} (h : Er K word count H k a) : ∃ d, H a = some (ExT (ga K (cn k)) d a) ∧ (d = none ∨ ∃ dd fs, d = some dd ∧ H dd = some (.xd fs)) := by
  obtain ⟨d, h1, h2⟩ := h
  rcases h2 with ⟨_, h2⟩ | ⟨_, dd, h3, h4⟩
  · exact ⟨d, h1, .inl h2⟩
  · exact ⟨d, h1, .inr ⟨dd, _, h3, h4⟩⟩
theorem er0 {word : Str} {count : Int} {H : Hp} {a : Addr} (k : Nat) (x : Str) (hx : cn k = x) (hk : k < 3) (h : H a = none) : Er K word count (upd H a (ExT (ga K x) none a)) k a ∧ Same H (upd H a (ExT (ga K x) none a)) := by
  subst hx
  exact ⟨⟨none, upd_same, .inl ⟨hk, rfl⟩⟩, Same.new h⟩
theorem er1 {word : Str} {count : Int} {H : Hp} {d a : Addr} (k : Nat) (x f : Str) (v : V) (hx : cn k = x) (hf : fk k = f) (hv : fv word count k = v) (hk : 3 ≤ k) (hd : H d = none) (h : H a = none) (ne : a ≠ d) : Er K word count (upd (upd H d (.xd [(f, v)])) a (ExT (ga K x) (some d) a)) k a ∧ Same H (upd (upd H d (.xd [(f, v)])) a (ExT (ga K x) (some d) a)) := by
  subst hx
  subst hf
  subst hv
  exact ⟨⟨some d, upd_same, .inr ⟨hk, d, rfl, (upd_ne (Ne.symm ne)).trans upd_same⟩⟩, (Same.new hd).trans (Same.new ((upd_ne ne).trans h))⟩
def clsL (k : Nat) : List V := (List.range 12).map fun j => .bl (decide (j = k))
def sp__law_classes (K : PySem.W.Frag) : Sp := fun vs H Q _ => ∃ (a : Addr) (k : Nat) (word : Str) (count : Int), vs = [.ref a] ∧ k < 12 ∧ Er K word count H k a ∧ ∀ q H', Same H H' → H' q = some (.lst (clsL k)) → Q (.ref q) H'
theorem sc__law_classes : FnScope ["e", "found"] ["e"] (defScope s__law_classes) := ⟨rfl, rfl, rfl, by decide +kernel, rfl, by decide +kernel, by decide +kernel⟩
theorem ok__law_classes (Z : Ctx K mg)  : Ok P w K mg base (2) (ga K "_law_classes") ["e"] (sp__law_classes K) := by
  refine ok_of (fd__law_classes Z) sc__law_classes (fun vs H Q E h => ?_) (fun _ _ _ _ _ _ us hl => match us, hl with | [_], _ => rfl) (fun cdv A outer s H vs Q E hr h => ?_)
  · obtain ⟨_, _, _, _, rfl, _⟩ := h
    rfl
  · obtain ⟨a, k, word, count, rfl, hk, he, kk⟩ := h
    obtain ⟨xC, x1, _⟩ := x_all Z hk
    have x1 : ∀ (j : Nat) (x : Str), cn j = x → j < 12 → PySem.W.kitOne K (.ref (ga K (cn k))) (.ref (ga K x)) = some (decide (j = k)) := fun j x e hj => by
      subst e
      exact x1 j hj
    obtain ⟨d0, d0a, d0b⟩ := he.dict
    refine ⟨_, (pss_cons (ps_s 1 sc__law_classes.nd (pe_lst (pa_cons (pe_callB ExV.isXQ (by rfl) (f_isinstance Z) (by decide +kernel) (pa_cons (pv 0) (pa_cons (pe_glob (v := .ref (ga K "BadLattice")) (by rfl) (g_BadLattice Z) rfl) pa_nil))) (pa_cons (pe_callB ExV.isXQ (by rfl) (f_isinstance Z) (by decide +kernel) (pa_cons (pv 0) (pa_cons (pe_glob (v := .ref (ga K "MixedLattices")) (by rfl) (g_MixedLattices Z) rfl) pa_nil))) (pa_cons (pe_callB ExV.isXQ (by rfl) (f_isinstance Z) (by decide +kernel) (pa_cons (pv 0) (pa_cons (pe_glob (v := .ref (ga K "BadMap")) (by rfl) (g_BadMap Z) rfl) pa_nil))) (pa_cons (pe_callB ExV.isXQ (by rfl) (f_isinstance Z) (by decide +kernel) (pa_cons (pv 0) (pa_cons (pe_glob (v := .ref (ga K "BadText")) (by rfl) (g_BadText Z) rfl) pa_nil))) pa_nil))))))
      (pss_cons (ps_s 1 sc__law_classes.nd (pe_op op_cat (pv 1) (pe_lst (pa_cons (pe_callB ExV.isXQ (by rfl) (f_isinstance Z) (by decide +kernel) (pa_cons (pv 0) (pa_cons (pe_glob (v := .ref (ga K "BadName")) (by rfl) (g_BadName Z) rfl) pa_nil))) (pa_cons (pe_callB ExV.isXQ (by rfl) (f_isinstance Z) (by decide +kernel) (pa_cons (pv 0) (pa_cons (pe_glob (v := .ref (ga K "TwiceTold")) (by rfl) (g_TwiceTold Z) rfl) pa_nil))) (pa_cons (pe_callB ExV.isXQ (by rfl) (f_isinstance Z) (by decide +kernel) (pa_cons (pv 0) (pa_cons (pe_glob (v := .ref (ga K "NotIrreducible")) (by rfl) (g_NotIrreducible Z) rfl) pa_nil))) pa_nil))))))
      (pss_cons (ps_s 1 sc__law_classes.nd (pe_op op_cat (pv 1) (pe_lst (pa_cons (pe_callB ExV.isXQ (by rfl) (f_isinstance Z) (by decide +kernel) (pa_cons (pv 0) (pa_cons (pe_glob (v := .ref (ga K "InUse")) (by rfl) (g_InUse Z) rfl) pa_nil))) (pa_cons (pe_callB ExV.isXQ (by rfl) (f_isinstance Z) (by decide +kernel) (pa_cons (pv 0) (pa_cons (pe_glob (v := .ref (ga K "UnknownValue")) (by rfl) (g_UnknownValue Z) rfl) pa_nil))) (pa_cons (pe_callB ExV.isXQ (by rfl) (f_isinstance Z) (by decide +kernel) (pa_cons (pv 0) (pa_cons (pe_glob (v := .ref (ga K "UnknownState")) (by rfl) (g_UnknownState Z) rfl) pa_nil))) pa_nil))))))
      (pss_one (ps_ret (pe_op op_cat (pv 1) (pe_lst (pa_cons (pe_callB ExV.isXQ (by rfl) (f_isinstance Z) (by decide +kernel) (pa_cons (pv 0) (pa_cons (pe_glob (v := .ref (ga K "UnboundName")) (by rfl) (g_UnboundName Z) rfl) pa_nil))) (pa_cons (pe_callB ExV.isXQ (by rfl) (f_isinstance Z) (by decide +kernel) (pa_cons (pv 0) (pa_cons (pe_glob (v := .ref (ga K "UnknownFormula")) (by rfl) (g_UnknownFormula Z) rfl) pa_nil))) pa_nil))))))))), ?_⟩
    refine ⟨_, rfl, a, _, d0, _, _, _, rfl, d0a, d0b, xC, fun u r => r, x1 0 _ (by rfl) (by decide), ⟨_, rfl, a, _, d0, _, _, _, rfl, d0a, d0b, xC, fun u r => r, x1 1 _ (by rfl) (by decide), ⟨_, rfl, a, _, d0, _, _, _, rfl, d0a, d0b, xC, fun u r => r, x1 2 _ (by rfl) (by decide), ⟨_, rfl, a, _, d0, _, _, _, rfl, d0a, d0b, xC, fun u r => r, x1 3 _ (by rfl) (by decide), (by show 4 ≤ sizeLine; decide), fun q0 n0 => ?_⟩⟩⟩⟩
    have s1 : Same H _ := Same.new (o := .lst [.bl (decide (0 = k)), .bl (decide (1 = k)), .bl (decide (2 = k)), .bl (decide (3 = k))]) n0
    have e1 : (upd H q0 (.lst [.bl (decide (0 = k)), .bl (decide (1 = k)), .bl (decide (2 = k)), .bl (decide (3 = k))])) q0 = _ := upd_same
    generalize upd H q0 (.lst [.bl (decide (0 = k)), .bl (decide (1 = k)), .bl (decide (2 = k)), .bl (decide (3 = k))]) = H1 at s1 e1 ⊢
    obtain ⟨d1, d1a, d1b⟩ := (he.same s1).dict
    refine ⟨_, rfl, _, rfl, a, _, d1, _, _, _, rfl, d1a, d1b, xC, fun u r => r, x1 4 _ (by rfl) (by decide), ⟨_, rfl, a, _, d1, _, _, _, rfl, d1a, d1b, xC, fun u r => r, x1 5 _ (by rfl) (by decide), ⟨_, rfl, a, _, d1, _, _, _, rfl, d1a, d1b, xC, fun u r => r, x1 6 _ (by rfl) (by decide), (by show 3 ≤ sizeLine; decide), fun q1 n1 => ?_⟩⟩⟩
    have t1 : Same H1 _ := Same.new (o := .lst [.bl (decide (4 = k)), .bl (decide (5 = k)), .bl (decide (6 = k))]) n1
    have f1 : (upd H1 q1 (.lst [.bl (decide (4 = k)), .bl (decide (5 = k)), .bl (decide (6 = k))])) q1 = _ := upd_same
    generalize upd H1 q1 (.lst [.bl (decide (4 = k)), .bl (decide (5 = k)), .bl (decide (6 = k))]) = G1 at t1 f1 ⊢
    refine ⟨q0, q1, _, _, rfl, rfl, t1 _ _ e1, f1, (by show 4 + 3 ≤ sizeLine; decide), fun p1 m1 => ?_⟩
    have s2 : Same H _ := (s1.trans t1).trans (Same.new (o := .lst [.bl (decide (0 = k)), .bl (decide (1 = k)), .bl (decide (2 = k)), .bl (decide (3 = k)), .bl (decide (4 = k)), .bl (decide (5 = k)), .bl (decide (6 = k))]) m1)
    have e2 : (upd G1 p1 (.lst [.bl (decide (0 = k)), .bl (decide (1 = k)), .bl (decide (2 = k)), .bl (decide (3 = k)), .bl (decide (4 = k)), .bl (decide (5 = k)), .bl (decide (6 = k))])) p1 = _ := upd_same
    have r1 : upd G1 p1 (.lst ([.bl (decide (0 = k)), .bl (decide (1 = k)), .bl (decide (2 = k)), .bl (decide (3 = k))] ++ [.bl (decide (4 = k)), .bl (decide (5 = k)), .bl (decide (6 = k))])) = upd G1 p1 (.lst [.bl (decide (0 = k)), .bl (decide (1 = k)), .bl (decide (2 = k)), .bl (decide (3 = k)), .bl (decide (4 = k)), .bl (decide (5 = k)), .bl (decide (6 = k))]) := rfl
    try rw [r1]
    generalize upd G1 p1 (.lst [.bl (decide (0 = k)), .bl (decide (1 = k)), .bl (decide (2 = k)), .bl (decide (3 = k)), .bl (decide (4 = k)), .bl (decide (5 = k)), .bl (decide (6 = k))]) = H2 at s2 e2 ⊢
    obtain ⟨d2, d2a, d2b⟩ := (he.same s2).dict
    refine ⟨_, rfl, _, rfl, a, _, d2, _, _, _, rfl, d2a, d2b, xC, fun u r => r, x1 7 _ (by rfl) (by decide), ⟨_, rfl, a, _, d2, _, _, _, rfl, d2a, d2b, xC, fun u r => r, x1 8 _ (by rfl) (by decide), ⟨_, rfl, a, _, d2, _, _, _, rfl, d2a, d2b, xC, fun u r => r, x1 9 _ (by rfl) (by decide), (by show 3 ≤ sizeLine; decide), fun q2 n2 => ?_⟩⟩⟩
    have t2 : Same H2 _ := Same.new (o := .lst [.bl (decide (7 = k)), .bl (decide (8 = k)), .bl (decide (9 = k))]) n2
    have f2 : (upd H2 q2 (.lst [.bl (decide (7 = k)), .bl (decide (8 = k)), .bl (decide (9 = k))])) q2 = _ := upd_same
    generalize upd H2 q2 (.lst [.bl (decide (7 = k)), .bl (decide (8 = k)), .bl (decide (9 = k))]) = G2 at t2 f2 ⊢
    refine ⟨p1, q2, _, _, rfl, rfl, t2 _ _ e2, f2, (by show 7 + 3 ≤ sizeLine; decide), fun p2 m2 => ?_⟩
    have s3 : Same H _ := (s2.trans t2).trans (Same.new (o := .lst [.bl (decide (0 = k)), .bl (decide (1 = k)), .bl (decide (2 = k)), .bl (decide (3 = k)), .bl (decide (4 = k)), .bl (decide (5 = k)), .bl (decide (6 = k)), .bl (decide (7 = k)), .bl (decide (8 = k)), .bl (decide (9 = k))]) m2)
    have e3 : (upd G2 p2 (.lst [.bl (decide (0 = k)), .bl (decide (1 = k)), .bl (decide (2 = k)), .bl (decide (3 = k)), .bl (decide (4 = k)), .bl (decide (5 = k)), .bl (decide (6 = k)), .bl (decide (7 = k)), .bl (decide (8 = k)), .bl (decide (9 = k))])) p2 = _ := upd_same
    have r2 : upd G2 p2 (.lst ([.bl (decide (0 = k)), .bl (decide (1 = k)), .bl (decide (2 = k)), .bl (decide (3 = k)), .bl (decide (4 = k)), .bl (decide (5 = k)), .bl (decide (6 = k))] ++ [.bl (decide (7 = k)), .bl (decide (8 = k)), .bl (decide (9 = k))])) = upd G2 p2 (.lst [.bl (decide (0 = k)), .bl (decide (1 = k)), .bl (decide (2 = k)), .bl (decide (3 = k)), .bl (decide (4 = k)), .bl (decide (5 = k)), .bl (decide (6 = k)), .bl (decide (7 = k)), .bl (decide (8 = k)), .bl (decide (9 = k))]) := rfl
    try rw [r2]
    generalize upd G2 p2 (.lst [.bl (decide (0 = k)), .bl (decide (1 = k)), .bl (decide (2 = k)), .bl (decide (3 = k)), .bl (decide (4 = k)), .bl (decide (5 = k)), .bl (decide (6 = k)), .bl (decide (7 = k)), .bl (decide (8 = k)), .bl (decide (9 = k))]) = H3 at s3 e3 ⊢
    obtain ⟨d3, d3a, d3b⟩ := (he.same s3).dict
    refine ⟨_, rfl, _, rfl, a, _, d3, _, _, _, rfl, d3a, d3b, xC, fun u r => r, x1 10 _ (by rfl) (by decide), ⟨_, rfl, a, _, d3, _, _, _, rfl, d3a, d3b, xC, fun u r => r, x1 11 _ (by rfl) (by decide), (by show 2 ≤ sizeLine; decide), fun q3 n3 => ?_⟩⟩
    have t3 : Same H3 _ := Same.new (o := .lst [.bl (decide (10 = k)), .bl (decide (11 = k))]) n3
    have f3 : (upd H3 q3 (.lst [.bl (decide (10 = k)), .bl (decide (11 = k))])) q3 = _ := upd_same
    generalize upd H3 q3 (.lst [.bl (decide (10 = k)), .bl (decide (11 = k))]) = G3 at t3 f3 ⊢
    refine ⟨p2, q3, _, _, rfl, rfl, t3 _ _ e3, f3, (by show 10 + 2 ≤ sizeLine; decide), fun p3 m3 => ?_⟩
    exact kk p3 _ ((s3.trans t3).trans (Same.new m3)) upd_same
end
end Lk91

set_option maxHeartbeats 16000000
namespace Lk91
open PySem PySem.Spec PyProof.Rows L2 He HkS Bs ExV
theorem Src.same {H H' : Hp} {st : Addr} (h : Src H st) (s : Same H H') : Src H' st := by
  obtain ⟨c, cs, i, l, m, h1, h2, r⟩ := h
  exact ⟨c, cs, i, l, m, s _ _ h1, s _ _ h2, r⟩
def w8 : List Str := ["", "p", "no name", ⟨(List.replicate (40 : Int).toNat ("x" : Str).cps).foldl (· ++ ·) #[]⟩, "01", "A", "a'b", "("]
theorem Er.put {K : PySem.W.Frag} {word : Str} {count : Int} {H : Hp} {k : Nat} {a l : Addr} {xs ys : List V} (h : Er K word count H k a) (hl : H l = some (.lst xs)) : Er K word count (upd H l (.lst ys)) k a := by
  obtain ⟨d, h1, h2⟩ := h
  have na : a ≠ l := fun z => by
    rw [z, hl] at h1
    cases h1
  refine ⟨d, (upd_ne na).trans h1, ?_⟩
  rcases h2 with h2 | ⟨h2, dd, h3, h4⟩
  · exact .inl h2
  · have nd : dd ≠ l := fun z => by
      rw [z, hl] at h4
      cases h4
    exact .inr ⟨h2, dd, h3, (upd_ne nd).trans h4⟩
theorem dpB {K : PySem.W.Frag} {H : Hp} (f : Nat → Bool) : ∀ ns : List Nat, DpAll K H (ns.map fun j => V.bl (f j)) (ns.map fun j => PyData.bool (f j))
  | [] => .nil
  | _ :: r => .cons (.bl _) (dpB f r)
theorem shB (f : Nat → Bool) : SeqAt.shaped (.list ((List.range 12).map fun j => PyData.bool (f j))) = true := by rfl
theorem dpOf {K : PySem.W.Frag} {H : Hp} {a b : Bool} (h : a = b) : Dp K H (.bl a) (.bool b) := by
  subst h
  exact .bl _
theorem nqv {d : PyData} (h : SeqAt.shaped d = true) : (!PyData.eqv d d) = false := by
  rw [SeqAt.eqv_refl d (SeqAt.canLay_of_shaped h)]
  rfl
theorem w8_short : ∀ z ∈ w8, (reprText z).length ≤ 100000 := by decide +kernel
theorem w8_shape : ∀ z ∈ w8, SeqAt.shaped (.list [.str z, .str z, .str z, .str z, .str z, .str z, .str z, .str z]) = true := by decide +kernel
theorem at_ws {ws : List Str} {i : Int} (h0 : 0 ≤ i) (h1 : i < ws.length) : ∃ z ∈ ws, atI (ws.map V.str) i = some (V.str z) := by
  have hl : i.toNat < ws.length := by omega
  refine ⟨ws[i.toNat], List.getElem_mem hl, at_of (j := i.toNat) (by omega) ?_⟩
  rw [List.getElem?_map, List.getElem?_eq_getElem hl]
  rfl
section
variable {P : Program} {w : World} {K : PySem.W.Frag} {mg : Str → Option Value} {base : Heap}
def sp_law (K : PySem.W.Frag) : Sp := fun vs H Q _ => ∃ (a : Addr) (ns : List Int), vs = [.ref a] ∧ SqL K H a (ns.map V.int) ∧ ns.length ≤ 63 ∧ ∀ H', Q (.bl true) H'
theorem sc_law : FnScope ["script", "state", "word", "count", "errors", "k", "bases", "words", "j"] ["script"] (defScope s_law) := ⟨rfl, rfl, rfl, by decide +kernel, rfl, by decide +kernel, by decide +kernel⟩
theorem ok_law (Z : Ctx K mg)  (hP : P = PG) : Ok P w K mg base (4) (ga K "law") ["script"] (sp_law K) := by
  refine ok_of (fd_law Z) sc_law (fun vs H Q E h => ?_) (fun _ _ _ _ _ _ us hl => match us, hl with | [_], _ => rfl) (fun cdv A outer s H vs Q E hr h => ?_)
  · obtain ⟨_, _, rfl, _⟩ := h
    rfl
  · subst hP
    obtain ⟨sc, zs, rfl, hS, hlen, k⟩ := h
    refine ⟨_, (pss_cons (ps_s 1 sc_law.nd (pe_cO (ok_cells Z) (hr.mono (by decide)) (g__law_cells Z) (passes_call (takes_of rfl rfl rfl rfl) (fun _ _ _ _ h => h)) (pa_cons (pv 0) pa_nil)))
      (pss_cons (ps_s 2 sc_law.nd (pe_ix ixL (pe_lst (pa_cons pe_str (pa_cons pe_str (pa_cons pe_str (pa_cons (pe_op ExV.op_mulS pe_str pe_int) (pa_cons pe_str (pa_cons pe_str (pa_cons pe_str (pa_cons pe_str pa_nil))))))))) (pe_cO (ok_pick Z) (hr.mono (by decide)) (g__law_pick Z) (passes_call (takes_of rfl rfl rfl rfl) (fun _ _ _ _ h => h)) (pa_cons (pv 1) (pa_cons pe_int pa_nil))) (fun _ _ => rfl)))
      (pss_cons (ps_s 3 sc_law.nd (pe_op op_sub (pe_cO (ok_pick Z) (hr.mono (by decide)) (g__law_pick Z) (passes_call (takes_of rfl rfl rfl rfl) (fun _ _ _ _ h => h)) (pa_cons (pv 1) (pa_cons (pe_op op_pow pe_int pe_int) pa_nil))) (pe_op op_mul (pe_cO (ok_pick Z) (hr.mono (by decide)) (g__law_pick Z) (passes_call (takes_of rfl rfl rfl rfl) (fun _ _ _ _ h => h)) (pa_cons (pv 1) (pa_cons pe_int pa_nil))) (pe_op op_pow pe_int pe_int))))
      (pss_cons (ps_s 4 sc_law.nd (pe_lst (pa_cons (ExV.pe_e0 (C := ga K "BadLattice") (xe_BadLattice Z) (g_BadLattice Z) (f_super Z) top_super hr) (pa_cons (ExV.pe_e0 (C := ga K "MixedLattices") (xe_MixedLattices Z) (g_MixedLattices Z) (f_super Z) top_super hr) (pa_cons (ExV.pe_e0 (C := ga K "BadMap") (xe_BadMap Z) (g_BadMap Z) (f_super Z) top_super hr) (pa_cons (ExV.pe_e1 (C := ga K "BadText") (xe_BadText Z) (g_BadText Z) (f_super Z) top_super hr (pa_cons (pv 3) pa_nil)) (pa_cons (ExV.pe_e1 (C := ga K "BadName") (xe_BadName Z) (g_BadName Z) (f_super Z) top_super hr (pa_cons (pv 2) pa_nil)) (pa_cons (ExV.pe_e1 (C := ga K "TwiceTold") (xe_TwiceTold Z) (g_TwiceTold Z) (f_super Z) top_super hr (pa_cons (pv 2) pa_nil)) pa_nil))))))))
      (pss_cons (ps_s 4 sc_law.nd (pe_op op_cat (pv 4) (pe_lst (pa_cons (ExV.pe_e1 (C := ga K "NotIrreducible") (xe_NotIrreducible Z) (g_NotIrreducible Z) (f_super Z) top_super hr (pa_cons (pv 2) pa_nil)) (pa_cons (ExV.pe_e1 (C := ga K "InUse") (xe_InUse Z) (g_InUse Z) (f_super Z) top_super hr (pa_cons (pv 2) pa_nil)) (pa_cons (ExV.pe_e1 (C := ga K "UnknownValue") (xe_UnknownValue Z) (g_UnknownValue Z) (f_super Z) top_super hr (pa_cons (pv 2) pa_nil)) (pa_cons (ExV.pe_e1 (C := ga K "UnknownState") (xe_UnknownState Z) (g_UnknownState Z) (f_super Z) top_super hr (pa_cons (pv 2) pa_nil)) (pa_cons (ExV.pe_e1 (C := ga K "UnboundName") (xe_UnboundName Z) (g_UnboundName Z) (f_super Z) top_super hr (pa_cons (pv 2) pa_nil)) pa_nil))))))))
      (C8.pss_cut (ps_expr (bmQ PySem.F.plainAttrs_list PySem.F.slot_list_append PySem.F.type_list_append mt_append (pv 4) (pa_cons (ExV.pe_e1 (C := ga K "UnknownFormula") (xe_UnknownFormula Z) (g_UnknownFormula Z) (f_super Z) top_super hr (pa_cons (pv 2) pa_nil)) pa_nil)))
      (pss_cons (ps_for (passes_of rfl) rfl (pi_range1 (by rfl) (f_range Z) (pa_cons pe_int pa_nil)) (pg_n 5 sc_law.nd) (pss_cons (ps_if (pt_cmpR (neDQ hr.units) (pe_cO (ok__law_classes Z) (hr.mono (by decide)) (g__law_classes Z) (passes_call (takes_of rfl rfl rfl rfl) (fun _ _ _ _ h => h)) (pa_cons (pe_ix ixL (pv 4) (pv 5) (fun _ _ => rfl)) pa_nil)) (pe_lc (own := [("j", 8)]) (g := gName 8) (tt := tYes) rfl sc_law.nd (pi_range1 (by rfl) (f_range Z) (pa_cons pe_int pa_nil)) (blkOk_by (N := ["script", "state", "word", "count", "errors", "k", "bases", "words", "j"]) (sc := defScope s_law) (by decide +kernel)) (fun _ _ _ _ _ => (pg_n 8 sc_law.nd)) (fun _ _ _ _ _ => pts_nil) (fun _ _ _ _ _ => (pe_cmpR op_eq (pv 8) (pv 5) (nomark _)))) (nomark _)) (pss_one (ps_ret pe_bl)) pss_nil)
      (pss_cons (ps_s 6 sc_law.nd (pe_lst (pa_cons (pe_callB ExV.isXQ (by rfl) (f_isinstance Z) (by decide +kernel) (pa_cons (pe_ix ixL (pv 4) (pv 5) (fun _ _ => rfl)) (pa_cons (pe_glob (v := .ref (ga K "LatticeError")) (by rfl) (g_LatticeError Z) rfl) pa_nil))) (pa_cons (pe_callB ExV.isXQ (by rfl) (f_isinstance Z) (by decide +kernel) (pa_cons (pe_ix ixL (pv 4) (pv 5) (fun _ _ => rfl)) (pa_cons (pe_bltn (v := .ty "ValueError") (by rfl) (f_ValueError Z) (by decide +kernel) rfl) pa_nil))) pa_nil))))
      (pss_cons (ps_s 6 sc_law.nd (pe_op op_cat (pv 6) (pe_lst (pa_cons (pe_callB ExV.isXQ (by rfl) (f_isinstance Z) (by decide +kernel) (pa_cons (pe_ix ixL (pv 4) (pv 5) (fun _ _ => rfl)) (pa_cons (pe_glob (v := .ref (ga K "NameMissing")) (by rfl) (g_NameMissing Z) rfl) pa_nil))) (pa_cons (pe_callB ExV.isXQ (by rfl) (f_isinstance Z) (by decide +kernel) (pa_cons (pe_ix ixL (pv 4) (pv 5) (fun _ _ => rfl)) (pa_cons (pe_bltn (v := .ty "LookupError") (by rfl) (f_LookupError Z) (by decide +kernel) rfl) pa_nil))) pa_nil)))))
      (pss_cons (ps_if (pt_cmpR (neDQ hr.units) (pv 6) (pe_lst (pa_cons (pe_cmpR op_lt (pv 5) pe_int (nomark _)) (pa_cons (pe_cmpR op_lt (pv 5) pe_int (nomark _)) (pa_cons (pe_cmpR op_gt (pv 5) pe_int (nomark _)) (pa_cons (pe_cmpR op_gt (pv 5) pe_int (nomark _)) pa_nil))))) (nomark _)) (pss_one (ps_ret pe_bl)) pss_nil)
      (pss_one (ps_if (PW.pt (pw_or (pt_val (pe_callB ExV.isXQ (by rfl) (f_isinstance Z) (by decide +kernel) (pa_cons (pe_ix ixL (pv 4) (pv 5) (fun _ _ => rfl)) (pa_cons (pe_bltn (v := .ty "KeyError") (by rfl) (f_KeyError Z) (by decide +kernel) rfl) pa_nil)))) (pw_or1 (pt_val (pe_callB ExV.isXQ (by rfl) (f_isinstance Z) (by decide +kernel) (pa_cons (pe_ix ixL (pv 4) (pv 5) (fun _ _ => rfl)) (pa_cons (pe_bltn (v := .ty "IndexError") (by rfl) (f_IndexError Z) (by decide +kernel) rfl) pa_nil))))))) (pss_one (ps_ret pe_bl)) pss_nil)))))))
      (pss_cons (ps_s 7 sc_law.nd (pe_lst (pa_cons (ExV.pe_xfV (pe_ix ixL (pv 4) pe_int (fun _ _ => rfl))) (pa_cons (ExV.pe_xfV (pe_ix ixL (pv 4) pe_int (fun _ _ => rfl))) (pa_cons (ExV.pe_xfV (pe_ix ixL (pv 4) pe_int (fun _ _ => rfl))) (pa_cons (ExV.pe_xfV (pe_ix ixL (pv 4) pe_int (fun _ _ => rfl))) (pa_cons (ExV.pe_xfV (pe_ix ixL (pv 4) pe_int (fun _ _ => rfl))) (pa_cons (ExV.pe_xfV (pe_ix ixL (pv 4) pe_int (fun _ _ => rfl))) pa_nil))))))))
      (pss_one (ps_ret (pe_and (pe_cmpR (eqDQ hr.units) (pe_op op_cat (pv 7) (pe_lst (pa_cons (ExV.pe_xfV (pe_ix ixL (pv 4) pe_int (fun _ _ => rfl))) (pa_cons (ExV.pe_xfV (pe_ix ixL (pv 4) pe_int (fun _ _ => rfl))) pa_nil)))) (pe_op op_rep (pe_lst (pa_cons (pv 2) pa_nil)) pe_int) (nomark _)) (pe_one (pe_cmpR op_eq (ExV.pe_xfV (pe_ix ixL (pv 4) pe_int (fun _ _ => rfl))) (pv 3) (nomark _)))))))))))))), ?_⟩
    -- state
    refine ⟨_, rfl, sc, zs, rfl, hS, hlen, fun H1 st s1 f1 S1 => ?_⟩
    -- word
    refine ⟨_, 40, rfl, rfl, by decide, by decide +kernel, by decide +kernel, by decide, by decide +kernel, by decide +kernel, (by show 8 ≤ sizeLine; decide), fun q nq => ?_⟩
    have s2 : Same H1 _ := Same.new (o := .lst (w8.map V.str)) nq
    have e2 : (upd H1 q (.lst (w8.map V.str))) q = _ := upd_same
    refine ⟨_, rfl, st, 8, rfl, S1.same s2, by decide, by decide, fun d1 H2 d10 d11 k2 S2 => ?_⟩
    have nq2 : q ≠ st := fun z => by
      obtain ⟨c, cs, i, l, m, h1, _⟩ := S1
      rw [z, h1] at nq
      cases nq
    obtain ⟨wd, hwd, hat⟩ := at_ws (ws := w8) d10 d11
    have hshort := w8_short wd hwd
    refine ⟨q, _, d1, _, rfl, rfl, SqL.of ((k2 q nq2).trans e2), hat, ?_⟩
    -- count
    refine ⟨_, rfl, _, _, rfl, rfl, ⟨by decide, by decide, by decide⟩, st, _, rfl, S2, by decide, by decide +kernel, fun c1 H3 c10 c11 k3 S3 => ?_⟩
    refine ⟨_, rfl, st, 2, rfl, S3, by decide, by decide, fun c2 H4 c20 c21 k4 S4 => ?_⟩
    have c11' : c1 < 10 ^ 30 := c11
    refine ⟨_, _, rfl, rfl, ⟨by decide, by decide, by decide⟩, _, _, rfl, rfl, .inl ⟨by omega, by omega⟩, _, _, rfl, rfl, ?_⟩
    obtain ⟨cv, hcv⟩ : ∃ cv : Int, cv = c1 - c2 * 10 ^ (30 : Int).toNat := ⟨_, rfl⟩
    change gName 3 (.int (c1 - c2 * 10 ^ (30 : Int).toNat)) _ _ _
    rw [← hcv]
    have hsm : ExS.SmallI (.int cv) := by
      refine ⟨cv, rfl, ?_⟩
      have hp : ((10 : Int) ^ (30 : Int).toNat) = 1000000000000000000000000000000 := by decide +kernel
      rw [hp] at hcv
      have h2 : c2 = 0 ∨ c2 = 1 := by omega
      have hn : cv.natAbs < 2 ^ 101 := by
        rcases h2 with rfl | rfl <;> omega
      by_cases z : cv.natAbs = 0
      · rw [z]; decide
      · exact Nat.lt_trans ((Nat.log2_lt z).mpr hn) (by decide)
    have hsw : ExS.ShortV (.str wd) := ⟨wd, rfl, hshort⟩
    -- errors
    refine fun a0 z0 => ?_
    obtain ⟨r0, s10⟩ := er0 (K := K) (word := wd) (count := cv) 0 "BadLattice" rfl (by decide) z0
    generalize upd H4 a0 (ExT (ga K "BadLattice") none a0) = G0 at r0 s10 ⊢
    refine fun a1 z1 => ?_
    obtain ⟨r1, s11⟩ := er0 (K := K) (word := wd) (count := cv) 1 "MixedLattices" rfl (by decide) z1
    generalize upd G0 a1 (ExT (ga K "MixedLattices") none a1) = G1 at r1 s11 ⊢
    replace r0 := r0.same s11
    refine fun a2 z2 => ?_
    obtain ⟨r2, s12⟩ := er0 (K := K) (word := wd) (count := cv) 2 "BadMap" rfl (by decide) z2
    generalize upd G1 a2 (ExT (ga K "BadMap") none a2) = G2 at r2 s12 ⊢
    replace r0 := r0.same s12
    replace r1 := r1.same s12
    refine ⟨_, rfl, _, rfl, hsm, fun x3 a3 zx3 z3 ne3 => ?_⟩
    obtain ⟨r3, s13⟩ := er1 (K := K) (word := wd) (count := cv) 3 "BadText" "at" (.int cv) rfl rfl rfl (by decide) zx3 z3 ne3
    generalize upd (upd G2 x3 (.xd [("at", (.int cv))])) a3 (ExT (ga K "BadText") (some x3) a3) = G3 at r3 s13 ⊢
    replace r0 := r0.same s13
    replace r1 := r1.same s13
    replace r2 := r2.same s13
    refine ⟨_, rfl, _, rfl, hsw, fun x4 a4 zx4 z4 ne4 => ?_⟩
    obtain ⟨r4, s14⟩ := er1 (K := K) (word := wd) (count := cv) 4 "BadName" "name" (.str wd) rfl rfl rfl (by decide) zx4 z4 ne4
    generalize upd (upd G3 x4 (.xd [("name", (.str wd))])) a4 (ExT (ga K "BadName") (some x4) a4) = G4 at r4 s14 ⊢
    replace r0 := r0.same s14
    replace r1 := r1.same s14
    replace r2 := r2.same s14
    replace r3 := r3.same s14
    refine ⟨_, rfl, _, rfl, hsw, fun x5 a5 zx5 z5 ne5 => ?_⟩
    obtain ⟨r5, s15⟩ := er1 (K := K) (word := wd) (count := cv) 5 "TwiceTold" "name" (.str wd) rfl rfl rfl (by decide) zx5 z5 ne5
    generalize upd (upd G4 x5 (.xd [("name", (.str wd))])) a5 (ExT (ga K "TwiceTold") (some x5) a5) = G5 at r5 s15 ⊢
    replace r0 := r0.same s15
    replace r1 := r1.same s15
    replace r2 := r2.same s15
    replace r3 := r3.same s15
    replace r4 := r4.same s15
    refine ⟨(by show 6 ≤ sizeLine; decide), fun l1 y1 => ?_⟩
    have t1 : Same G5 _ := Same.new (o := .lst [.ref a0, .ref a1, .ref a2, .ref a3, .ref a4, .ref a5]) y1
    have g1 : (upd G5 l1 (.lst [.ref a0, .ref a1, .ref a2, .ref a3, .ref a4, .ref a5])) l1 = _ := upd_same
    generalize upd G5 l1 (.lst [.ref a0, .ref a1, .ref a2, .ref a3, .ref a4, .ref a5]) = F1 at t1 g1 ⊢
    replace r0 := r0.same t1
    replace r1 := r1.same t1
    replace r2 := r2.same t1
    replace r3 := r3.same t1
    replace r4 := r4.same t1
    replace r5 := r5.same t1
    refine ⟨_, rfl, ?_⟩
    refine ⟨_, rfl, _, rfl, hsw, fun x6 a6 zx6 z6 ne6 => ?_⟩
    obtain ⟨r6, s16⟩ := er1 (K := K) (word := wd) (count := cv) 6 "NotIrreducible" "name" (.str wd) rfl rfl rfl (by decide) zx6 z6 ne6
    generalize upd (upd F1 x6 (.xd [("name", (.str wd))])) a6 (ExT (ga K "NotIrreducible") (some x6) a6) = G6 at r6 s16 ⊢
    replace r0 := r0.same s16
    replace r1 := r1.same s16
    replace r2 := r2.same s16
    replace r3 := r3.same s16
    replace r4 := r4.same s16
    replace r5 := r5.same s16
    replace g1 := s16 _ _ g1
    refine ⟨_, rfl, _, rfl, hsw, fun x7 a7 zx7 z7 ne7 => ?_⟩
    obtain ⟨r7, s17⟩ := er1 (K := K) (word := wd) (count := cv) 7 "InUse" "name" (.str wd) rfl rfl rfl (by decide) zx7 z7 ne7
    generalize upd (upd G6 x7 (.xd [("name", (.str wd))])) a7 (ExT (ga K "InUse") (some x7) a7) = G7 at r7 s17 ⊢
    replace r0 := r0.same s17
    replace r1 := r1.same s17
    replace r2 := r2.same s17
    replace r3 := r3.same s17
    replace r4 := r4.same s17
    replace r5 := r5.same s17
    replace r6 := r6.same s17
    replace g1 := s17 _ _ g1
    refine ⟨_, rfl, _, rfl, hsw, fun x8 a8 zx8 z8 ne8 => ?_⟩
    obtain ⟨r8, s18⟩ := er1 (K := K) (word := wd) (count := cv) 8 "UnknownValue" "name" (.str wd) rfl rfl rfl (by decide) zx8 z8 ne8
    generalize upd (upd G7 x8 (.xd [("name", (.str wd))])) a8 (ExT (ga K "UnknownValue") (some x8) a8) = G8 at r8 s18 ⊢
    replace r0 := r0.same s18
    replace r1 := r1.same s18
    replace r2 := r2.same s18
    replace r3 := r3.same s18
    replace r4 := r4.same s18
    replace r5 := r5.same s18
    replace r6 := r6.same s18
    replace r7 := r7.same s18
    replace g1 := s18 _ _ g1
    refine ⟨_, rfl, _, rfl, hsw, fun x9 a9 zx9 z9 ne9 => ?_⟩
    obtain ⟨r9, s19⟩ := er1 (K := K) (word := wd) (count := cv) 9 "UnknownState" "name" (.str wd) rfl rfl rfl (by decide) zx9 z9 ne9
    generalize upd (upd G8 x9 (.xd [("name", (.str wd))])) a9 (ExT (ga K "UnknownState") (some x9) a9) = G9 at r9 s19 ⊢
    replace r0 := r0.same s19
    replace r1 := r1.same s19
    replace r2 := r2.same s19
    replace r3 := r3.same s19
    replace r4 := r4.same s19
    replace r5 := r5.same s19
    replace r6 := r6.same s19
    replace r7 := r7.same s19
    replace r8 := r8.same s19
    replace g1 := s19 _ _ g1
    refine ⟨_, rfl, _, rfl, hsw, fun x10 a10 zx10 z10 ne10 => ?_⟩
    obtain ⟨r10, s20⟩ := er1 (K := K) (word := wd) (count := cv) 10 "UnboundName" "name" (.str wd) rfl rfl rfl (by decide) zx10 z10 ne10
    generalize upd (upd G9 x10 (.xd [("name", (.str wd))])) a10 (ExT (ga K "UnboundName") (some x10) a10) = G10 at r10 s20 ⊢
    replace r0 := r0.same s20
    replace r1 := r1.same s20
    replace r2 := r2.same s20
    replace r3 := r3.same s20
    replace r4 := r4.same s20
    replace r5 := r5.same s20
    replace r6 := r6.same s20
    replace r7 := r7.same s20
    replace r8 := r8.same s20
    replace r9 := r9.same s20
    replace g1 := s20 _ _ g1
    refine ⟨(by show 5 ≤ sizeLine; decide), fun l2 y2 => ?_⟩
    have t2 : Same G10 _ := Same.new (o := .lst [.ref a6, .ref a7, .ref a8, .ref a9, .ref a10]) y2
    have g2 : (upd G10 l2 (.lst [.ref a6, .ref a7, .ref a8, .ref a9, .ref a10])) l2 = _ := upd_same
    generalize upd G10 l2 (.lst [.ref a6, .ref a7, .ref a8, .ref a9, .ref a10]) = F2 at t2 g2 ⊢
    replace g1 := t2 _ _ g1
    refine ⟨_, _, _, _, rfl, rfl, g1, g2, (by show 6 + 5 ≤ sizeLine; decide), fun l3 y3 => ?_⟩
    change gName 4 (.ref l3) _ (upd F2 l3 (.lst ([a0, a1, a2, a3, a4, a5, a6, a7, a8, a9, a10].map V.ref))) _
    have t3 : Same F2 _ := Same.new (o := .lst ([a0, a1, a2, a3, a4, a5, a6, a7, a8, a9, a10].map V.ref)) y3
    have g3 : (upd F2 l3 (.lst ([a0, a1, a2, a3, a4, a5, a6, a7, a8, a9, a10].map V.ref))) l3 = _ := upd_same
    generalize upd F2 l3 (.lst ([a0, a1, a2, a3, a4, a5, a6, a7, a8, a9, a10].map V.ref)) = F3 at t3 g3 ⊢
    replace r0 := (r0.same t2).same t3
    replace r1 := (r1.same t2).same t3
    replace r2 := (r2.same t2).same t3
    replace r3 := (r3.same t2).same t3
    replace r4 := (r4.same t2).same t3
    replace r5 := (r5.same t2).same t3
    replace r6 := (r6.same t2).same t3
    replace r7 := (r7.same t2).same t3
    replace r8 := (r8.same t2).same t3
    replace r9 := (r9.same t2).same t3
    replace r10 := (r10.same t2).same t3
    -- append
    refine ⟨fun σ H' => ∃ (l : Addr) (as : List Addr), σ = [some (.ref sc), some (.ref st), some (.str wd), some (.int cv), some (.ref l), none, none, none, none] ∧ H' l = some (.lst (as.map V.ref)) ∧ as.length = 12 ∧ ∀ (k : Nat) (a : Addr), as[k]? = some a → Er K wd cv H' k a, ?_, ?_⟩
    · refine ⟨_, rfl, .inl ⟨rfl, _, SqL.of g3⟩, _, rfl, _, rfl, hsw, fun x11 a11 zx11 z11 ne11 => ?_⟩
      obtain ⟨r11, s21⟩ := er1 (K := K) (word := wd) (count := cv) 11 "UnknownFormula" "name" (.str wd) rfl rfl rfl (by decide) zx11 z11 ne11
      generalize upd (upd F3 x11 (.xd [("name", (.str wd))])) a11 (ExT (ga K "UnknownFormula") (some x11) a11) = G11 at r11 s21 ⊢
      replace r0 := r0.same s21
      replace r1 := r1.same s21
      replace r2 := r2.same s21
      replace r3 := r3.same s21
      replace r4 := r4.same s21
      replace r5 := r5.same s21
      replace r6 := r6.same s21
      replace r7 := r7.same s21
      replace r8 := r8.same s21
      replace r9 := r9.same s21
      replace r10 := r10.same s21
      refine ⟨l3, _, _, rfl, rfl, s21 _ _ g3, (by show 11 < sizeLine; decide), ?_⟩
      refine ⟨l3, [a0, a1, a2, a3, a4, a5, a6, a7, a8, a9, a10, a11], rfl, upd_same, rfl, fun k a hk => ?_⟩
      have g4 := s21 _ _ g3
      match k, hk with
      | 0, hk => cases hk; exact r0.put g4
      | 1, hk => cases hk; exact r1.put g4
      | 2, hk => cases hk; exact r2.put g4
      | 3, hk => cases hk; exact r3.put g4
      | 4, hk => cases hk; exact r4.put g4
      | 5, hk => cases hk; exact r5.put g4
      | 6, hk => cases hk; exact r6.put g4
      | 7, hk => cases hk; exact r7.put g4
      | 8, hk => cases hk; exact r8.put g4
      | 9, hk => cases hk; exact r9.put g4
      | 10, hk => cases hk; exact r10.put g4
      | 11, hk => cases hk; exact r11.put g4
      | k + 12, hk => simp at hk
    rintro σ H5 ⟨l, as, rfl, hl, hlen2, hE⟩
    clear s10 s11 s12 s13 s14 s15 t1 s16 s17 s18 s19 s20 t2 g2 g1 t3 g3 r0 r1 r2 r3 r4 r5 r6 r7 r8 r9 r10 k2 k3 k4 S2 S3 S4 S1 s1 s2 e2
    refine ⟨_, rfl, by decide, by decide, ?_⟩
    refine for_range (lo := 0) (n := 12) (fun i σ H' => ∃ v5 v6 : Option V, σ = [some (.ref sc), some (.ref st), some (.str wd), some (.int cv), some (.ref l), v5, v6, none, none] ∧ H' l = some (.lst (as.map V.ref)) ∧ ∀ (k : Nat) (a : Addr), as[k]? = some a → Er K wd cv H' k a) ⟨none, none, rfl, hl, hE⟩ ?_ ?_
    · rintro i σ H6 hi ⟨v5, v6, rfl, hl6, hE6⟩
      have hia : i < as.length := by omega
      obtain ⟨ai, hai⟩ : ∃ ai, as[i]? = some ai := ⟨as[i], List.getElem?_eq_getElem hia⟩
      have er := hE6 i _ hai
      have hat6 : atI (as.map V.ref) (0 + (i : Nat)) = some (V.ref ai) := at_of (j := i) (by omega) (by rw [List.getElem?_map, hai]; rfl)
      obtain ⟨xC, _, x2⟩ := x_all Z hi
      refine ⟨_, rfl, _, rfl, l, _, _, _, rfl, rfl, SqL.of hl6, hat6, ai, i, wd, cv, rfl, hi, er, fun q1 H7 s7 hq1 => ?_⟩
      refine ⟨_, rfl, by decide, by decide, fun D hD => ?_⟩
      refine lc_range (lo := 0) (n := 12) (fun j H2 => Same H7 H2 ∧ H2 D = some (.lst ((List.range j).map fun j => V.bl (decide (j = i))))) ⟨Same.new hD, upd_same⟩ ?_ ?_
      · rintro j H8 hj ⟨sm, hd⟩
        refine ⟨rfl, _, rfl, _, rfl, rfl, _, hd, ?_, ?_, ?_⟩
        · rw [List.length_map, List.length_range]
          exact small1000 (by omega)
        · intro b o e
          rw [upd_ne (ne_of_none e hD)]
          exact sm b o e
        · rw [upd_same, List.range_succ, List.map_append]
          have e : decide (V.int (0 + (j : Nat)) = V.int (0 + (i : Nat))) = decide (j = i) := by
            by_cases z : j = i
            · subst z
              rw [decide_eq_true rfl, decide_eq_true rfl]
            · rw [decide_eq_false z, decide_eq_false (fun y => z (by injection y with y; omega))]
          rw [e]
          rfl
      rintro H8 ⟨sm8, hd8⟩
      refine ⟨_, _, .lst (SqL.of (sm8 _ _ hq1)) (dpB _ _), .lst (SqL.of hd8) (dpB _ _), shB _, shB _, ?_⟩
      refine ⟨false, congrArg V.bl (nqv (shB _)), iteF ?_⟩
      have x2s : ∀ (j : Nat) (v : Value), tb K j = v → j < 6 → PySem.W.kitOne K (.ref (ga K (cn i))) v = some (bb i j) := fun j v e hj => by
        subst e
        exact x2 j hj
      have hl8 := sm8 _ _ (s7 _ _ hl6)
      have er8 := (er.same s7).same sm8
      have hE8 : ∀ (k : Nat) (a : Addr), as[k]? = some a → Er K wd cv H8 k a := fun k a h => ((hE6 k a h).same s7).same sm8
      obtain ⟨d8, d8a, d8b⟩ := er8.dict
      refine ⟨_, rfl, _, rfl, l, _, _, _, rfl, rfl, SqL.of hl8, hat6, ai, _, d8, _, _, _, rfl, d8a, d8b, xC, fun u r => r, x2s 0 _ (by rfl) (by decide), _, rfl, _, rfl, l, _, _, _, rfl, rfl, SqL.of hl8, hat6, ai, _, d8, _, _, _, rfl, d8a, d8b, xC, fun u r => r, x2s 1 _ (by rfl) (by decide), (by show 2 ≤ sizeLine; decide), fun q2 n2 => ?_⟩
      have t2 : Same H8 _ := Same.new (o := .lst [.bl (bb i 0), .bl (bb i 1)]) n2
      have g2 : (upd H8 q2 (.lst [.bl (bb i 0), .bl (bb i 1)])) q2 = _ := upd_same
      change gName 6 (.ref q2) _ (upd H8 q2 (.lst [.bl (bb i 0), .bl (bb i 1)])) _
      generalize upd H8 q2 (.lst [.bl (bb i 0), .bl (bb i 1)]) = H9 at t2 g2 ⊢
      have hl9 := t2 _ _ hl8
      have hE9 : ∀ (k : Nat) (a : Addr), as[k]? = some a → Er K wd cv H9 k a := fun k a h => (hE8 k a h).same t2
      obtain ⟨d9, d9a, d9b⟩ := (hE9 i ai hai).dict
      refine ⟨_, rfl, _, rfl, _, rfl, l, _, _, _, rfl, rfl, SqL.of hl9, hat6, ai, _, d9, _, _, _, rfl, d9a, d9b, xC, fun u r => r, x2s 2 _ (by rfl) (by decide), _, rfl, _, rfl, l, _, _, _, rfl, rfl, SqL.of hl9, hat6, ai, _, d9, _, _, _, rfl, d9a, d9b, xC, fun u r => r, x2s 3 _ (by rfl) (by decide), (by show 2 ≤ sizeLine; decide), fun q3 n3 => ?_⟩
      have t3 : Same H9 _ := Same.new (o := .lst [.bl (bb i 2), .bl (bb i 3)]) n3
      have g3 : (upd H9 q3 (.lst [.bl (bb i 2), .bl (bb i 3)])) q3 = _ := upd_same
      generalize upd H9 q3 (.lst [.bl (bb i 2), .bl (bb i 3)]) = H10 at t3 g3 ⊢
      refine ⟨q2, q3, _, _, rfl, rfl, t3 _ _ g2, g3, (by show 2 + 2 ≤ sizeLine; decide), fun q4 n4 => ?_⟩
      change gName 6 (.ref q4) _ (upd H10 q4 (.lst [.bl (bb i 0), .bl (bb i 1), .bl (bb i 2), .bl (bb i 3)])) _
      have t4 : Same H10 _ := Same.new (o := .lst [.bl (bb i 0), .bl (bb i 1), .bl (bb i 2), .bl (bb i 3)]) n4
      have g4 : (upd H10 q4 (.lst [.bl (bb i 0), .bl (bb i 1), .bl (bb i 2), .bl (bb i 3)])) q4 = _ := upd_same
      generalize upd H10 q4 (.lst [.bl (bb i 0), .bl (bb i 1), .bl (bb i 2), .bl (bb i 3)]) = H11 at t4 g4 ⊢
      have hb0 : decide ((0 : Int) + (i : Nat) < 8) = bb i 0 := by
        show _ = decide (i < 8)
        by_cases z : i < 8
        · rw [decide_eq_true z, decide_eq_true (by omega)]
        · rw [decide_eq_false z, decide_eq_false (by omega)]
      have hb7 : decide ((7 : Int) < 0 + (i : Nat)) = bb i 2 := by
        show _ = decide (7 < i)
        by_cases z : 7 < i
        · rw [decide_eq_true z, decide_eq_true (by omega)]
        · rw [decide_eq_false z, decide_eq_false (by omega)]
      refine ⟨_, rfl, _, rfl, _, _, rfl, rfl, _, rfl, _, _, rfl, rfl, _, rfl, _, _, rfl, rfl, _, rfl, _, _, rfl, rfl, (by show 4 ≤ sizeLine; decide), fun q5 n5 => ?_⟩
      have t5 := Same.new (o := .lst [.bl (decide ((0 : Int) + (i : Nat) < 8)), .bl (decide ((0 : Int) + (i : Nat) < 8)), .bl (decide ((0 : Int) + (i : Nat) > 7)), .bl (decide ((0 : Int) + (i : Nat) > 7))]) n5
      refine ⟨.list [.bool (bb i 0), .bool (bb i 1), .bool (bb i 2), .bool (bb i 3)], .list [.bool (bb i 0), .bool (bb i 1), .bool (bb i 2), .bool (bb i 3)], .lst (SqL.of (t5 _ _ g4)) (.cons (.bl _) (.cons (.bl _) (.cons (.bl _) (.cons (.bl _) .nil)))), .lst (SqL.of upd_same) (.cons (dpOf hb0) (.cons (dpOf hb0) (.cons (dpOf hb7) (.cons (dpOf hb7) .nil)))), (by rfl), (by rfl), false, congrArg V.bl (nqv (by rfl)), iteF ?_⟩
      have s11 := ((t3.trans t4).trans t5)
      have hl12 := s11 _ _ hl9
      have hE12 : ∀ (k : Nat) (a : Addr), as[k]? = some a → Er K wd cv _ k a := fun k a h => (hE9 k a h).same s11
      obtain ⟨d12, d12a, d12b⟩ := (hE12 i ai hai).dict
      refine ⟨_, rfl, _, rfl, l, _, _, _, rfl, rfl, SqL.of hl12, hat6, ai, _, d12, _, _, _, rfl, d12a, d12b, xC, fun u r => r, x2s 4 _ (by rfl) (by decide), false, rfl, iteF ⟨_, rfl, _, rfl, l, _, _, _, rfl, rfl, SqL.of hl12, hat6, ai, _, d12, _, _, _, rfl, d12a, d12b, xC, fun u r => r, x2s 5 _ (by rfl) (by decide), false, rfl, iteF ?_⟩⟩
      exact ⟨_, _, rfl, hl12, hE12⟩
    · rintro σ H6 ⟨v5, v6, rfl, hl6, hE6⟩
      have fld : ∀ (k : Nat) (x f : Str) (v : V), cn k = x → fk k = f → fv wd cv k = v → 3 ≤ k → k < 12 → ∃ b e, atI (as.map V.ref) ((k : Nat) : Int) = some (.ref b) ∧ H6 b = some (ExT (ga K x) (some e) b) ∧ H6 e = some (.xd [(f, v)]) := by
        intro k x f v hx hf hv h3 h12
        subst hx
        subst hf
        subst hv
        have hia : k < as.length := by omega
        have hai : as[k]? = some as[k] := List.getElem?_eq_getElem hia
        obtain ⟨d, ha, hd⟩ := hE6 k _ hai
        rcases hd with ⟨z, _⟩ | ⟨_, dd, rfl, hdd⟩
        · omega
        · exact ⟨as[k], dd, at_of (j := k) (by omega) (by rw [List.getElem?_map, hai]; rfl), ha, hdd⟩
      obtain ⟨b3, e3, at3, ex3, xd3⟩ := fld 3 "BadText" "at" (.int cv) rfl rfl rfl (by decide) (by decide)
      obtain ⟨b4, e4, at4, ex4, xd4⟩ := fld 4 "BadName" "name" (.str wd) rfl rfl rfl (by decide) (by decide)
      obtain ⟨b5, e5, at5, ex5, xd5⟩ := fld 5 "TwiceTold" "name" (.str wd) rfl rfl rfl (by decide) (by decide)
      obtain ⟨b6, e6, at6, ex6, xd6⟩ := fld 6 "NotIrreducible" "name" (.str wd) rfl rfl rfl (by decide) (by decide)
      obtain ⟨b7, e7, at7, ex7, xd7⟩ := fld 7 "InUse" "name" (.str wd) rfl rfl rfl (by decide) (by decide)
      obtain ⟨b8, e8, at8, ex8, xd8⟩ := fld 8 "UnknownValue" "name" (.str wd) rfl rfl rfl (by decide) (by decide)
      obtain ⟨b9, e9, at9, ex9, xd9⟩ := fld 9 "UnknownState" "name" (.str wd) rfl rfl rfl (by decide) (by decide)
      obtain ⟨b10, e10, at10, ex10, xd10⟩ := fld 10 "UnboundName" "name" (.str wd) rfl rfl rfl (by decide) (by decide)
      obtain ⟨b11, e11, at11, ex11, xd11⟩ := fld 11 "UnknownFormula" "name" (.str wd) rfl rfl rfl (by decide) (by decide)
      refine ⟨_, rfl, l, _, 4, _, rfl, rfl, SqL.of hl6, at4, b4, _, e4, _, .str wd, rfl, ex4, xd4, xf_BadName Z, n_BadName_name Z, (by kernel_rfl), _, rfl, l, _, 5, _, rfl, rfl, SqL.of hl6, at5, b5, _, e5, _, .str wd, rfl, ex5, xd5, xf_TwiceTold Z, n_TwiceTold_name Z, (by kernel_rfl), _, rfl, l, _, 6, _, rfl, rfl, SqL.of hl6, at6, b6, _, e6, _, .str wd, rfl, ex6, xd6, xf_NotIrreducible Z, n_NotIrreducible_name Z, (by kernel_rfl), _, rfl, l, _, 7, _, rfl, rfl, SqL.of hl6, at7, b7, _, e7, _, .str wd, rfl, ex7, xd7, xf_InUse Z, n_InUse_name Z, (by kernel_rfl), _, rfl, l, _, 8, _, rfl, rfl, SqL.of hl6, at8, b8, _, e8, _, .str wd, rfl, ex8, xd8, xf_UnknownValue Z, n_UnknownValue_name Z, (by kernel_rfl), _, rfl, l, _, 9, _, rfl, rfl, SqL.of hl6, at9, b9, _, e9, _, .str wd, rfl, ex9, xd9, xf_UnknownState Z, n_UnknownState_name Z, (by kernel_rfl), (by show 6 ≤ sizeLine; decide), fun w1 m1 => ?_⟩
      change gName 7 (.ref w1) _ (upd H6 w1 (.lst [.str wd, .str wd, .str wd, .str wd, .str wd, .str wd])) _
      have t1 : Same H6 _ := Same.new (o := .lst [.str wd, .str wd, .str wd, .str wd, .str wd, .str wd]) m1
      have g1 : (upd H6 w1 (.lst [.str wd, .str wd, .str wd, .str wd, .str wd, .str wd])) w1 = _ := upd_same
      generalize upd H6 w1 (.lst [.str wd, .str wd, .str wd, .str wd, .str wd, .str wd]) = H7 at t1 g1 ⊢
      refine ⟨_, rfl, _, rfl, l, _, 10, _, rfl, rfl, SqL.of (t1 _ _ hl6), at10, b10, _, e10, _, .str wd, rfl, (t1 _ _ ex10), (t1 _ _ xd10), xf_UnboundName Z, n_UnboundName_name Z, (by kernel_rfl), _, rfl, l, _, 11, _, rfl, rfl, SqL.of (t1 _ _ hl6), at11, b11, _, e11, _, .str wd, rfl, (t1 _ _ ex11), (t1 _ _ xd11), xf_UnknownFormula Z, n_UnknownFormula_name Z, (by kernel_rfl), (by show 2 ≤ sizeLine; decide), fun w2 m2 => ?_⟩
      have t2 : Same H7 _ := Same.new (o := .lst [.str wd, .str wd]) m2
      have g2 : (upd H7 w2 (.lst [.str wd, .str wd])) w2 = _ := upd_same
      generalize upd H7 w2 (.lst [.str wd, .str wd]) = H8 at t2 g2 ⊢
      refine ⟨w1, w2, _, _, rfl, rfl, t2 _ _ g1, g2, (by show 6 + 2 ≤ sizeLine; decide), fun w3 m3 => ?_⟩
      have t3 : Same H8 _ := Same.new (o := .lst [.str wd, .str wd, .str wd, .str wd, .str wd, .str wd, .str wd, .str wd]) m3
      have g3 : (upd H8 w3 (.lst [.str wd, .str wd, .str wd, .str wd, .str wd, .str wd, .str wd, .str wd])) w3 = _ := upd_same
      refine ⟨_, rfl, (by show 1 ≤ sizeLine; decide), fun w4 m4 => ?_⟩
      have t4 := t3.trans (Same.new (o := .lst [.str wd]) m4)
      refine ⟨w4, 8, _, rfl, rfl, upd_same, by decide, by decide, (by show 1 * 8 ≤ sizeLine; decide), fun w5 m5 => ?_⟩
      have t5 := t4.trans (Same.new (o := .lst (List.replicate (8 : Int).toNat [V.str wd]).flatten) m5)
      have d8 : ∀ H : Hp, DpAll K H [.str wd, .str wd, .str wd, .str wd, .str wd, .str wd, .str wd, .str wd] [.str wd, .str wd, .str wd, .str wd, .str wd, .str wd, .str wd, .str wd] := fun _ => .cons (.str _) (.cons (.str _) (.cons (.str _) (.cons (.str _) (.cons (.str _) (.cons (.str _) (.cons (.str _) (.cons (.str _) (.nil))))))))
      have g5 := (Same.new (o := .lst [.str wd]) m4).trans (Same.new (o := .lst (List.replicate (8 : Int).toNat [V.str wd]).flatten) m5)
      refine ⟨.list [.str wd, .str wd, .str wd, .str wd, .str wd, .str wd, .str wd, .str wd], .list [.str wd, .str wd, .str wd, .str wd, .str wd, .str wd, .str wd, .str wd], .lst (SqL.of (g5 _ _ g3)) (d8 _), .lst (SqL.of upd_same) (d8 _), w8_shape wd hwd, w8_shape wd hwd, true, congrArg V.bl (SeqAt.eqv_refl _ (SeqAt.canLay_of_shaped (w8_shape wd hwd))), iteT ?_⟩
      have t6 := t1.trans (t2.trans t5)
      refine ⟨_, rfl, l, _, 3, _, rfl, rfl, SqL.of (t6 _ _ hl6), at3, b3, _, e3, _, .int cv, rfl, (t6 _ _ ex3), (t6 _ _ xd3), xf_BadText Z, n_BadText_at Z, (by kernel_rfl), _, rfl, rfl, ?_⟩
      rw [decide_eq_true rfl]
      exact k _
end
end Lk91

set_option maxHeartbeats 0
namespace Lk91
open PySem PySem.Spec PyProof.Rows L2 He HkS Bs
abbrev R : PySem.W.OpenRow := PySem.W.OpenLaw.row PySem.Challenge.rw_latticewish_k91_errors
abbrev hk : PySem.W.Hook := hookM 5 PG fal fnl exl more
def ob (s : PySem.W.SharedT) : AlM := obsMG 5 PG fal fnl exl more (HandSHeadRun.getT s)
theorem ob_eq (s : PySem.W.SharedT) : ob s = hk.obs s.abs := obsMG_eq (HandSHeadRun.getT_eq s)
def loose : List PySem.Str := ["__name__", "LatticeError", "BadLattice", "MixedLattices", "BadText", "BadName", "TwiceTold", "NotIrreducible", "BadMap", "InUse", "NameMissing", "UnknownValue", "UnknownState", "UnboundName", "UnknownFormula", "_law_cells", "_law_pick", "_law_classes"]
theorem run (w : World) : HandSHeadRun.RunEq R (PySem.W.view R.prog [19]) hk ob 8000 loose w := by
  intro os
  kernel_rfl
end Lk91
open PySem PySem.W PySem.Calls PyProof.Rows
theorem PySem.Challenge.cw_latticewish_k91_errors_holds : PySem.Challenge.rw_latticewish_k91_errors.Holds := by
  w_on; o_law
  refine HandSHeadRun.head_any (r := OpenLaw.row PySem.Challenge.rw_latticewish_k91_errors) (q := view (OpenLaw.row PySem.Challenge.rw_latticewish_k91_errors).prog [19]) (H := Lk91.hk) (ob := Lk91.ob) (M := 8000) (loose := Lk91.loose) (d := HandSHeadRun.topDef (OpenLaw.row PySem.Challenge.rw_latticewish_k91_errors).prog 19) (kwd := []) Lk91.ob_eq
    (by kernel_rfl) (fun s => by kernel_rfl) Lk91.run (by kernel_rfl) (by kernel_rfl) (by kernel_rfl) (by rfl) (by first | assumption | decide +kernel) (by decide +kernel) ⟨rfl, rfl, rfl, rfl, rfl, by decide +kernel⟩ ?hw ?hc
  case hw => w_witness2
  case hc =>
    refine L2.walk_ofE (l := PySem.Challenge.rw_latticewish_k91_errors) (n := 63) (k := 4) (x := "script") (CX := L2.CX0) rfl (by decide) (by kernel_rfl) ⟨rfl, by decide, by decide⟩ ?F (fun _ _ _ _ z => z)
    intro w mg fa h Y G hmg0
    obtain ⟨K, KX, c⟩ := Y
    have hmg : mg ("law" : PySem.Str) = some (.ref fa) := by
      have e : (HandSHeadRun.topDef (OpenLaw.row PySem.Challenge.rw_latticewish_k91_errors).prog 19).name = ("law" : PySem.Str) := by kernel_rfl
      rw [← e]
      exact hmg0
    have Z := Lk91.ctx_of KX G c
    have e := hmg.symm.trans (Lk91.g_law Z)
    cases e
    obtain ⟨fd0, F0⟩ := Lk91.fd_law Z
    have hb0 := L2.FunD.bindsA (ps := ["script"]) F0 fun _ _ _ _ _ _ us hl => match us, hl with | [_], _ => rfl
    exact Bs.law_end KX F0 (fun s u => hb0 s [u] rfl) (fun base => Lk91.ok_law (P := (PySem.Challenge.rw_latticewish_k91_errors).prog) (w := w) (base := base) Z rfl) (fun H a ns hl hS => ⟨a, ns, rfl, hS, hl, fun _ => rfl⟩)


