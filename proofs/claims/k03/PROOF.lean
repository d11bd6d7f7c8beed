import PyProof.Rows.All
import Wide.All
import OpenK.AllK
import Wide.FinOn
import KE.KExcSuper
import KE.KExcRaise
import PyProof.FString
import PyProof.FString4
import HandS.Base
import HandS.Call
import HandS.Exc
import HandS.ForExc
import HandS.ExcField
import HandS.Small
import KE.KStateDown
import HandS.Defaults
import HandS.Head0
import HandS.Head1
import HandS.Head2
import HandS.HeadEnd
import HandS.HeadHook1
import HandS.HeadHook2
import HandS.ForMost
import HandS.Wide
import HandS.WordsExc
import HandS.CallSlots
import HandS.Codes
import HandS.IsInst
import HandS.FStr
import HandS.StrMore
import HandS.ExcIs
import HandS.TryOnly
import HandS.Slots
import HandS.ClsMeth
import HandS.Conv
import HandS.Strs
import PyProof.FString3
import KE.KxField
import PySem.Challenge.RW_latticewish_k03_chains_and_sets
set_option Elab.async false
set_option linter.all false
set_option maxRecDepth 100000
set_option maxHeartbeats 4000000
namespace ExS
open PySem PySem.W PySem.Calls PyProof.Rows PySem.Spec Builtin Builtin.ObjectAttr
/-- what the written part says of an own exception class at C whose own __init__ (at fI) begins with super().__init__(..) -/
structure ESup (prog : Program) (K : Frag) (C fI : Addr) (B newId initId : String) (bmB : List Value) (qual : Str) (params : Arguments) (body : List Stmt) (scope : Scope) : Prop where
  FB : ExcBaseFacts B newId initId bmB
  SF : StoreFacts B bmB "object.__setattr__" "object"
  KF : KxsFacts B initId
  ei : excInitIn K C bmB newId = true
  eo : excOver K C bmB = true
  hi : findIn K (.ref C) "__init__" = some (some (.ref fI))
  ff : isFn K (.ref fI) = true
  fn : ∃ oc od kV doc pm an ct osl cc cda ccl cdd vs ccs file tf cl cld csl, K.lookup fI = some ⟨oc, od, .func (fnX "__init__" qual params body scope [("__class__", cc)] .none kV doc pm an (.ref cda) ct), osl⟩ ∧ codeIn K (.ref cda) qual = true ∧
    K.lookup cda = some ⟨ccl, cdd, .fields vs, ccs⟩ ∧ vs[2]? = some (.str file tf) ∧ ((prog.main.file : Str) == file) = true ∧ K.lookup cc = some ⟨cl, cld, .cell (some (.ref C)), csl⟩
  mr : mroIn K C (.ref C) = some true
  si : ks_superIn K C C "__init__" = some (some (.builtin initId))
  sB : subIn K (.ref C) (.type B) = some true
  sa : findIn K (.ref C) "__setattr__" = some (some (.builtin "object.__setattr__"))
  th : nsIn K cStatics "thirdparty.any" = some none
/-- the names that stand in every heap here -/
structure BltOk (h : Heap) (prog : Program) : Prop where
  g : ∃ mg, h.Ns mainGlobals mg ∧ mg "super" = none
  b : ∃ mb, h.Ns builtinsNs mb ∧ mb "super" = some (.type "super")
  top : (prog.main.scope.names.lookup ("super" : Str)).isSome = false
theorem BltOk.keeps {h h' : Heap} {prog : Program} (b : BltOk h prog) (k : ∀ a o, h.get? a = some o → h'.get? a = some o) : BltOk h' prog := by
  obtain ⟨⟨mg, h1, h2⟩, ⟨mb, h3, h4⟩, h5⟩ := b
  exact ⟨⟨mg, h1.keeps k, h2⟩, ⟨mb, h3.keeps k, h4⟩, h5⟩
section
variable {prog : Program} {w : World} {A : Around} {E : Value → Shared → Prop} {R : Result → Shared → Prop} {s : Shared} {K : Frag} {C fI : Addr} {B newId initId : String} {bmB : List Value} {qual : Str} {params : Arguments} {body : List Stmt} {scope : Scope}
/-- BaseException.__init__ through the wrapper -/
theorem call_mw {h : Heap} {g : Array GenState} {d : Drawn} {t : Nat} {os : OsState} {u x t0 : Addr} {rest : List Value} {Q : Value → Shared → Prop} (T : ESup prog K C fI B newId initId bmB qual params body scope) (X : K.In h)
    (hx : h.get? x = some (PX.excO C t0)) (hu : h.get? u = some (kxs_mw initId x)) (hz : rest.length ≤ sizeLine)
    (hq : ∀ h' t1, (∀ b o, b ≠ x → h.get? b = some o → h'.get? b = some o) → h'.get? x = some (PX.excO C t1) → Q .none ⟨h', g, d, t, os⟩) :
    wpAny (model prog w) A (call (.ref u) rest) Q E ⟨h, g, d, t, os⟩ := by
  obtain ⟨nm, N', qn, bs, bm, hdct, sn, sub, ab, col, dd, k0, k1, k2, k3, k5, hC, hT⟩ := excInit_of X T.ei
  refine wpAny_call (codeAny_of_tree ?_)
  show wpAny _ A.in1 (callAny (.ref u) ⟨rest, []⟩) _ _ _
  simp only [callAny]
  refine wpAny_bind (wpAny_load hu ?_)
  simp only [kxs_mw, show (Value.type "method-wrapper" == Value.type "method" || Value.type "method-wrapper" == Value.type "builtin_function_or_method" || Value.type "method-wrapper" == Value.type "method-wrapper") = true by decide, if_true]
  refine KFB.if_so (by decide) ?_
  refine wpAny_bind (check_bound_init T.FB.toExcCallFacts hC hx rfl ?_)
  refine wpAny_bind (wpAny_pure (wpAny_pure ?_))
  refine ⟨plainId_quiet T.FB.init.plain _, codeAny_builtin T.FB.initEntry ?_⟩
  exact exc_init_tree (cls := .ref C) (t0 := t0) (dv := none) (c2 := .none) (c3 := .none) (b4 := .bool false) hx hz fun h' k he ht => hq h' _ k he
/-- the first store: the dict is made -/
theorem store_first {h : Heap} {g : Array GenState} {d : Drawn} {t : Nat} {os : OsState} {x t0 : Addr} {f : Str} {v : Value} {Q : Unit → Shared → Prop} (T : ESup prog K C fI B newId initId bmB qual params body scope) (X : K.In h)
    (hh : hasDictIn K C = true) (hno : findIn K (.ref C) f = some none) (hx : h.get? x = some (PX.excO C t0))
    (hq : ∀ h' tk dx, (∀ b o, b ≠ x → h.get? b = some o → h'.get? b = some o) → h.objs.size ≤ dx → dx ≠ x → h'.get? x = some { cls := .ref C, dict := some dx, data := .fields #[.ref t0, .none, .none, .none, .bool false, .none] } →
      h'.Ns1 dx (fun y => if y = f then some v else none) → Q () ⟨h', g, d, tk, os⟩) :
    wpAny (model prog w) A (setAttr (.ref x) f v) Q E ⟨h, g, d, t, os⟩ := by
  refine set_plain X (ox := PX.excO C t0) (od := none) ⟨hx, rfl, rfl, trivial⟩ T.sa ?_
  have I : InstAt h x (PX.excO C t0) C none := ⟨hx, rfl, rfl, trivial⟩
  refine osa_openX T.SF X I T.eo (r := none) (by unfold takerIn; rw [hno]; rfl) fun b => ?_
  obtain ⟨cd, hcd, hd⟩ := any_some hh
  have hxs : x ≠ h.objs.size := Nat.ne_of_lt (Heap.lt_size hx)
  have hcls : Looks (model prog w) h (classData C) cd := looks_clsIn X hcd
  obtain ⟨nm, bs, mro, ns, qn, hd', sn, sb, ab, col, del⟩ := cd
  dsimp only at hd
  subst hd
  show wpAny _ _ (storeInOwnDict (.ref x) (.ref C) (.str f _) f v b) _ _ _
  unfold storeInOwnDict ownDictForStores
  repeat (first | with_reducible refine PX.store_in_new ?_ ?_ | with_reducible refine wpAny_loadPart_at hx ?_ | with_reducible refine hcls.at ?_ | wp_step)
  · exact ⟨_, #[], _, (Heap.get?_update_ne _ _ _ _ hxs.symm).trans (Heap.get?_push_at rfl rfl), rfl, fun e he => absurd he (by simp), fun _ => rfl⟩
  · intro h' tk' hn' hs
    have hx1 : (h.push { cls := .type "dict", data := .dict #[] }).get? x = some (PX.excO C t0) := Heap.get?_push_of_some _ hx
    refine hq h' tk' h.objs.size (fun b o hb ho => ?_) (Nat.le_refl _) hxs.symm ?_ hn'
    · exact (hs.2 b (Nat.ne_of_lt (Heap.lt_size ho))).trans ((Heap.get?_update_ne _ _ _ _ hb).trans (Heap.get?_push_of_some _ ho))
    · exact (hs.2 x hxs).trans (Heap.get?_update_self _ hx1 rfl)
end
end ExS

set_option maxHeartbeats 4000000
namespace ExS
open PySem PySem.W PySem.Calls PyProof.Rows PySem.Spec Builtin Builtin.ObjectAttr
section
variable {prog : Program} {w : World} {A : Around} {E : Value → Shared → Prop} {R : Result → Shared → Prop} {s : Shared} {K : Frag} {C fI : Addr} {B newId initId : String} {bmB : List Value} {qual : Str} {params : Arguments} {body : List Stmt} {scope : Scope}
/-- the statement super().__init__(arg) -/
theorem super_stmt {arg : Expr} {p0 p1 p2 p3 p4 : Pos} {L cc cda x t0 : Addr} {m : Str → Option Value} {ar : Arg} {pl : Sem Bool} {Q : Flow → Shared → Prop} (T : ESup prog K C fI B newId initId bmB qual params body scope) (X : K.In s.heap) (bl : BltOk s.heap prog)
    (hk : scope.kind = .function) (hks : scope.names.lookup ("super" : Str) = some .globalImplicit) (hkc : scope.names.lookup ("__class__" : Str) = some .free) (hka : scope.names.lookup ar.arg = some .local)
    (hp : (params.posonlyargs ++ params.args).head? = some ar) (hn : s.heap.Ns L m) (hm : m ar.arg = some (.ref x)) (hx : s.heap.get? x = some (PX.excO C t0))
    {oc : Value} {od : Option Addr} {kV doc pm ct : Value} {an : Option Addr} {osl : Array (Option Value)} {ccl : Value} {cdd : Option Addr} {vs : Array Value} {ccs : Array (Option Value)} {file : Str} {tf : Tok} {cl : Value} {cld : Option Addr} {csl : Array (Option Value)}
    (hf : K.lookup fI = some ⟨oc, od, .func (fnX "__init__" qual params body scope [("__class__", cc)] .none kV doc pm an (.ref cda) ct), osl⟩)
    (hcode : K.lookup cda = some ⟨ccl, cdd, .fields vs, ccs⟩) (hvs : vs[2]? = some (.str file tf)) (hfile : ((prog.main.file : Str) == file) = true) (hcell : K.lookup cc = some ⟨cl, cld, .cell (some (.ref C)), csl⟩)
    (ha : ∀ s' : Shared, (∀ b o, s.heap.get? b = some o → s'.heap.get? b = some o) → wpAny (model prog w) A (eval arg (ksEnv qual scope L fI (.ref cda) cc)) (fun _ s'' => ∃ tk, s'' = { s' with toks := tk }) E s')
    (hq : ∀ h' tk t1, (∀ b o, b ≠ x → s.heap.get? b = some o → h'.get? b = some o) → h'.get? x = some (PX.excO C t1) → Q .next { s with heap := h', toks := tk })
    (he : starEach (arg :: []) (ksEnv qual scope L fI (.ref cda) cc) = (false, eval arg (ksEnv qual scope L fI (.ref cda) cc)) :: starEach [] (ksEnv qual scope L fI (.ref cda) cc) := by rfl)
    (hee : eval (.Call (.Attribute (.Call (.Name "super" p0) [] [] p1) "__init__" p2) [arg] [] p3) (ksEnv qual scope L fI (.ref cda) cc) = (do
      let ov ← attributeBase (.Call (.Name "super" p0) [] [] p1) "__init__" (ksEnv qual scope L fI (.ref cda) cc) (eval (.Call (.Name "super" p0) [] [] p1) (ksEnv qual scope L fI (.ref cda) cc))
      standAt p2.atName
      let (f, first) ← holding [ov] (getMethod ov "__init__" pl)
      callWith p3 f first (backTo p3 (starEach [arg] (ksEnv qual scope L fI (.ref cda) cc))) []) := by rfl)
    (hi : interactive (ksEnv qual scope L fI (.ref cda) cc) = false := by rfl) (hs : swapsWith (.Call (.Attribute (.Call (.Name "super" p0) [] [] p1) "__init__" p2) [arg] [] p3) none p4.line (ksEnv qual scope L fI (.ref cda) cc) = pure false := by rfl) :
    _root_.PySem.wpAt (model prog w) A (.func body (ksEnv qual scope L fI (.ref cda) cc)) (exec (.Expr (.Call (.Attribute (.Call (.Name "super" p0) [] [] p1) "__init__" p2) [arg] [] p3) p4) (ksEnv qual scope L fI (.ref cda) cc)) Q E s := by
  obtain ⟨hC1, hC2⟩ : (∃ oD, s.heap.get? C = some oD ∧ ∃ cd, oD.data = .cls cd) ∧ ∃ cd, clsIn K C = some cd := by
    have z := T.si
    unfold ks_superIn at z
    cases hc : clsIn K C with
    | none => rw [hc] at z; cases z
    | some cd =>
      refine ⟨?_, cd, rfl⟩
      unfold clsIn at hc
      split at hc
      · rename_i c d cd' sl ho
        exact ⟨_, X _ _ ho, _, rfl⟩
      · cases hc
  obtain ⟨oD, hD1, cdD, hD2⟩ := hC1
  obtain ⟨cd, hcd⟩ := hC2
  have si := T.si
  unfold ks_superIn at si
  rw [hcd] at si
  obtain ⟨⟨mg, hg1, hg2⟩, ⟨mb, hb1, hb2⟩, htop⟩ := bl
  have I0 : InstAt s.heap x (PX.excO C t0) C none := ⟨hx, rfl, rfl, trivial⟩
  have hxC : x ≠ C := ks_ne X I0 hcd
  refine ks_wpAt_Expr_any (ks_wpAt_MethodCall (pl := pl) ?_ hee) hi hs
  refine ks_wpAt_super_base (env := ksEnv qual scope L fI (.ref cda) cc) hks hkc (by decide +kernel) rfl (X _ _ hf) rfl hp rfl (X _ _ hcode) rfl hvs hfile htop ?_
  refine ks_loadName_global hk hks (loadGlobal_builtin (env := ksEnv qual scope L fI (.ref cda) cc) hg1 hg2 hb1 hb2 ⟨rfl, ?_⟩)
  refine wpAny_loadName_free hk hkc rfl ⟨_, X _ _ hcell, rfl⟩ ?_
  refine wpAny_loadName_local hk hka hn hm ?_
  refine ks_wpAny_isType_cls hD1 hD2 ⟨rfl, ?_⟩
  obtain ⟨hh, g, d, t, os⟩ := s
  refine ks_wpAny_call_super hD1 hD2 hx rfl (fun c e => by cases e) (looks_mroIn X T.mr) (fun h1 e1 k1 => ?_)
  have X1 : K.In h1 := X.keeps k1
  have hx1 := k1 _ _ hx
  have I1 : InstAt h1 x (PX.excO C t0) C none := ⟨hx1, rfl, rfl, trivial⟩
  refine kxs_getMethod (l₀ := cd.mro) T.KF e1 (looks_opaque X1 T.th) (fun A Q E s k q => wpAny_bind ((looks_clsIn X1 hcd) A _ E s k (wpAny_pure q))) rfl X1 si (I1.type.andThen (looks_subIn X1 T.sB)) hxC (by decide +kernel) ?_
  have k2 : ∀ b o, hh.get? b = some o → (h1.push (kxs_mw initId x)).get? b = some o := fun b o e => Heap.get?_push_of_some _ (k1 b o e)
  have hu : (h1.push (kxs_mw initId x)).get? h1.objs.size = some (kxs_mw initId x) := Heap.get?_push_at rfl rfl
  show wpAny _ _ (callWith p3 (.ref h1.objs.size) [] (backTo p3 (starEach (arg :: []) (ksEnv qual scope L fI (.ref cda) cc))) []) _ _ _
  rw [he]
  refine kxs_callWith (i := initId) (x := x) rfl ?_
  refine evalArgs_plain ?_
  refine Calls.spliced_cons (wpAny_mono (ha ⟨h1.push (kxs_mw initId x), g, d, t + 1, os⟩ k2) (fun v s2 hv => ?_) fun _ _ z => z)
  obtain ⟨tk, rfl⟩ := hv
  refine Calls.spliced_nil ?_
  refine ⟨hu, ?_⟩
  refine call_mw T (X.keeps k2) (k2 _ _ hx) hu (by rw [sizeLine_eq]; show 1 ≤ 16777216; decide) fun h' t1 k' hx' => ?_
  exact hq h' _ t1 (fun b o hb e => k' b o hb (k2 b o e)) hx'
end
end ExS

set_option maxHeartbeats 4000000
namespace ExS
open PySem PySem.W PySem.Calls PyProof.Rows PySem.Spec Builtin Builtin.ObjectAttr
abbrev a0 (p1 : Pos) : Arguments := { posonlyargs := [], args := [{ arg := "self", annotation := none, pos := p1 }], vararg := none, kwonlyargs := [], kw_defaults := [], kwarg := none, defaults := [] }
abbrev a1 (f : Str) (p1 p2 : Pos) : Arguments := { posonlyargs := [], args := [{ arg := "self", annotation := none, pos := p1 }, { arg := f, annotation := none, pos := p2 }], vararg := none, kwonlyargs := [], kw_defaults := [], kwarg := none, defaults := [] }
abbrev supSt (arg : Expr) (p0 p1 p2 p3 p4 : Pos) : Stmt := .Expr (.Call (.Attribute (.Call (.Name "super" p0) [] [] p1) "__init__" p2) [arg] [] p3) p4
abbrev b0 (arg : Expr) (p0 p1 p2 p3 p4 : Pos) : List Stmt := [supSt arg p0 p1 p2 p3 p4]
abbrev b1 (arg : Expr) (f : Str) (p0 p1 p2 p3 p4 q1 q2 q3 q4 : Pos) : List Stmt := [supSt arg p0 p1 p2 p3 p4, .Assign [.Attribute (.Name "self" q1) f q2] (.Name f q3) q4]
abbrev s0 : Scope := { kind := .function, names := [(PySem.Str.ofString "self", .local), (PySem.Str.ofString "__class__", .free), (PySem.Str.ofString "super", .globalImplicit)], isGenerator := false, isCoroutine := false, more := [] }
abbrev s1 (f : Str) : Scope := { kind := .function, names := [(PySem.Str.ofString "self", .local), (f, .local), (PySem.Str.ofString "__class__", .free), (PySem.Str.ofString "super", .globalImplicit)], isGenerator := false, isCoroutine := false, more := [] }
/-- the argument of super().__init__ is a plain expression -/
structure ArgOk (arg : Expr) (p0 p1 p2 p3 p4 : Pos) : Prop where
  he : ∀ env : Env, starEach (arg :: []) env = (false, eval arg env) :: starEach [] env
  hee : ∃ plf : Env → Sem Bool, ∀ env : Env, eval (.Call (.Attribute (.Call (.Name "super" p0) [] [] p1) "__init__" p2) [arg] [] p3) env = (do
      let ov ← attributeBase (.Call (.Name "super" p0) [] [] p1) "__init__" env (eval (.Call (.Name "super" p0) [] [] p1) env)
      standAt p2.atName
      let (f, first) ← holding [ov] (getMethod ov "__init__" (plf env))
      callWith p3 f first (backTo p3 (starEach [arg] env)) [])
  hs : ∀ env : Env, swapsWith (.Call (.Attribute (.Call (.Name "super" p0) [] [] p1) "__init__" p2) [arg] [] p3) none p4.line env = pure false
section
variable {prog : Program} {w : World} {A : Around} {R : Result → Shared → Prop} {s : Shared} {K : Frag} {C fI : Addr} {B newId initId : String} {bmB : List Value} {qual : Str}
theorem made0 {arg : Expr} {p1 p0 q1 q2 q3 q4 : Pos} (O : ArgOk arg p0 q1 q2 q3 q4) (T : ESup prog K C fI B newId initId bmB qual (a0 p1) (b0 arg p0 q1 q2 q3 q4) s0) (X : K.In s.heap) (bl : BltOk s.heap prog) (hlim : s.heap.NoLimit) (hroom : A.depth + 1 < recursionLimit)
    (ha : ∀ (A' : Around) (E' : Value → Shared → Prop) (s' : Shared) (L cda cc : Addr), wpAny (model prog w) A' (eval arg (ksEnv qual s0 L fI (.ref cda) cc)) (fun _ s'' => ∃ tk, s'' = { s' with toks := tk }) E' s')
    (hq : ∀ h' tk e t1, (∀ b o, s.heap.get? b = some o → h'.get? b = some o) → s.heap.objs.size ≤ e → h'.get? e = some (PX.excO C t1) → R (.ok (.ret (.ref e))) { s with heap := h', toks := tk }) :
    codeAny (model prog w) A (.call (.ref C) ⟨[], []⟩) R s := by
  obtain ⟨nm, N', qn, bs, bm, hdct, sn, sub, ab, col, dd, k0, k1, k2, k3, k5, hC, hT⟩ := excInit_of X T.ei
  obtain ⟨oI, hoI, hcI⟩ : ∃ oI, s.heap.get? fI = some oI ∧ oI.cls = .type "function" := by
    obtain ⟨o, ho, hc⟩ := Option.map_eq_some_iff.mp (show (K.lookup fI).map (·.cls) = some (.type "function") from beq_iff_eq.mp T.ff)
    exact ⟨o, X _ _ ho, hc⟩
  obtain ⟨oc, od, kV, doc, pm, an, ct, osl, cc, cda, ccl, cdd, vs, ccs, file, tf, cl, cld, csl, hf, hcd, hcode, hvs, hfile, hcell⟩ := T.fn
  obtain ⟨plf, plh⟩ := O.hee
  obtain ⟨hp, g, d, tk, os⟩ := s
  refine PX.call_own T.FB hT hC (looks_findIn X T.hi) (fun self => exc_bind hoI hcI self) (by rw [sizeLine_eq]; show 0 ≤ 16777216; decide) ?_
  have kk : ∀ b o, hp.get? b = some o → ((hp.push (kdv_tup [])).push (PX.excO C hp.objs.size)).get? b = some o := fun b o e => Heap.get?_push_of_some _ (Heap.get?_push_of_some _ e)
  have hx : ((hp.push (kdv_tup [])).push (PX.excO C hp.objs.size)).get? (hp.objs.size + 1) = some (PX.excO C hp.objs.size) := by heap_get
  generalize ((hp.push (kdv_tup [])).push (PX.excO C hp.objs.size)) = h1 at kk hx
  have X1 : K.In h1 := X.keeps kk
  refine ks_codeAny_call_defAt (fd := fnX "__init__" qual (a0 p1) (b0 arg p0 q1 q2 q3 q4) s0 [("__class__", cc)] .none kV doc pm an (.ref cda) ct) (body := b0 arg p0 q1 q2 q3 q4) (binds := [("self", .ref (hp.objs.size + 1))]) ?_ (X1 _ _ hf) rfl (hlim.keeps kk) (codeRec_of X1 hcd) rfl (BindsTo.of_eq rfl) (fun x hx => (by decide : ∀ x ∈ s0.names, x.2 ≠ .cell) x hx) (by intro x hx; cases hx with | head => rfl | tail _ h => cases h) (fun h2 hns hk2 => ?_)
  · show A.depth + 1 < recursionLimit
    exact hroom
  · refine ks_wpAt_execs_cons ?_
    have k12 : ∀ b o, hp.get? b = some o → h2.get? b = some o := fun b o e => hk2 b o (kk b o e)
    refine super_stmt (s := ⟨h2, g, d, _, os⟩) (ar := { arg := "self", annotation := none, pos := p1 }) T (X1.keeps hk2) (bl.keeps k12) rfl rfl rfl rfl rfl hns rfl (hk2 _ _ hx) hf hcode hvs hfile hcell (fun s' _ => ha _ _ s' _ _ _) (fun h' tk2 t1 k' hx' => ?_) (O.he _) (plh _) rfl (O.hs _)
    refine wpAt_of_wpAny (wpAny_execs_nil ?_)
    refine ⟨rfl, ?_⟩
    exact hq h' tk2 _ t1 (fun b o e => k' b o (Nat.ne_of_lt (Nat.lt_succ_of_lt (Heap.lt_size e))) (k12 b o e)) (Nat.le_succ _) hx'
theorem made1 {arg : Expr} {f : Str} {p1 p2 p0 q1 q2 q3 q4 r1 r2 r3 r4 : Pos} {v : Value} (O : ArgOk arg p0 q1 q2 q3 q4) (T : ESup prog K C fI B newId initId bmB qual (a1 f p1 p2) (b1 arg f p0 q1 q2 q3 q4 r1 r2 r3 r4) (s1 f)) (hh : hasDictIn K C = true) (hno : findIn K (.ref C) f = some none) (X : K.In s.heap) (bl : BltOk s.heap prog) (hlim : s.heap.NoLimit) (hroom : A.depth + 1 < recursionLimit)
    (hf1 : ¬ f = "self") (hf2 : ¬ f = "__class__") (hf3 : ¬ f = "super") (hf4 : (f == ("__debug__" : Str)) = false)
    (hbd : ∀ (kV doc pm ct : Value) (an : Option Addr) (cc cda : Addr) (u u' : Value), bindArgs (fnX "__init__" qual (a1 f p1 p2) (b1 arg f p0 q1 q2 q3 q4 r1 r2 r3 r4) (s1 f) [("__class__", cc)] .none kV doc pm an (.ref cda) ct) ⟨[u, u'], []⟩ = pure ([(("self" : Str), u), (f, u')] : List (Str × Value)))
    (ha : ∀ (A' : Around) (E' : Value → Shared → Prop) (s' : Shared) (L cda cc : Addr) (m : Str → Option Value), s'.heap.Ns L m → m f = some v → wpAny (model prog w) A' (eval arg (ksEnv qual (s1 f) L fI (.ref cda) cc)) (fun _ s'' => ∃ tk, s'' = { s' with toks := tk }) E' s')
    (hq : ∀ h' tk e t1 dx, (∀ b o, s.heap.get? b = some o → h'.get? b = some o) → s.heap.objs.size ≤ e → s.heap.objs.size ≤ dx → dx ≠ e → h'.get? e = some { cls := .ref C, dict := some dx, data := .fields #[.ref t1, .none, .none, .none, .bool false, .none] } →
      h'.Ns1 dx (fun y => if y = f then some v else none) → R (.ok (.ret (.ref e))) { s with heap := h', toks := tk }) :
    codeAny (model prog w) A (.call (.ref C) ⟨[v], []⟩) R s := by
  obtain ⟨nm, N', qn, bs, bm, hdct, sn, sub, ab, col, dd, k0, k1, k2, k3, k5, hC, hT⟩ := excInit_of X T.ei
  obtain ⟨oI, hoI, hcI⟩ : ∃ oI, s.heap.get? fI = some oI ∧ oI.cls = .type "function" := by
    obtain ⟨o, ho, hc⟩ := Option.map_eq_some_iff.mp (show (K.lookup fI).map (·.cls) = some (.type "function") from beq_iff_eq.mp T.ff)
    exact ⟨o, X _ _ ho, hc⟩
  obtain ⟨oc, od, kV, doc, pm, an, ct, osl, cc, cda, ccl, cdd, vs, ccs, file, tf, cl, cld, csl, hf, hcd, hcode, hvs, hfile, hcell⟩ := T.fn
  have lf : (s1 f).names.lookup f = some .local := by
    show List.lookup f [(PySem.Str.ofString "self", NameKind.local), (f, .local), (PySem.Str.ofString "__class__", .free), (PySem.Str.ofString "super", .globalImplicit)] = _
    simp [List.lookup, show (f == ("self" : Str)) = false by simpa using hf1]
  have lc : (s1 f).names.lookup ("__class__" : Str) = some .free := by
    have e1 : (("__class__" : Str) == f) = false := by simpa using (fun z => hf2 z.symm)
    show List.lookup ("__class__" : Str) [(PySem.Str.ofString "self", NameKind.local), (f, .local), (PySem.Str.ofString "__class__", .free), (PySem.Str.ofString "super", .globalImplicit)] = _
    simp [List.lookup, e1, show (("__class__" : Str) == ("self" : Str)) = false by decide +kernel]
  have ls : (s1 f).names.lookup ("super" : Str) = some .globalImplicit := by
    have e1 : (("super" : Str) == f) = false := by simpa using (fun z => hf3 z.symm)
    show List.lookup ("super" : Str) [(PySem.Str.ofString "self", NameKind.local), (f, .local), (PySem.Str.ofString "__class__", .free), (PySem.Str.ofString "super", .globalImplicit)] = _
    simp [List.lookup, e1, show (("super" : Str) == ("self" : Str)) = false by decide +kernel, show (("super" : Str) == ("__class__" : Str)) = false by decide +kernel]
  obtain ⟨plf, plh⟩ := O.hee
  obtain ⟨hp, g, d, tk, os⟩ := s
  refine PX.call_own T.FB hT hC (looks_findIn X T.hi) (fun self => exc_bind hoI hcI self) (by rw [sizeLine_eq]; show 1 ≤ 16777216; decide) ?_
  have kk : ∀ b o, hp.get? b = some o → ((hp.push (kdv_tup [v])).push (PX.excO C hp.objs.size)).get? b = some o := fun b o e => Heap.get?_push_of_some _ (Heap.get?_push_of_some _ e)
  have hx : ((hp.push (kdv_tup [v])).push (PX.excO C hp.objs.size)).get? (hp.objs.size + 1) = some (PX.excO C hp.objs.size) := by heap_get
  have hz : ((hp.push (kdv_tup [v])).push (PX.excO C hp.objs.size)).objs.size = hp.objs.size + 2 := by rw [Heap.size_push, Heap.size_push]
  generalize ((hp.push (kdv_tup [v])).push (PX.excO C hp.objs.size)) = h1 at kk hx hz
  have X1 : K.In h1 := X.keeps kk
  have hxself : (("self" : Str) == f) = false := by simpa using (fun z => hf1 z.symm)
  refine ks_codeAny_call_defAt (fd := fnX "__init__" qual (a1 f p1 p2) (b1 arg f p0 q1 q2 q3 q4 r1 r2 r3 r4) (s1 f) [("__class__", cc)] .none kV doc pm an (.ref cda) ct) (body := b1 arg f p0 q1 q2 q3 q4 r1 r2 r3 r4) (binds := [("self", .ref (hp.objs.size + 1)), (f, v)]) ?_ (X1 _ _ hf) rfl (hlim.keeps kk) (codeRec_of X1 hcd) rfl (BindsTo.of_eq ?_) (fun y hy => ?_) (fun y hy => ?_) (fun h2 hns hk2 => ?_)
  · show A.depth + 1 < recursionLimit
    exact hroom
  · exact hbd _ _ _ _ _ _ _ _ _
  · cases hy with
    | head => intro z; cases z
    | tail _ hy => cases hy with
      | head => intro z; cases z
      | tail _ hy => cases hy with
        | head => intro z; cases z
        | tail _ hy => cases hy with
          | head => intro z; cases z
          | tail _ hy => cases hy
  · cases hy with
    | head => rfl
    | tail _ hy => cases hy with
      | head => exact lf
      | tail _ hy => cases hy
  · refine ks_wpAt_execs_cons ?_
    have k12 : ∀ b o, hp.get? b = some o → h2.get? b = some o := fun b o e => hk2 b o (kk b o e)
    have mS : ([("self", Value.ref (hp.objs.size + 1)), (f, v)] : List (Str × Value)).reverse.lookup ("self" : Str) = some (.ref (hp.objs.size + 1)) := by
      show List.lookup ("self" : Str) [(f, v), ("self", Value.ref (hp.objs.size + 1))] = _
      simp [List.lookup, hxself]
    have mF : ([("self", Value.ref (hp.objs.size + 1)), (f, v)] : List (Str × Value)).reverse.lookup f = some v := by
      show List.lookup f [(f, v), ("self", Value.ref (hp.objs.size + 1))] = _
      simp [List.lookup]
    refine super_stmt (s := ⟨h2, g, d, _, os⟩) (ar := { arg := "self", annotation := none, pos := p1 }) T (X1.keeps hk2) (bl.keeps k12) rfl ls lc rfl rfl hns mS (hk2 _ _ hx) hf hcode hvs hfile hcell (fun s' ks => ha _ _ s' _ _ _ _ (hns.keeps ks) mF) (fun h3 tk2 t1 k3 hx3 => ?_) (O.he _) (plh _) rfl (O.hs _)
    have hLx : h1.objs.size ≠ hp.objs.size + 1 := by omega
    have hns3 : h3.Ns h1.objs.size (fun y => ([("self", Value.ref (hp.objs.size + 1)), (f, v)] : List (Str × Value)).reverse.lookup y) := by
      obtain ⟨oL, es, ep, hL, r⟩ := hns
      exact ⟨oL, es, ep, k3 _ _ hLx hL, r⟩
    have k13 : ∀ b o, hp.get? b = some o → h3.get? b = some o := fun b o e => k3 b o (Nat.ne_of_lt (Nat.lt_succ_of_lt (Heap.lt_size e))) (k12 b o e)
    have X3 : K.In h3 := X.keeps k13
    refine ks_wpAt_execs_cons (ks_wpAt_Assign_Attr (wpAt_of_wpAny ?_))
    refine wpAny_Name (wpAny_loadName_local rfl lf hns3 mF ?_) hf4
    refine wpAny_Name (wpAny_loadName_local rfl rfl hns3 mS ?_)
    refine store_first T X3 hh hno hx3 fun h4 tk4 dx k4 dn dne hx4 hn4 => ?_
    refine wpAt_of_wpAny (wpAny_execs_nil ?_)
    refine ⟨rfl, ?_⟩
    refine hq h4 tk4 _ t1 dx (fun b o e => k4 b o (Nat.ne_of_lt (Nat.lt_succ_of_lt (Heap.lt_size e))) (k13 b o e)) (Nat.le_succ _) ?_ dne hx4 hn4
    have z1 := Heap.lt_size hx3
    show hp.objs.size ≤ dx
    exact Nat.le_trans (Nat.le_of_lt (Nat.lt_trans (Nat.lt_succ_self _) z1)) dn
end
end ExS

set_option maxHeartbeats 4000000
namespace ExS
open PySem PySem.Spec PyProof.Rows L2
/-- an own exception class without arguments: what a call of it makes -/
structure E0 (P : Program) (K : PySem.W.Frag) (C : Addr) : Prop where
  made : ∀ {w : World} {A : Around} {R : Result → Shared → Prop} {s : Shared}, K.In s.heap → BltOk s.heap P → s.heap.NoLimit → A.depth + 1 < recursionLimit →
    (∀ h' tk e t1, (∀ b o, s.heap.get? b = some o → h'.get? b = some o) → s.heap.objs.size ≤ e → h'.get? e = some (PX.excO C t1) → R (.ok (.ret (.ref e))) { s with heap := h', toks := tk }) →
    codeAny (model P w) A (.call (.ref C) ⟨[], []⟩) R s
  kC : PySem.W.keepIn K (.ref C) = true
  exC : PySem.W.subIn K (.ref C) (.type "BaseException") = some true
  tyC : PySem.W.typeIn K (.ref C) = some (.type "type")
/-- .. with one argument, kept in the field f -/
structure E1 (P : Program) (K : PySem.W.Frag) (C : Addr) (f : Str) (okv : V → Prop) : Prop where
  made : ∀ {w : World} {A : Around} {R : Result → Shared → Prop} {s : Shared} {v : V} {u : Value}, RelV v u → okv v → K.In s.heap → BltOk s.heap P → s.heap.NoLimit → A.depth + 1 < recursionLimit →
    (∀ h' tk e t1 dx, (∀ b o, s.heap.get? b = some o → h'.get? b = some o) → s.heap.objs.size ≤ e → s.heap.objs.size ≤ dx → dx ≠ e → h'.get? e = some { cls := .ref C, dict := some dx, data := .fields #[.ref t1, .none, .none, .none, .bool false, .none] } →
      h'.Ns1 dx (fun y => if y = f then some u else none) → R (.ok (.ret (.ref e))) { s with heap := h', toks := tk }) →
    codeAny (model P w) A (.call (.ref C) ⟨[u], []⟩) R s
  kC : PySem.W.keepIn K (.ref C) = true
  exC : PySem.W.subIn K (.ref C) (.type "BaseException") = some true
  tyC : PySem.W.typeIn K (.ref C) = some (.type "type")
theorem relO1 {v : V} {u : Value} (f : Str) (r : RelV v u) (y : Str) : RelO (List.lookup y [(f, v)]) (if y = f then some u else none) := by
  by_cases hw : y = f
  · subst hw
    rw [if_pos rfl]
    have q : List.lookup y [(y, v)] = some v := by simp [List.lookup]
    rw [q]
    exact r
  · rw [if_neg hw]
    have qw : (y == f) = false := by simpa using hw
    have q2 : List.lookup y [(f, v)] = none := by simp [List.lookup, qw]
    rw [q2]
    trivial
section
variable {X : Cx} {C : Addr} {f : Str} {okv : V → Prop}
theorem blt_of {pins : List (Addr × Obj)} {σ : L2.St} {H : Hp} {s : Shared} (I : Inv X pins σ H s) (hs : X.mg "super" = none) (ht : (X.prog.main.scope.names.lookup ("super" : Str)).isSome = false) : BltOk s.heap X.prog := by
  obtain ⟨mb, h1, h2⟩ := I.mod.blt
  have k := I.bk
  exact ⟨⟨X.mg, I.mod.glob.keeps k, hs⟩, ⟨mb, h1.keeps k, (h2 _ (by decide +kernel)).trans (by first | boot_by_name | rfl | kernel_rfl)⟩, ht⟩
theorem pmk_e0 {x : Str} {p pos : Pos} {k : Nat} (T : E0 X.prog X.K C) (gC : X.mg x = some (.ref C)) (hs : X.mg "super" = none) (ht : (X.prog.main.scope.names.lookup ("super" : Str)).isSome = false) (hr : Room k X.A) (hg : Gl X x := by rfl)
    (hdb : (x == ("__debug__" : Str)) = false := by decide) :
    PMk X (.Call (.Name x p) [] [] pos) (fun _ H Q => Q (.ref C) none H) := by
  intro pins s σ H Q I h
  refine wpAny_Call_Name_kw (ld_glob I hg gC ?_ hdb)
  refine PySem.W.callWith_K0 I.kIn T.kC ?_
  have hlim := I.nolimit
  have bl := blt_of I hs ht
  have X1 := I.kIn
  obtain ⟨hp, g, d, tk, os⟩ := s
  refine wpAny_call (T.made X1 bl hlim (by have := hr.dp; omega) fun h' tk' e t1 k' hn he => ?_)
  show MkP X pins σ Q (.ref e) ⟨h', g, d, tk', os⟩
  refine ⟨e, _, _, ⟨hp, g, d, tk, os⟩, H, .ref C, none, rfl, I, k', ?_, he, ⟨rfl, rfl⟩, rfl, rfl, I.hok.fresh hn, rfl, I.bare, raises_own T.exC T.tyC, h⟩
  exact Heap.get?_none_of_le hn
theorem pmk_e1 {x : Str} {a : Expr} {ta : TA} {p pos : Pos} {k : Nat} (T : E1 X.prog X.K C f okv) (gC : X.mg x = some (.ref C)) (hs : X.mg "super" = none) (ht : (X.prog.main.scope.names.lookup ("super" : Str)).isSome = false) (hr : Room k X.A) (ha : PA X [a] ta) (hg : Gl X x := by rfl)
    (hdb : (x == ("__debug__" : Str)) = false := by decide)
    (he : starEach (a :: []) X.env = (false, eval a X.env) :: starEach [] X.env := by rfl) (hpl : (backTo pos (starEach [] X.env)).any (·.1) = false := by rfl) :
    PMk X (.Call (.Name x p) [a] [] pos) (fun σ H Q => ta σ H fun vs H1 => ∃ v, vs = [v] ∧ okv v ∧ ∀ d, H1 d = none → Q (.ref C) (some d) (upd H1 d (.xd [(f, v)]))) := by
  intro pins s σ H Q I h
  refine wpAny_Call_Name_kw (ld_glob I hg gC ?_ hdb)
  refine PySem.W.callWith_K (h₀ := X.base) I.ok.mod.kin T.kC (thn (ha.run pos pins s σ H _ I h) fun us s1 hh => ?_) he hpl
  obtain ⟨vs, H1, I1, r1, v, ev, ov, q1⟩ := hh
  subst ev
  refine ⟨I1.kIn, ?_⟩
  cases r1 with
  | cons rv rn =>
    rename_i v' us'
    cases rn
    show wpAny _ _ (call (.ref C) [v']) _ _ _
    have hlim := I1.nolimit
    have bl := blt_of I1 hs ht
    have X1 := I1.kIn
    obtain ⟨hp, g, d, tk, os⟩ := s1
    refine wpAny_call (T.made rv ov X1 bl hlim (by have := hr.dp; omega) fun h' tk' e t1 dx k' hn dn dne heo hns => ?_)
    show MkP X pins σ Q (.ref e) ⟨h', g, d, tk', os⟩
    obtain ⟨G', g1, g2⟩ := restrict h' fun b => decide (b ≠ e)
    have gk : ∀ b, b ≠ e → G'.get? b = h'.get? b := fun b hb => g1 b (decide_eq_true hb)
    have ge : G'.get? e = none := g2 e (by simp)
    have old : ∀ b o, hp.get? b = some o → G'.get? b = some o := fun b o q => (gk b (Nat.ne_of_lt (Nat.lt_of_lt_of_le (Heap.lt_size q) hn))).trans (k' b o q)
    have ob : ObjOk X.prog X.w (upd H1 dx (.xd [(f, v)])) G' dx (.xd [(f, v)]) :=
      ⟨_, hns.at (fun o q => (gk dx dne).trans q), fun y => relO1 f rv y⟩
    have J : Inv X pins σ (upd H1 dx (.xd [(f, v)])) ⟨G', g, d, tk', os⟩ := I1.laid (t' := tk') old dn ob
    refine ⟨e, _, _, ⟨G', g, d, tk', os⟩, _, .ref C, some dx, rfl, J, fun b o q => ?_, ge, heo, ⟨rfl, rfl⟩, rfl, rfl, ?_, rfl, I1.bare, raises_own T.exC T.tyC, q1 dx (I1.hok.fresh dn)⟩
    · by_cases hb : b = e
      · have q' : G'.get? b = some o := q
        rw [hb, ge] at q'; cases q'
      · exact (gk b hb).symm.trans q
    · rw [upd_ne (Ne.symm dne)]
      exact I1.hok.fresh hn
end
end ExS

set_option maxHeartbeats 4000000
namespace ExS
open PySem PySem.W PySem.Calls PyProof.Rows PySem.Spec
/-- texts that an error's message takes -/
def ShortV (v : L2.V) : Prop := ∃ y : PySem.Str, v = .str y ∧ (reprText y).length ≤ 100000
def SmallI (v : L2.V) : Prop := ∃ i : Int, v = .int i ∧ i.natAbs.log2 < 1920
section
variable {prog : Program} {w : World} {A : Around} {E : Value → Shared → Prop} {s : Shared} {env : Env} {f : Str} {y : PySem.Str} {t : Tok} {m : Str → Option Value} {L : Addr} {x x2 : Str} {j1 j2 : Nat} {p0 p1 p2 p3 p2' : Pos}
theorem fits (a b : PySem.Str) (ha : a.length ≤ 200000) (hb : b.length ≤ 100000) : (a ++ b).length ≤ 300000 ∧ (a ++ b).length = a.length + b.length := by
  have e : (a ++ b).length = a.length + b.length := by
    show (a.cps ++ b.cps).size = a.cps.size + b.cps.size
    rw [Array.size_append]
  omega
theorem l300 {n : Nat} (h : n ≤ 300000) : n ≤ sizeLine := by rw [sizeLine_eq]; omega
theorem fv_name {Q : Value → Shared → Prop} (hn : s.heap.Ns env.locals m) (hv : m f = some (.str y t)) (hk : env.scope.kind = .function) (hl : env.kindOf f = some .local) (hd : (f == ("__debug__" : Str)) = false) (hz : (reprText y).length ≤ 100000)
    (h : ∀ tk u, Q (.str (reprText y) u) { s with toks := tk }) : wpAny (model prog w) A (eval (.FormattedValue (.Name f p0) 114 none p1) env) Q E s := by
  refine wpAny_FormattedValue_repr (wpAny_Name (wpAny_loadName_local hk hl hn hv ?_) hd)
  have hz2 : (reprText y).length ≤ sizeLine := l300 (by omega)
  exact pyReprObj_str (wpAny_formatField_str (h _ _) (h _ _) hz2) hz2
theorem fv_int {i : Int} {Q : Value → Shared → Prop} (hn : s.heap.Ns env.locals m) (hv : m f = some (.int i t)) (hk : env.scope.kind = .function) (hl : env.kindOf f = some .local) (hd : (f == ("__debug__" : Str)) = false) (hz : i.natAbs.log2 < 1920)
    (h : ∀ tk u, Q (.str (toString i) u) { s with toks := tk }) : wpAny (model prog w) A (eval (.FormattedValue (.Name f p0) (-1) none p1) env) Q E s := by
  refine wpAny_FormattedValue_plain (wpAny_Name (wpAny_loadName_local hk hl hn hv ?_) hd)
  exact wpAny_formatField_int hz (h _ _)
theorem msg_cf {v : Value} (rv : L2.RelV (.str y) v) (hz : (reprText y).length ≤ 100000) (hx : x.length ≤ 1000) (hn : s.heap.Ns env.locals m) (hv : m f = some v) (hk : env.scope.kind = .function) (hl : env.kindOf f = some .local) (hd : (f == ("__debug__" : Str)) = false) :
    wpAny (model prog w) A (eval (.JoinedStr [.Constant (.str x) j1 p2, .FormattedValue (.Name f p0) 114 none p1] p3) env) (fun _ s'' => ∃ tk, s'' = { s with toks := tk }) E s := by
  obtain ⟨t, rfl⟩ := rv
  have h1 := fits Str.empty x (by decide) (by omega)
  have h2 := fits (Str.empty ++ x) (reprText y) (by have : Str.empty.length = 0 := rfl; omega) hz
  refine wpAny_JoinedStr ?_
  refine wpAny_Constant_str ⟨_, _, rfl, l300 h1.1, ?_⟩
  refine fv_name (s := { s with toks := s.toks + 1 }) hn hv hk hl hd hz fun tk u => ⟨_, _, rfl, l300 h2.1, ?_⟩
  exact ⟨l300 h2.1, _, rfl⟩
theorem msg_fc {v : Value} (rv : L2.RelV (.str y) v) (hz : (reprText y).length ≤ 100000) (hx : x.length ≤ 1000) (hn : s.heap.Ns env.locals m) (hv : m f = some v) (hk : env.scope.kind = .function) (hl : env.kindOf f = some .local) (hd : (f == ("__debug__" : Str)) = false) :
    wpAny (model prog w) A (eval (.JoinedStr [.FormattedValue (.Name f p0) 114 none p1, .Constant (.str x) j1 p2] p3) env) (fun _ s'' => ∃ tk, s'' = { s with toks := tk }) E s := by
  obtain ⟨t, rfl⟩ := rv
  have h1 := fits Str.empty (reprText y) (by decide) hz
  have h2 := fits (Str.empty ++ reprText y) x (by have : Str.empty.length = 0 := rfl; omega) (by omega)
  refine wpAny_JoinedStr ?_
  refine fv_name hn hv hk hl hd hz fun tk u => ⟨_, _, rfl, l300 h1.1, ?_⟩
  refine wpAny_Constant_str ⟨_, _, rfl, l300 h2.1, ?_⟩
  exact ⟨l300 h2.1, _, rfl⟩
theorem msg_cfc {v : Value} (rv : L2.RelV (.str y) v) (hz : (reprText y).length ≤ 100000) (hx : x.length ≤ 1000) (hx2 : x2.length ≤ 1000) (hn : s.heap.Ns env.locals m) (hv : m f = some v) (hk : env.scope.kind = .function) (hl : env.kindOf f = some .local) (hd : (f == ("__debug__" : Str)) = false) :
    wpAny (model prog w) A (eval (.JoinedStr [.Constant (.str x) j1 p2, .FormattedValue (.Name f p0) 114 none p1, .Constant (.str x2) j2 p2'] p3) env) (fun _ s'' => ∃ tk, s'' = { s with toks := tk }) E s := by
  obtain ⟨t, rfl⟩ := rv
  have h1 := fits Str.empty x (by decide) (by omega)
  have h2 := fits (Str.empty ++ x) (reprText y) (by have : Str.empty.length = 0 := rfl; omega) hz
  have h3 := fits (Str.empty ++ x ++ reprText y) x2 (by have : Str.empty.length = 0 := rfl; omega) (by omega)
  refine wpAny_JoinedStr ?_
  refine wpAny_Constant_str ⟨_, _, rfl, l300 h1.1, ?_⟩
  refine fv_name (s := { s with toks := s.toks + 1 }) hn hv hk hl hd hz fun tk u => ⟨_, _, rfl, l300 h2.1, ?_⟩
  refine wpAny_Constant_str ⟨_, _, rfl, l300 h3.1, ?_⟩
  exact ⟨l300 h3.1, _, rfl⟩
theorem msg_ci {i : Int} {v : Value} (rv : L2.RelV (.int i) v) (hz : i.natAbs.log2 < 1920) (hx : x.length ≤ 1000) (hn : s.heap.Ns env.locals m) (hv : m f = some v) (hk : env.scope.kind = .function) (hl : env.kindOf f = some .local) (hd : (f == ("__debug__" : Str)) = false) :
    wpAny (model prog w) A (eval (.JoinedStr [.Constant (.str x) j1 p2, .FormattedValue (.Name f p0) (-1) none p1] p3) env) (fun _ s'' => ∃ tk, s'' = { s with toks := tk }) E s := by
  obtain ⟨t, rfl⟩ := rv
  have h1 := fits Str.empty x (by decide) (by omega)
  have hs : (PySem.Str.ofString (toString i)).length ≤ 100000 := by
    have h := PyProof.Rows.int_text_len_1921 hz
    omega
  have h2 := fits (Str.empty ++ x) (toString i) (by have : Str.empty.length = 0 := rfl; omega) hs
  refine wpAny_JoinedStr ?_
  refine wpAny_Constant_str ⟨_, _, rfl, l300 h1.1, ?_⟩
  refine fv_int (s := { s with toks := s.toks + 1 }) hn hv hk hl hd hz fun tk u => ⟨_, _, rfl, l300 h2.1, ?_⟩
  exact ⟨l300 h2.1, _, rfl⟩
end
end ExS

set_option maxHeartbeats 4000000
namespace HkS
open PySem PySem.Spec PyProof.Rows L2 He
/-! ### own exceptions, read off the head -/
abbrev FnY : Type := Option (Str × Str × Arguments × FuncBody × Scope × Addr × Addr)
def fnY (K : PySem.W.Frag) (a : Addr) : FnY := match K.lookup a with
  | some ⟨_, _, .func fd, _⟩ => some (fd.name, fd.qualname, fd.params, fd.body, fd.scope, fd.globals, fd.builtins)
  | _ => none
/-- an exception class: its name, its built-in base, its __init__ -/
structure ExD where
  x : Str
  B : String
  mro : List Value
  st : Stmt
  qual : Str
def iAd (K : PySem.W.Frag) (x : Str) : Addr := ma K (ga K x) "__init__"
def cloB (P : Program) (K : PySem.W.Frag) (a C : Addr) (qual : Str) : Bool := match K.lookup a with
  | some ⟨_, _, .func fd, _⟩ => (match fd.closure, fd.code, fd.defaults with
    | [(n, cc)], .ref cda, .none => decide (n = "__class__") && (PySem.W.codeIn K (.ref cda) qual && ((match K.lookup cda with
        | some ⟨_, _, .fields vs, _⟩ => (match (vs[2]? : Option Value) with
          | some (Value.str file _) => ((P.main.file : Str) == file)
          | _ => false)
        | _ => false) && (match K.lookup cc with
        | some ⟨_, _, .cell (some (.ref D)), _⟩ => decide (D = C)
        | _ => false)))
    | _, _, _ => false)
  | _ => false
def exB (P : Program) (K : PySem.W.Frag) (d : ExD) : Bool :=
  PySem.W.excInitIn K (ga K d.x) d.mro (d.B ++ ".__new__") && (PySem.W.excOver K (ga K d.x) d.mro && (eqO (PySem.W.findIn K (.ref (ga K d.x)) "__init__") (some (some (.ref (iAd K d.x)))) && (PySem.W.isFn K (.ref (iAd K d.x)) &&
  (decide (PySem.W.mroIn K (ga K d.x) (.ref (ga K d.x)) = some true) && (eqO (PySem.W.ks_superIn K (ga K d.x) (ga K d.x) "__init__") (some (some (.builtin (d.B ++ ".__init__")))) && (decide (PySem.W.subIn K (.ref (ga K d.x)) (.type d.B) = some true) &&
  (eqO (PySem.W.findIn K (.ref (ga K d.x)) "__setattr__") (some (some (.builtin "object.__setattr__"))) && (eqO (PySem.W.nsIn K cStatics "thirdparty.any") (some none) && (PySem.W.keepIn K (.ref (ga K d.x)) &&
  (decide (PySem.W.subIn K (.ref (ga K d.x)) (.type "BaseException") = some true) && (decide (PySem.W.typeIn K (.ref (ga K d.x)) = some (.type "type")) && (PySem.W.hasDictIn K (ga K d.x) && cloB P K (iAd K d.x) (ga K d.x) d.qual))))))))))))
/-- a built-in base's own facts -/
structure BaseOk (B : String) (bmB : List Value) : Prop where
  FB : ExcBaseFacts B (B ++ ".__new__") (B ++ ".__init__") bmB
  SF : StoreFacts B bmB "object.__setattr__" "object"
  KF : PySem.W.KxsFacts B (B ++ ".__init__")
theorem base_VE : BaseOk "ValueError" [.type "ValueError", .type "Exception", .type "BaseException", .type "object"] := ⟨F.excBase_ValueError, F.store_ValueError, PySem.W.kxs_ValueError⟩
theorem base_LE : BaseOk "LookupError" [.type "LookupError", .type "Exception", .type "BaseException", .type "object"] := ⟨F.excBase_LookupError, F.store_LookupError, PySem.W.kxs_LookupError⟩
def ExD.val (d : ExD) : FnY := some ("__init__", d.qual, defArgs d.st, .stmts (defBody d.st), defScope d.st, mainGlobals, builtinsNs)
theorem ex_ok {P : Program} {K : PySem.W.Frag} {d : ExD} (b : BaseOk d.B d.mro) (e : fnY K (iAd K d.x) = d.val) (c : exB P K d = true) :
    ExS.ESup P K (ga K d.x) (iAd K d.x) d.B (d.B ++ ".__new__") (d.B ++ ".__init__") d.mro d.qual (defArgs d.st) (defBody d.st) (defScope d.st) ∧ PySem.W.keepIn K (.ref (ga K d.x)) = true ∧ PySem.W.subIn K (.ref (ga K d.x)) (.type "BaseException") = some true ∧
    PySem.W.typeIn K (.ref (ga K d.x)) = some (.type "type") ∧ PySem.W.hasDictIn K (ga K d.x) = true := by
  obtain ⟨c1, c⟩ := ba c
  obtain ⟨c2, c⟩ := ba c
  obtain ⟨c3, c⟩ := ba c
  obtain ⟨c4, c⟩ := ba c
  obtain ⟨c5, c⟩ := ba c
  obtain ⟨c6, c⟩ := ba c
  obtain ⟨c7, c⟩ := ba c
  obtain ⟨c8, c⟩ := ba c
  obtain ⟨c9, c⟩ := ba c
  obtain ⟨c10, c⟩ := ba c
  obtain ⟨c11, c⟩ := ba c
  obtain ⟨c12, c⟩ := ba c
  obtain ⟨c13, c14⟩ := ba c
  refine ⟨⟨b.FB, b.SF, b.KF, c1, c2, eqO_ok c3, c4, ?_, of_decide_eq_true c5, eqO_ok c6, of_decide_eq_true c7, eqO_ok c8, eqO_ok c9⟩, c10, of_decide_eq_true c11, of_decide_eq_true c12, c13⟩
  unfold cloB at c14
  unfold fnY at e
  split at c14
  · rename_i oc od fd osl lk
    rw [lk] at e
    split at c14
    · rename_i n cc cda hcl hcd hdf
      obtain ⟨d1, d2⟩ := ba c14
      obtain ⟨d2, d3⟩ := ba d2
      obtain ⟨d3, d4⟩ := ba d3
      split at d3
      · rename_i ccl cdd vs ccs lk2
        split at d3
        · rename_i file tf hv
          split at d4
          · rename_i cl cld D csl lk3
            obtain ⟨n1, n2, n3, n4, n5, n6, n7, n8, n9, n10, n11, n12, n13, n14, n15⟩ := fd
            have e2 : (some (n1, n2, n3, n4, n5, n6, n15) : FnY) = (some (("__init__" : Str), d.qual, defArgs d.st, FuncBody.stmts (defBody d.st), defScope d.st, mainGlobals, builtinsNs) : FnY) := e
            simp only [Option.some.injEq, Prod.mk.injEq] at e2
            obtain ⟨h1, h2, h3, h4, h5, h6, h7⟩ := e2
            have h8 : n7 = [(n, cc)] := hcl
            have h9 : n13 = .ref cda := hcd
            have h10 : n8 = .none := hdf
            have h11 : n = "__class__" := of_decide_eq_true d1
            have h12 : D = ga K d.x := of_decide_eq_true d4
            subst h1 h2 h3 h4 h5 h6 h7 h8 h9 h10 h11 h12
            exact ⟨oc, od, n9, n10, n11, n12, n14, osl, cc, cda, ccl, cdd, vs, ccs, file, tf, cl, cld, csl, lk, d2, lk2, hv, d3, lk3⟩
          · cases d4
        · cases d3
      · cases d3
    · cases c14
  · cases c14
end HkS
namespace HkS
open PySem PySem.Spec PyProof.Rows L2 He
/-! ### the Hook -/
abbrev AlM : Type := Bool × List FnW × List FnY
def asM (g : Addr → Option Obj) (n : Nat) : List Addr := asD g n ++ [cStatics]
def obsM (P : Program) (fa : List Fa) (fn : List DefD) (ex : List ExD) (more : PySem.W.Frag → Bool) (K : PySem.W.Frag) : AlM :=
  ((fa.all fun f => f.ok K) && ((fn.all fun d => d.ok K) && ((ex.all fun d => exB P K d) && more K)), fn.map (fun d => fnW K d.at_), ex.map fun d => fnY K (iAd K d.x))
def valM (fn : List DefD) (ex : List ExD) : AlM := (true, fn.map DefD.val, ex.map ExD.val)
def SaysM (P : Program) (fa : List Fa) (fn : List DefD) (ex : List ExD) (more : PySem.W.Frag → Bool) (K : PySem.W.Frag) : Prop := obsM P fa fn ex more K = valM fn ex
def obsMG (n : Nat) (P : Program) (fa : List Fa) (fn : List DefD) (ex : List ExD) (more : PySem.W.Frag → Bool) (g : Addr → Option Obj) : AlM := obsM P fa fn ex more (frG g (asM g n))
def hookM (n : Nat) (P : Program) (fa : List Fa) (fn : List DefD) (ex : List ExD) (more : PySem.W.Frag → Bool) : PySem.W.Hook where
  α := AlM
  obs := fun s => obsMG n P fa fn ex more s.heap.get?
  val := fun _ => valM fn ex
  says := fun _ h => ∃ K : PySem.W.Frag, K.In h ∧ SaysM P fa fn ex more K
  of := fun _ _ e => ⟨_, frG_in, e⟩
  keeps := fun _ _ _ ⟨K, hK, c⟩ k => ⟨K, PySem.W.Frag.In.keeps hK k, c⟩
theorem obsMG_eq {n : Nat} {P : Program} {fa : List Fa} {fn : List DefD} {ex : List ExD} {more : PySem.W.Frag → Bool} {g : Addr → Option Obj} {s : Shared} (h : ∀ a, g a = s.heap.get? a) : obsMG n P fa fn ex more g = (hookM n P fa fn ex more).obs s := by
  have e : g = s.heap.get? := funext h
  rw [e] <;> rfl
section
variable {P : Program} {fa : List Fa} {fn : List DefD} {ex : List ExD} {more : PySem.W.Frag → Bool} {K : PySem.W.Frag}
theorem SaysM.bools (c : SaysM P fa fn ex more K) : (∀ f ∈ fa, f.ok K = true) ∧ (∀ d ∈ fn, d.ok K = true) ∧ (∀ d ∈ ex, exB P K d = true) ∧ more K = true := by
  have c1 : ((fa.all fun f => f.ok K) && ((fn.all fun d => d.ok K) && ((ex.all fun d => exB P K d) && more K))) = true := congrArg (fun z : AlM => z.1) c
  obtain ⟨h1, c1⟩ := ba c1
  obtain ⟨h2, c1⟩ := ba c1
  obtain ⟨h3, h4⟩ := ba c1
  exact ⟨List.all_eq_true.mp h1, List.all_eq_true.mp h2, List.all_eq_true.mp h3, h4⟩
theorem SaysM.moreB (c : SaysM P fa fn ex more K) : more K = true := c.bools.2.2.2
theorem SaysM.fact (c : SaysM P fa fn ex more K) (i : Nat) {f : Fa} (h : fa[i]? = some f := by rfl) : f.ok K = true := c.bools.1 f (List.mem_of_getElem? h)
theorem SaysM.def_ (c : SaysM P fa fn ex more K) (i : Nat) {d : DefD} (h : fn[i]? = some d := by rfl) : ∃ fd, FunD K d.name d.qual d.params d.body d.scope (d.dvs K) (d.kws K) (fAd K d.at_) fd := by
  have e : fn.map (fun d => fnW K d.at_) = fn.map DefD.val := congrArg (fun z : AlM => z.2.1) c
  have e2 : (fn.map fun d => fnW K d.at_)[i]? = (fn.map DefD.val)[i]? := by rw [e]
  rw [List.getElem?_map, List.getElem?_map, h] at e2
  exact DefD.funD (Option.some.inj e2) (c.bools.2.1 d (List.mem_of_getElem? h))
theorem SaysM.exn (c : SaysM P fa fn ex more K) (i : Nat) {d : ExD} (b : BaseOk d.B d.mro) (h : ex[i]? = some d := by rfl) :
    ExS.ESup P K (ga K d.x) (iAd K d.x) d.B (d.B ++ ".__new__") (d.B ++ ".__init__") d.mro d.qual (defArgs d.st) (defBody d.st) (defScope d.st) ∧ PySem.W.keepIn K (.ref (ga K d.x)) = true ∧ PySem.W.subIn K (.ref (ga K d.x)) (.type "BaseException") = some true ∧
    PySem.W.typeIn K (.ref (ga K d.x)) = some (.type "type") ∧ PySem.W.hasDictIn K (ga K d.x) = true := by
  have e : ex.map (fun d => fnY K (iAd K d.x)) = ex.map ExD.val := congrArg (fun z : AlM => z.2.2) c
  have e2 : (ex.map fun d => fnY K (iAd K d.x))[i]? = (ex.map ExD.val)[i]? := by rw [e]
  rw [List.getElem?_map, List.getElem?_map, h] at e2
  exact ex_ok b (Option.some.inj e2) (c.bools.2.2.1 d (List.mem_of_getElem? h))
end
end HkS

set_option maxHeartbeats 4000000
/-! short words of my own -/
namespace Bs
open PySem PySem.Spec PyProof.Rows L2 He HkS
/-- a def at f keeps its promise, and may be called by position -/
structure Ok (P : Program) (w : World) (K : PySem.W.Frag) (mg : Str → Option Value) (base : Heap) (k : Nat) (f : Addr) (ps : List Str) (sp : Sp) : Prop where
  ex : ∃ fd, FnOk P w K mg base (L2.CX P w) k f fd ps sp ∧ Binds K fd ps [] ∧ ∃ oc od sl, K.lookup f = some ⟨oc, od, .func fd, sl⟩
  kp : PySem.W.keepIn K (.ref f) = true
theorem Ok.mono {P : Program} {w : World} {K : PySem.W.Frag} {mg : Str → Option Value} {base : Heap} {j k : Nat} {f : Addr} {ps : List Str} {sp : Sp} (O : Ok P w K mg base j f ps sp) (h : j ≤ k) : Ok P w K mg base k f ps sp := by
  obtain ⟨fd, F, b, lkf⟩ := O.ex
  exact ⟨⟨fd, F.mono h, b, lkf⟩, O.kp⟩
theorem Ok.imp {P : Program} {w : World} {K : PySem.W.Frag} {mg : Str → Option Value} {base : Heap} {k : Nat} {f : Addr} {ps : List Str} {sp sp' : Sp} (O : Ok P w K mg base k f ps sp) (h : ∀ vs H Q E, sp' vs H Q E → sp vs H Q E) : Ok P w K mg base k f ps sp' := by
  obtain ⟨fd, F, b, lkf⟩ := O.ex
  exact ⟨⟨fd, F.imp h, b, lkf⟩, O.kp⟩
section
variable {X : Cx} {k : Nat} {f C fI : Addr} {ps : List Str} {sp : Sp} {E : XK} {x m : Str} {p pos apos : Pos} {e o : Expr} {es : List Expr} {ta : TE} {t : TA}
theorem pe_cO (O : Ok X.prog X.w X.K X.mg X.base k f ps sp) (hr : Room k X.A) (hm : X.mg x = some (.ref f)) (hx : Passes (L2.CX X.prog X.w) X E) (ha : PA X (e :: es) t) (hg : Gl X x := by rfl) (hdb : (x == ("__debug__" : Str)) = false := by decide)
    (he : starEach (e :: es) X.env = (false, eval e X.env) :: starEach es X.env := by rfl) (hpl : (backTo pos (starEach es X.env)).any (·.1) = false := by rfl) : PE X (.Call (.Name x p) (e :: es) [] pos) (tCall sp [] E t) := by
  obtain ⟨fd, F, b, lkf⟩ := O.ex
  exact pe_call F hr hg hm O.kp b .nil hx ha hdb he hpl
theorem pe_cO0 (O : Ok X.prog X.w X.K X.mg X.base k f ps sp) (hr : Room k X.A) (hm : X.mg x = some (.ref f)) (hx : Passes (L2.CX X.prog X.w) X E) (hg : Gl X x := by rfl) (hdb : (x == ("__debug__" : Str)) = false := by decide) : PE X (.Call (.Name x p) [] [] pos) (tCall sp [] E tNil) := by
  obtain ⟨fd, F, b, lkf⟩ := O.ex
  exact pe_call0 F hr hg hm O.kp b .nil hx hdb
theorem pe_mO {pl : Sem Bool} (he : PE X o ta) (c : Cls X.K C) (hm : Meth X.K C m f) (O : Ok X.prog X.w X.K X.mg X.base k f ps sp) (hr : Room k X.A) (hx : Passes (L2.CX X.prog X.w) X E) (ha : PA X (e :: es) t)
    (hst : starEach (e :: es) X.env = (false, eval e X.env) :: starEach es X.env := by rfl) (hpl : (backTo pos (starEach es X.env)).any (·.1) = false := by rfl)
    (ht : eval (.Call (.Attribute o m apos) (e :: es) [] pos) X.env = (do
      let ov ← eval o X.env
      standAt apos.atName
      let (f, first) ← holding [ov] (getMethod ov m pl)
      callWith pos f first (backTo pos (starEach (e :: es) X.env)) (backToKw pos (keywordEach [] X.env))) := by rfl) :
    PE X (.Call (.Attribute o m apos) (e :: es) [] pos) (tMeth C m sp [] E ta t) := by
  obtain ⟨fd, F, b, lkf⟩ := O.ex
  exact pe_meth he c hm F hr b .nil hx ha hst hpl ht
theorem pe_mO0 {pl : Sem Bool} (he : PE X o ta) (c : Cls X.K C) (hm : Meth X.K C m f) (O : Ok X.prog X.w X.K X.mg X.base k f ps sp) (hr : Room k X.A) (hx : Passes (L2.CX X.prog X.w) X E)
    (ht : eval (.Call (.Attribute o m apos) [] [] pos) X.env = (do
      let ov ← eval o X.env
      standAt apos.atName
      let (f, first) ← holding [ov] (getMethod ov m pl)
      callWith pos f first (backTo pos (starEach [] X.env)) (backToKw pos (keywordEach [] X.env))) := by rfl) :
    PE X (.Call (.Attribute o m apos) [] [] pos) (tMeth C m sp [] E ta tNil) := by
  obtain ⟨fd, F, b, lkf⟩ := O.ex
  exact pe_meth0 he c hm F hr b .nil hx ht
theorem pe_kO (M : Mk X.K C fI) (O : Ok X.prog X.w X.K X.mg X.base k fI ps sp) (hr : Room (k + 1) X.A) (hm : X.mg x = some (.ref C)) (hx : Passes (L2.CX X.prog X.w) X E) (ha : PA X (e :: es) t) (hg : Gl X x := by rfl) (hdb : (x == ("__debug__" : Str)) = false := by decide)
    (he : starEach (e :: es) X.env = (false, eval e X.env) :: starEach es X.env := by rfl) (hpl : (backTo pos (starEach es X.env)).any (·.1) = false := by rfl) : PE X (.Call (.Name x p) (e :: es) [] pos) (tMake C sp [] E t) := by
  obtain ⟨fd, F, b, lkf⟩ := O.ex
  exact pe_make M F hr hg hm b .nil hx ha hdb he hpl
/-- x = e -/
theorem ps_s (i : Nat) {y : Str} {p' : Pos} {te : TE} (nd : X.N.Nodup) (he : PE X e te) (hN : X.N[i]? = some y := by rfl) (hl : Loc X.env.scope y := by first | exact Or.inl rfl | exact Or.inr rfl) (hs : swapsWith e (some (.Name y p')) pos.line X.env = pure false := by rfl) (hf : X.fn y = true ∨ X.env.scope.names.lookup y = some .local := by first | exact .inl rfl | exact .inr rfl | assumption) : PS X (.Assign [.Name y p'] e pos) (tAsg te (gName i)) :=
  ps_set (i := i) nd hN hl he hs hf
theorem pg_n (i : Nat) {y : Str} {p' : Pos} (nd : X.N.Nodup) (hN : X.N[i]? = some y := by rfl) (hl : Loc X.env.scope y := by first | exact Or.inl rfl | exact Or.inr rfl) (hf : X.fn y = true ∨ X.env.scope.names.lookup y = some .local := by first | exact .inl rfl | exact .inr rfl | assumption) : PG X (.Name y p') (gName i) := pg_name nd hN hl hf
end
/-- THE RULE for a def of the text -/
theorem ok_of {P : Program} {w : World} {K : PySem.W.Frag} {mg : Str → Option Value} {base : Heap} {x qual : Str} {params : Arguments} {body : List Stmt} {scope : Scope} {f : Addr} {N ps : List Str} {k : Nat} {sp : Sp}
    (F : ∃ fd, FunD K x qual params body scope [] [] f fd) (S : FnScope N ps scope) (len : ∀ vs H Q E, sp vs H Q E → vs.length = ps.length)
    (hb : ∀ (kV doc pm : Value) (an : Option Addr) (cdv ct : Value) (us : List Value), us.length = ps.length → bindArgs (PySem.W.fnOf x qual params body scope .none kV doc pm an cdv ct) ⟨us, []⟩ = pure (ps.zip us))
    (hbody : ∀ (cdv : Value) (A : Around) (outer : List Env) (s : Shared) (H : Hp) (vs : List V) (Q : VK) (E : XK), Room k (A.deeper (envOfC qual scope s.heap.objs.size f cdv)) → sp vs H Q E →
      ∃ t, PSs (cxOf (L2.CX P w) P w K mg base N qual scope f cdv A outer s H E) body t ∧ t { nx := fun _ H' => Q .non H', rt := Q } (start N vs) H) : Ok P w K mg base (k + 1) f ps sp := by
  obtain ⟨fd, F⟩ := F
  obtain ⟨oc, od, dV, kV, doc, pm, an, cdv, ct, osl, rfl, lk, _⟩ := id F.ex
  exact ⟨⟨_, F.ok S len hbody, F.bindsN hb, oc, od, osl, lk⟩, F.kp⟩
/-! ### the same rules with K written out (within a comprehension) -/
section
variable {X : Cx} {K : PySem.W.Frag}
theorem ixL (h : X.K = K := by rfl) : IxR X (rIxL K) := by subst h; exact ix_list
theorem ixT (h : X.K = K := by rfl) : IxR X (rIxT K) := by subst h; exact ix_tup
theorem ixQ (h : X.K = K := by rfl) : IxR X (rIx K) := by subst h; exact ix_seq
theorem inQ (h : X.K = K := by rfl) : OpR X (compareOp .In) (rIn K false) := by subst h; exact op_in_seq
theorem ninQ (h : X.K = K := by rfl) : OpR X (compareOp .NotIn) (rIn K true) := by subst h; exact op_notIn_seq
theorem slL (h : X.K = K := by rfl) : SlR X (rSlL K) := by subst h; exact sl_list
def rLenQ (K : PySem.W.Frag) : List V → Hp → VK → Prop := fun xs H Q => ∃ p ys, xs = [.ref p] ∧ (SqL K H p ys ∨ SqT K H p ys) ∧ Q (.int ys.length) H
theorem lenQ (h : X.K = K := by rfl) : CallR X (.builtin "len") (rLenQ K) := by subst h; exact call_len_seq
def rListQ (K : PySem.W.Frag) : List V → Hp → VK → Prop := fun xs H Q => ∃ p ys, xs = [.ref p] ∧ (SqL K H p ys ∨ SqT K H p ys) ∧ ∀ l, H l = none → Q (.ref l) (upd H l (.lst ys))
theorem listQ (h : X.K = K := by rfl) : CallR X (.type "list") (rListQ K) := by subst h; exact call_list_of
theorem sumQ (hc : X.calm = true) (h : X.K = K := by rfl) : CallR X (.builtin "sum") (rSum K) := by subst h; exact cr_sum hc
theorem anyQ (hc : X.calm = true) (h : X.K = K := by rfl) : CallR X (.builtin "any") (rAny K) := by subst h; exact cr_any hc
theorem allQ (hc : X.calm = true) (h : X.K = K := by rfl) : CallR X (.builtin "all") (rAll K) := by subst h; exact cr_all hc
theorem isiQ (h : X.K = K := by rfl) : CallR X (.builtin "isinstance") (rIsi K) := by subst h; exact call_isi
theorem isiTQ (h : X.K = K := by rfl) : CallR X (.builtin "isinstance") (rIsiT K) := by subst h; exact call_isiT
theorem fldQ {e : Expr} {ta : TE} {f : Str} {pos : Pos} (he : PE X e ta) (hb : attributeBase e f X.env (eval e X.env) = eval e X.env := by rfl) (h : X.K = K := by rfl) : PE X (.Attribute e f pos) (tFld K ta f) := by subst h; exact pe_fld he hb
theorem listI {tg l : Expr} {tl : TE} (h : PE X l tl) (hk : X.K = K := by rfl) : PI X tg l (iList K tl) := by subst hk; exact pi_list h
theorem mtIx (h : X.K = K := by rfl) : MtR X "list.index" (rIndex K) := by subst h; exact mt_index
theorem eqDQ (hu : X.A.units + 64 < cLine) (h : X.K = K := by rfl) : OpR X (compareOp .Eq) (rEqD K) := by subst h; exact op_eqD hu
theorem neDQ (hu : X.A.units + 64 < cLine) (h : X.K = K := by rfl) : OpR X (compareOp .NotEq) (rNeD K) := by subst h; exact op_neD hu
end
/-! ### a base class's method, called through the class -/
def clsB (K : PySem.W.Frag) (C : Addr) (m : Str) : Bool := PySem.W.readsIn K C (.type "type") && (decide (PySem.W.specialIn K (.ref C) "__getattribute__" = some (some (.builtin "type.__getattribute__"))) && (match PySem.W.findCls K (.ref C) (.type "type") m with
  | some (.val (.ref a)) => decide (a = ma K C m)
  | _ => false))
structure ClsM (K : PySem.W.Frag) (C : Addr) (m : Str) : Prop where
  rd : ClX.CRead K C (.type "type")
  at_ : PySem.W.findCls K (.ref C) (.type "type") m = some (.val (.ref (ma K C m)))
theorem clsB_ok {K : PySem.W.Frag} {C : Addr} {m : Str} (h : clsB K C m = true) : ClsM K C m := by
  obtain ⟨h1, h⟩ := ba h
  obtain ⟨h2, h3⟩ := ba h
  refine ⟨⟨h1, of_decide_eq_true h2⟩, ?_⟩
  split at h3
  · rename_i a e
    rw [e, of_decide_eq_true h3]
  · cases h3
section
variable {X : Cx} {k : Nat} {f C : Addr} {ps : List Str} {sp : Sp} {E : XK} {x m : Str} {p pos apos : Pos} {e : Expr} {es : List Expr} {t : TA}
theorem pe_clsO {pl : Sem Bool} (c : ClsM X.K C m) (hm : X.mg x = some (.ref C)) (O : Ok X.prog X.w X.K X.mg X.base k (ma X.K C m) ps sp) (hr : Room k X.A) (hx : Passes (L2.CX X.prog X.w) X E) (ha : PA X (e :: es) t) (hg : Gl X x := by rfl) (hdb : (x == ("__debug__" : Str)) = false := by decide)
    (hst : starEach (e :: es) X.env = (false, eval e X.env) :: starEach es X.env := by rfl) (hpl : (backTo pos (starEach es X.env)).any (·.1) = false := by rfl)
    (ht : eval (.Call (.Attribute (.Name x p) m apos) (e :: es) [] pos) X.env = (do
      let ov ← eval (.Name x p) X.env
      standAt apos.atName
      let (f, first) ← holding [ov] (getMethod ov m pl)
      callWith pos f first (backTo pos (starEach (e :: es) X.env)) (backToKw pos (keywordEach [] X.env))) := by rfl) :
    PE X (.Call (.Attribute (.Name x p) m apos) (e :: es) [] pos) (tCall sp [] E t) := by
  obtain ⟨fd, F, b, lkf⟩ := O.ex
  have hn : PE X (.Name x p) (tC (.ref C)) := pe_glob hg hm rfl hdb
  refine ⟨fun pins s σ H Q I h => ?_⟩
  refine PySem.W.methodCall_KW (pl := pl) (thn (hn.run pins s σ H (fun v H1 => v = .ref C ∧ H1 = H) I ⟨rfl, rfl⟩) fun u s1 ⟨x, H1, I1, rx, ex, eH⟩ => ?_) ht
  subst ex
  subst eH
  obtain rfl : u = Value.ref C := rx
  refine PySem.W.method_cls I1.kIn c.rd.ga (PySem.W.cls_value I1.kIn c.rd.rd c.at_ (handed_of (v := .ref (ma X.K C m)) rfl) ?_)
  refine PySem.W.callWith_K (first := []) (h₀ := X.base) I1.ok.mod.kin O.kp (thn (ha.run pos pins _ σ H1 _ (I1.tok _) h) fun us s2 ⟨vs, H2, I2, r, q2⟩ => ⟨I2.kIn, ?_⟩) hst hpl
  exact run_fn F hr b .nil hx I2 r q2
end
/-! ### a method by the object's class as it is met; calls within a try -/
/-- the class at C has the method m, its def at f keeps sp -/
def MD (P : Program) (w : World) (K : PySem.W.Frag) (mg : Str → Option Value) (base : Heap) (k : Nat) (m : Str) (C f : Addr) (sp : Sp) : Prop := Cls K C ∧ Meth K C m f ∧ ∃ ps, Ok P w K mg base k f ps sp
def tMethD (D : Addr → Addr → Sp → Prop) (m : Str) (E : L2.St → XK) (ta : TE) (t : TA) : TE := fun σ H Q => ta σ H fun x H1 => ∃ (a C dx : Addr) (fs : List (Str × V)) (f : Addr) (sp : Sp), x = .ref a ∧ H1 a = some (.ins C dx fs) ∧ fs.lookup m = none ∧ D C f sp ∧ t σ H1 fun vs H2 => sp (x :: vs) H2 Q (E σ)
section
variable {X : Cx} {k : Nat} {f C fI : Addr} {ps : List Str} {sp : Sp} {E : L2.St → XK} {x m : Str} {p pos apos : Pos} {e o : Expr} {es : List Expr} {ta : TE} {t : TA} {D : Addr → Addr → Sp → Prop}
theorem pe_mD {pl : Sem Bool} (he : PE X o ta) (hD : ∀ C f sp, D C f sp → MD X.prog X.w X.K X.mg X.base k m C f sp) (hr : Room k X.A) (hx : ∀ σ, PassesAt (L2.CX X.prog X.w) X σ (E σ)) (ha : PA X (e :: es) t)
    (hst : starEach (e :: es) X.env = (false, eval e X.env) :: starEach es X.env := by rfl) (hpl : (backTo pos (starEach es X.env)).any (·.1) = false := by rfl)
    (ht : eval (.Call (.Attribute o m apos) (e :: es) [] pos) X.env = (do
      let ov ← eval o X.env
      standAt apos.atName
      let (f, first) ← holding [ov] (getMethod ov m pl)
      callWith pos f first (backTo pos (starEach (e :: es) X.env)) (backToKw pos (keywordEach [] X.env))) := by rfl) :
    PE X (.Call (.Attribute o m apos) (e :: es) [] pos) (tMethD D m E ta t) := by
  refine ⟨fun pins s σ H Q I h => ?_⟩
  refine PySem.W.methodCall_KW (pl := pl) (thn (he.run pins s σ H _ I h) fun u s1 ⟨x, H1, I1, rx, a, C, dx, fs, f, sp, ex, ea, l, d, q⟩ => ?_) ht
  obtain ⟨c, hm, ps, O⟩ := hD _ _ _ d
  obtain ⟨fd, F, b, lkf⟩ := O.ex
  subst ex
  obtain rfl : u = Value.ref a := rx
  refine getmeth_ok I1 ea c hm l ?_
  refine PySem.W.callWith_K (first := [.ref a]) (h₀ := X.base) I.ok.mod.kin hm.kp (thn (ha.run pos pins s1 σ H1 _ I1 q) fun us s2 ⟨vs, H2, I2, r, q2⟩ => ⟨I2.kIn, ?_⟩) hst hpl
  exact run_fnS (E := E) (us := .ref a :: us) (vs := .ref a :: vs) F hr b (hx σ) I2 (.cons rfl r) q2
theorem pe_mD0 {pl : Sem Bool} (he : PE X o ta) (hD : ∀ C f sp, D C f sp → MD X.prog X.w X.K X.mg X.base k m C f sp) (hr : Room k X.A) (hx : ∀ σ, PassesAt (L2.CX X.prog X.w) X σ (E σ))
    (ht : eval (.Call (.Attribute o m apos) [] [] pos) X.env = (do
      let ov ← eval o X.env
      standAt apos.atName
      let (f, first) ← holding [ov] (getMethod ov m pl)
      callWith pos f first (backTo pos (starEach [] X.env)) (backToKw pos (keywordEach [] X.env))) := by rfl) :
    PE X (.Call (.Attribute o m apos) [] [] pos) (tMethD D m E ta tNil) := by
  refine ⟨fun pins s σ H Q I h => ?_⟩
  refine PySem.W.methodCall_KW (pl := pl) (thn (he.run pins s σ H _ I h) fun u s1 ⟨x, H1, I1, rx, a, C, dx, fs, f, sp, ex, ea, l, d, q⟩ => ?_) ht
  obtain ⟨c, hm, ps, O⟩ := hD _ _ _ d
  obtain ⟨fd, F, b, lkf⟩ := O.ex
  subst ex
  obtain rfl : u = Value.ref a := rx
  refine getmeth_ok I1 ea c hm l ?_
  exact PySem.W.callWith_K0 (first := [.ref a]) I1.kIn hm.kp (run_fnS (E := E) (us := [.ref a]) (vs := [.ref a]) F hr b (hx σ) I1 (.cons rfl .nil) q)
theorem pe_cOS (O : Ok X.prog X.w X.K X.mg X.base k f ps sp) (hr : Room k X.A) (hm : X.mg x = some (.ref f)) (hx : ∀ σ, PassesAt (L2.CX X.prog X.w) X σ (E σ)) (ha : PA X (e :: es) t) (hg : Gl X x := by rfl) (hdb : (x == ("__debug__" : Str)) = false := by decide)
    (he : starEach (e :: es) X.env = (false, eval e X.env) :: starEach es X.env := by rfl) (hpl : (backTo pos (starEach es X.env)).any (·.1) = false := by rfl) : PE X (.Call (.Name x p) (e :: es) [] pos) (tCallS sp E t) := by
  obtain ⟨fd, F, b, lkf⟩ := O.ex
  exact pe_callS F hr hg hm O.kp b hx ha hdb he hpl
def tMakeS (C : Addr) (sp : Sp) (E : L2.St → XK) (t : TA) : TE := fun σ H Q => t σ H fun vs H1 => ∀ x dx, H1 x = none → H1 dx = none → dx ≠ x → sp (.ref x :: vs) (upd (upd H1 dx (.own x)) x (.ins C dx [])) (fun v H2 => v = .non ∧ Q (.ref x) H2) (E σ)
theorem run_makeS {pins : List (Addr × Obj)} {σ : L2.St} {H : Hp} {s : Shared} {Q : VK} {us : List Value} {vs : List V} {fd : FuncData} (M : Mk X.K C f) (F : FnOk X.prog X.w X.K X.mg X.base (L2.CX X.prog X.w) k f fd ps sp) (hr : Room (k + 1) X.A) (hb : Binds X.K fd ps [])
    (tk : ∀ (H' : Hp) (s' : Shared) (e : Value) (s'' : Shared), Inv X pins σ H' s' → L2.CX X.prog X.w X.stack H' s' (E σ) e s'' → X.xe e s'') (I : Inv X pins σ H s) (r : Vals vs us)
    (h : ∀ x dx, H x = none → H dx = none → dx ≠ x → sp (.ref x :: vs) (upd (upd H dx (.own x)) x (.ins C dx [])) (fun v H2 => v = .non ∧ Q (.ref x) H2) (E σ)) :
    wpAny (model X.prog X.w) X.A (call (.ref C) us) (EP X pins σ Q) X.xe s := by
  have hq := h (s.heap.objs.size + 1) s.heap.objs.size (I.hok.fresh (Nat.le_succ _)) (I.hok.fresh (Nat.le_refl _)) (Nat.ne_of_lt (Nat.lt_succ_self _))
  have I2 := Inv.made (C := C) I
  have r2 : Vals (V.ref (s.heap.objs.size + 1) :: vs) (Value.ref (s.heap.objs.size + 1) :: us) := .cons rfl r
  have hl : (Value.ref (s.heap.objs.size + 1) :: us).length = ps.length := by
    have e := r2.length
    rw [F.len _ _ _ _ hq] at e
    exact e.symm
  have hb2 := hb _ (Value.ref (s.heap.objs.size + 1) :: us) I2.kIn (by rw [List.append_nil]; exact hl)
  rw [List.append_nil] at hb2
  refine wpAny_call (make_map (f := f) I.kIn M.makes M.init (beq_iff_eq.mp M.fn) (codeAny_mono (F.run _ X.stack _ _ ⟨Value.ref (s.heap.objs.size + 1) :: us, []⟩ (Value.ref (s.heap.objs.size + 1) :: us) _ _ (E σ) (hr.make C us [])
    (I2.env0.make C us []) hb2 r2 hq) fun r s' hq' => ?_))
  cases r with
  | error e => exact tk _ _ e s' I2 hq'
  | ok fl =>
    cases fl with
    | ret u =>
      obtain ⟨v, H', I3, rv, ev, q3⟩ := I2.after hq'
      subst ev
      exact ⟨rv, ⟨V.ref (s.heap.objs.size + 1), H', I3, rfl, q3⟩⟩
    | next => exact False.elim hq'
    | brk => exact False.elim hq'
    | cont => exact False.elim hq'
theorem pe_kOS (M : Mk X.K C fI) (O : Ok X.prog X.w X.K X.mg X.base k fI ps sp) (hr : Room (k + 1) X.A) (hm : X.mg x = some (.ref C)) (hx : ∀ σ, PassesAt (L2.CX X.prog X.w) X σ (E σ)) (ha : PA X (e :: es) t) (hg : Gl X x := by rfl) (hdb : (x == ("__debug__" : Str)) = false := by decide)
    (he : starEach (e :: es) X.env = (false, eval e X.env) :: starEach es X.env := by rfl) (hpl : (backTo pos (starEach es X.env)).any (·.1) = false := by rfl) : PE X (.Call (.Name x p) (e :: es) [] pos) (tMakeS C sp E t) := by
  obtain ⟨fd, F, b, lkf⟩ := O.ex
  refine ⟨fun pins s σ H Q I h => ?_⟩
  refine wpAny_Call_Name_kw (ld_glob I hg hm ?_ hdb)
  refine PySem.W.callWith_K (h₀ := X.base) I.ok.mod.kin M.kp (thn (ha.run pos pins s σ H _ I h) fun us s1 ⟨vs, H1, I1, r, q⟩ => ⟨I1.kIn, ?_⟩) he hpl
  exact run_makeS (E := E) M F hr b (fun H' s' e s'' I' c => hx σ pins H' s' e s'' I' c) I1 r q
end
/-- nothing is let out here -/
theorem passLS {X : Cx} (σ : L2.St) : PassesAt (L2.CX X.prog X.w) X σ (fun _ _ _ => False) := fun _ _ _ _ _ _ h => by
  obtain ⟨_, _, _, _, _, _, _, _, _, _, _, _, z⟩ := h
  exact z.elim
/-- what the def itself may let out -/
theorem passOS {X : Cx} {E : XK} (tk : Takes X (fun cls d _ H => E cls d H)) (σ : L2.St) : PassesAt (L2.CX X.prog X.w) X σ E := fun _ _ _ e s' I c => tk e s' (XE.of_call I (fun _ _ _ h => h) c)
section
variable {X : Cx} {K : PySem.W.Frag} {T id : String} {name : Str} {r : V → List V → Hp → VK → Prop} {o e : Expr} {es : List Expr} {to : TE} {t : TA} {apos cpos : Pos}
theorem bmQ (pa : PlainAttrs T) (slot : Slot T name id) (hty : typeOf (.builtin id) = pure (.type "method_descriptor")) (hm : MtR X id r) (ho : PE X o to) (ha : PA X (e :: es) t)
    (hbase : attributeBase o name X.env (eval o X.env) = eval o X.env := by rfl)
    (hfew : ((backTo cpos (starEach (e :: es) X.env)).all (fun x => !x.1) && (backToKw cpos (keywordEach [] X.env)).all (fun x => x.1.isSome) && decide ((e :: es).length + ([] : List Keyword).length + (if ([] : List Keyword).isEmpty then 0 else 1) < 30)) = true := by rfl)
    (hline : (apos.endLine == cpos.line) = true := by rfl) (hs : starEach (e :: es) X.env = (false, eval e X.env) :: starEach es X.env := by rfl) (hplain : (backTo cpos (starEach es X.env)).any (·.1) = false := by rfl) (hk : X.K = K := by rfl) :
    PE X (.Call (.Attribute o name apos) (e :: es) [] cpos) (tBM K T r to t) := by
  subst hk
  exact pe_bm pa slot hty hm ho ha hbase hfew hline hs hplain
theorem bmQ0 (pa : PlainAttrs T) (slot : Slot T name id) (hty : typeOf (.builtin id) = pure (.type "method_descriptor")) (hm : MtR X id r) (ho : PE X o to)
    (hbase : attributeBase o name X.env (eval o X.env) = eval o X.env := by rfl) (hline : (apos.endLine == cpos.line) = true := by rfl) (hk : X.K = K := by rfl) : PE X (.Call (.Attribute o name apos) [] [] cpos) (tBM0 K T r to) := by
  subst hk
  exact pe_bm0 pa slot hty hm ho hbase hline
def rJoinQ (K : PySem.W.Frag) : V → List V → Hp → VK → Prop := fun x xs H Q => ∃ a p, ∃ ys : List Str, x = .str a ∧ xs = [.ref p] ∧ (SqL K H p (ys.map V.str) ∨ SqT K H p (ys.map V.str)) ∧ (ys.map (·.length)).sum + ys.length * a.length ≤ 16777216 ∧ Q (.str (Txt.join a ys)) H
theorem joinQ {te : TE} (ho : PE X o to) (he : PE X e te) (hs : starEach [e] X.env = [(false, eval e X.env)] := by rfl) (hbase : attributeBase o "join" X.env (eval o X.env) = eval o X.env := by rfl) (hline : (apos.endLine == cpos.line) = true := by rfl) (hk : X.K = K := by rfl) :
    PE X (.Call (.Attribute o "join" apos) [e] [] cpos) (tM1 (rJoinQ K) to te) := by
  subst hk
  exact pe_join ho he hs hbase hline
end
/-! ### the law's end -/
theorem cx0_of {P : Program} {w : World} {K : PySem.W.Frag} {mg : Str → Option Value} {base : Heap} {k : Nat} {f : Addr} {fd : FuncData} {ps : List Str} {sp : Sp} (F : FnOk P w K mg base (L2.CX P w) k f fd ps sp) :
    FnOk P w K mg base CX0 k f fd ps (fun vs H Q _ => sp vs H Q fun _ _ _ => False) := by
  refine ⟨fun vs H Q E h => F.len vs H Q _ h, fun A outer s H args us vs Q E hr he hb hv hs => codeAny_mono (F.run A outer s H args us vs Q _ hr he hb hv hs) fun r s' hq => ?_⟩
  cases r with
  | error e =>
    obtain ⟨_, _, _, _, _, _, _, _, _, _, _, _, z⟩ := hq
    exact z.elim
  | ok fl => cases fl <;> exact hq
theorem fd_same {K : PySem.W.Frag} {f : Addr} {fd fd0 : FuncData} (h1 : ∃ oc od sl, K.lookup f = some ⟨oc, od, .func fd, sl⟩) (h2 : ∃ oc od sl, K.lookup f = some ⟨oc, od, .func fd0, sl⟩) : fd = fd0 := by
  obtain ⟨_, _, _, e1⟩ := h1
  obtain ⟨_, _, _, e2⟩ := h2
  have e := e1.symm.trans e2
  cases e
  rfl
theorem law_end {P : Program} {w : World} {K : PySem.W.Frag} {mg : Str → Option Value} {h : Heap} {x qual : Str} {params : Arguments} {body : List Stmt} {scope : Scope} {f : Addr} {fd0 : FuncData} {k : Nat} {p : Str} {sp : Sp} {n : Nat} (KX : K.In h)
    (F0 : FunD K x qual params body scope [] [] f fd0) (hb : ∀ (s : Shared) (u : Value), BindsTo s fd0 ⟨[u], []⟩ [(p, u)]) (O : ∀ base : Heap, Ok P w K mg base k f [p] sp)
    (hsp : ∀ (H : Hp) (a : Addr) (ns : List Int), ns.length ≤ n → SqL K H a (ns.map V.int) → sp [.ref a] H (fun v _ => v = .bl true) fun _ _ _ => False) :
    ∃ (K : PySem.W.Frag) (fd : FuncData) (sp : Sp), K.In h ∧ (∀ (s : Shared) (u : Value), BindsTo s fd ⟨[u], []⟩ [(p, u)]) ∧
      (∀ (H : Hp) (a : Addr) (ns : List Int), ns.length ≤ n → Only H → SqL K H a (ns.map V.int) → sp [.ref a] H (fun v _ => v = .bl true) fun _ _ _ => False) ∧
      ∀ base : Heap, K.In base → base.Ns mainGlobals mg → FnOk P w K mg base CX0 k f fd [p] sp := by
  refine ⟨K, fd0, fun vs H Q _ => sp vs H Q fun _ _ _ => False, KX, hb, fun H a ns hl _ hS => hsp H a ns hl hS, fun base _ _ => ?_⟩
  obtain ⟨fd, F, b, lkf⟩ := (O base).ex
  obtain ⟨oc, od, dV, kV, doc, pm, an, cdv, ct, osl, e0, lk, _⟩ := F0.ex
  have e : fd = fd0 := fd_same lkf ⟨oc, od, osl, lk⟩
  subst e
  exact cx0_of F
end Bs

set_option maxHeartbeats 4000000
namespace Fb
open PySem PySem.W PySem.Calls PyProof.Rows PySem.W.KXf Builtin Builtin.Str Builtin.Int
/-- n in binary -/
def binT (n : Nat) : PySem.Str := PySem.Str.ofString (String.ofList (Nat.toDigits 2 n))
def FbP (n : Nat) : Prop := ∀ (t u : Tok), Meets («int.__format__» ⟨[.int (n : Nat) t, .str "b" u], []⟩) (fun _ R s => ∀ t' k, R (.ok (.ret (.str (binT n) t'))) { s with toks := k })
theorem fb0 : FbP 0 := by
  intro t
  show ∀ u : Tok, Meets («int.__format__» ⟨[.int 0 t, .str "b" u], []⟩) (fun _ R s => ∀ t' k, R (.ok (.ret (.str (binT 0) t'))) { s with toks := k })
  kxf_run_i
theorem fb1 : FbP 1 := by
  intro t
  show ∀ u : Tok, Meets («int.__format__» ⟨[.int 1 t, .str "b" u], []⟩) (fun _ R s => ∀ t' k, R (.ok (.ret (.str (binT 1) t'))) { s with toks := k })
  kxf_run_i
theorem fb2 : FbP 2 := by
  intro t
  show ∀ u : Tok, Meets («int.__format__» ⟨[.int 2 t, .str "b" u], []⟩) (fun _ R s => ∀ t' k, R (.ok (.ret (.str (binT 2) t'))) { s with toks := k })
  kxf_run_i
theorem fb3 : FbP 3 := by
  intro t
  show ∀ u : Tok, Meets («int.__format__» ⟨[.int 3 t, .str "b" u], []⟩) (fun _ R s => ∀ t' k, R (.ok (.ret (.str (binT 3) t'))) { s with toks := k })
  kxf_run_i
theorem fb4 : FbP 4 := by
  intro t
  show ∀ u : Tok, Meets («int.__format__» ⟨[.int 4 t, .str "b" u], []⟩) (fun _ R s => ∀ t' k, R (.ok (.ret (.str (binT 4) t'))) { s with toks := k })
  kxf_run_i
theorem fb5 : FbP 5 := by
  intro t
  show ∀ u : Tok, Meets («int.__format__» ⟨[.int 5 t, .str "b" u], []⟩) (fun _ R s => ∀ t' k, R (.ok (.ret (.str (binT 5) t'))) { s with toks := k })
  kxf_run_i
theorem fb6 : FbP 6 := by
  intro t
  show ∀ u : Tok, Meets («int.__format__» ⟨[.int 6 t, .str "b" u], []⟩) (fun _ R s => ∀ t' k, R (.ok (.ret (.str (binT 6) t'))) { s with toks := k })
  kxf_run_i
theorem fb7 : FbP 7 := by
  intro t
  show ∀ u : Tok, Meets («int.__format__» ⟨[.int 7 t, .str "b" u], []⟩) (fun _ R s => ∀ t' k, R (.ok (.ret (.str (binT 7) t'))) { s with toks := k })
  kxf_run_i
theorem fb8 : FbP 8 := by
  intro t
  show ∀ u : Tok, Meets («int.__format__» ⟨[.int 8 t, .str "b" u], []⟩) (fun _ R s => ∀ t' k, R (.ok (.ret (.str (binT 8) t'))) { s with toks := k })
  kxf_run_i
theorem fb9 : FbP 9 := by
  intro t
  show ∀ u : Tok, Meets («int.__format__» ⟨[.int 9 t, .str "b" u], []⟩) (fun _ R s => ∀ t' k, R (.ok (.ret (.str (binT 9) t'))) { s with toks := k })
  kxf_run_i
theorem fb10 : FbP 10 := by
  intro t
  show ∀ u : Tok, Meets («int.__format__» ⟨[.int 10 t, .str "b" u], []⟩) (fun _ R s => ∀ t' k, R (.ok (.ret (.str (binT 10) t'))) { s with toks := k })
  kxf_run_i
theorem fb11 : FbP 11 := by
  intro t
  show ∀ u : Tok, Meets («int.__format__» ⟨[.int 11 t, .str "b" u], []⟩) (fun _ R s => ∀ t' k, R (.ok (.ret (.str (binT 11) t'))) { s with toks := k })
  kxf_run_i
theorem fb12 : FbP 12 := by
  intro t
  show ∀ u : Tok, Meets («int.__format__» ⟨[.int 12 t, .str "b" u], []⟩) (fun _ R s => ∀ t' k, R (.ok (.ret (.str (binT 12) t'))) { s with toks := k })
  kxf_run_i
theorem fb13 : FbP 13 := by
  intro t
  show ∀ u : Tok, Meets («int.__format__» ⟨[.int 13 t, .str "b" u], []⟩) (fun _ R s => ∀ t' k, R (.ok (.ret (.str (binT 13) t'))) { s with toks := k })
  kxf_run_i
theorem fb14 : FbP 14 := by
  intro t
  show ∀ u : Tok, Meets («int.__format__» ⟨[.int 14 t, .str "b" u], []⟩) (fun _ R s => ∀ t' k, R (.ok (.ret (.str (binT 14) t'))) { s with toks := k })
  kxf_run_i
theorem fb15 : FbP 15 := by
  intro t
  show ∀ u : Tok, Meets («int.__format__» ⟨[.int 15 t, .str "b" u], []⟩) (fun _ R s => ∀ t' k, R (.ok (.ret (.str (binT 15) t'))) { s with toks := k })
  kxf_run_i
theorem fb16 : FbP 16 := by
  intro t
  show ∀ u : Tok, Meets («int.__format__» ⟨[.int 16 t, .str "b" u], []⟩) (fun _ R s => ∀ t' k, R (.ok (.ret (.str (binT 16) t'))) { s with toks := k })
  kxf_run_i
theorem fb17 : FbP 17 := by
  intro t
  show ∀ u : Tok, Meets («int.__format__» ⟨[.int 17 t, .str "b" u], []⟩) (fun _ R s => ∀ t' k, R (.ok (.ret (.str (binT 17) t'))) { s with toks := k })
  kxf_run_i
theorem fb18 : FbP 18 := by
  intro t
  show ∀ u : Tok, Meets («int.__format__» ⟨[.int 18 t, .str "b" u], []⟩) (fun _ R s => ∀ t' k, R (.ok (.ret (.str (binT 18) t'))) { s with toks := k })
  kxf_run_i
theorem fb19 : FbP 19 := by
  intro t
  show ∀ u : Tok, Meets («int.__format__» ⟨[.int 19 t, .str "b" u], []⟩) (fun _ R s => ∀ t' k, R (.ok (.ret (.str (binT 19) t'))) { s with toks := k })
  kxf_run_i
theorem fb20 : FbP 20 := by
  intro t
  show ∀ u : Tok, Meets («int.__format__» ⟨[.int 20 t, .str "b" u], []⟩) (fun _ R s => ∀ t' k, R (.ok (.ret (.str (binT 20) t'))) { s with toks := k })
  kxf_run_i
theorem fb21 : FbP 21 := by
  intro t
  show ∀ u : Tok, Meets («int.__format__» ⟨[.int 21 t, .str "b" u], []⟩) (fun _ R s => ∀ t' k, R (.ok (.ret (.str (binT 21) t'))) { s with toks := k })
  kxf_run_i
theorem fb22 : FbP 22 := by
  intro t
  show ∀ u : Tok, Meets («int.__format__» ⟨[.int 22 t, .str "b" u], []⟩) (fun _ R s => ∀ t' k, R (.ok (.ret (.str (binT 22) t'))) { s with toks := k })
  kxf_run_i
theorem fb23 : FbP 23 := by
  intro t
  show ∀ u : Tok, Meets («int.__format__» ⟨[.int 23 t, .str "b" u], []⟩) (fun _ R s => ∀ t' k, R (.ok (.ret (.str (binT 23) t'))) { s with toks := k })
  kxf_run_i
theorem fb24 : FbP 24 := by
  intro t
  show ∀ u : Tok, Meets («int.__format__» ⟨[.int 24 t, .str "b" u], []⟩) (fun _ R s => ∀ t' k, R (.ok (.ret (.str (binT 24) t'))) { s with toks := k })
  kxf_run_i
theorem fb25 : FbP 25 := by
  intro t
  show ∀ u : Tok, Meets («int.__format__» ⟨[.int 25 t, .str "b" u], []⟩) (fun _ R s => ∀ t' k, R (.ok (.ret (.str (binT 25) t'))) { s with toks := k })
  kxf_run_i
theorem fb26 : FbP 26 := by
  intro t
  show ∀ u : Tok, Meets («int.__format__» ⟨[.int 26 t, .str "b" u], []⟩) (fun _ R s => ∀ t' k, R (.ok (.ret (.str (binT 26) t'))) { s with toks := k })
  kxf_run_i
theorem fb27 : FbP 27 := by
  intro t
  show ∀ u : Tok, Meets («int.__format__» ⟨[.int 27 t, .str "b" u], []⟩) (fun _ R s => ∀ t' k, R (.ok (.ret (.str (binT 27) t'))) { s with toks := k })
  kxf_run_i
theorem fb28 : FbP 28 := by
  intro t
  show ∀ u : Tok, Meets («int.__format__» ⟨[.int 28 t, .str "b" u], []⟩) (fun _ R s => ∀ t' k, R (.ok (.ret (.str (binT 28) t'))) { s with toks := k })
  kxf_run_i
theorem fb29 : FbP 29 := by
  intro t
  show ∀ u : Tok, Meets («int.__format__» ⟨[.int 29 t, .str "b" u], []⟩) (fun _ R s => ∀ t' k, R (.ok (.ret (.str (binT 29) t'))) { s with toks := k })
  kxf_run_i
theorem fb30 : FbP 30 := by
  intro t
  show ∀ u : Tok, Meets («int.__format__» ⟨[.int 30 t, .str "b" u], []⟩) (fun _ R s => ∀ t' k, R (.ok (.ret (.str (binT 30) t'))) { s with toks := k })
  kxf_run_i
theorem fb31 : FbP 31 := by
  intro t
  show ∀ u : Tok, Meets («int.__format__» ⟨[.int 31 t, .str "b" u], []⟩) (fun _ R s => ∀ t' k, R (.ok (.ret (.str (binT 31) t'))) { s with toks := k })
  kxf_run_i
theorem fb32 : FbP 32 := by
  intro t
  show ∀ u : Tok, Meets («int.__format__» ⟨[.int 32 t, .str "b" u], []⟩) (fun _ R s => ∀ t' k, R (.ok (.ret (.str (binT 32) t'))) { s with toks := k })
  kxf_run_i
theorem fb33 : FbP 33 := by
  intro t
  show ∀ u : Tok, Meets («int.__format__» ⟨[.int 33 t, .str "b" u], []⟩) (fun _ R s => ∀ t' k, R (.ok (.ret (.str (binT 33) t'))) { s with toks := k })
  kxf_run_i
theorem fb34 : FbP 34 := by
  intro t
  show ∀ u : Tok, Meets («int.__format__» ⟨[.int 34 t, .str "b" u], []⟩) (fun _ R s => ∀ t' k, R (.ok (.ret (.str (binT 34) t'))) { s with toks := k })
  kxf_run_i
theorem fb35 : FbP 35 := by
  intro t
  show ∀ u : Tok, Meets («int.__format__» ⟨[.int 35 t, .str "b" u], []⟩) (fun _ R s => ∀ t' k, R (.ok (.ret (.str (binT 35) t'))) { s with toks := k })
  kxf_run_i
theorem fb36 : FbP 36 := by
  intro t
  show ∀ u : Tok, Meets («int.__format__» ⟨[.int 36 t, .str "b" u], []⟩) (fun _ R s => ∀ t' k, R (.ok (.ret (.str (binT 36) t'))) { s with toks := k })
  kxf_run_i
theorem fb37 : FbP 37 := by
  intro t
  show ∀ u : Tok, Meets («int.__format__» ⟨[.int 37 t, .str "b" u], []⟩) (fun _ R s => ∀ t' k, R (.ok (.ret (.str (binT 37) t'))) { s with toks := k })
  kxf_run_i
theorem fb38 : FbP 38 := by
  intro t
  show ∀ u : Tok, Meets («int.__format__» ⟨[.int 38 t, .str "b" u], []⟩) (fun _ R s => ∀ t' k, R (.ok (.ret (.str (binT 38) t'))) { s with toks := k })
  kxf_run_i
theorem fb39 : FbP 39 := by
  intro t
  show ∀ u : Tok, Meets («int.__format__» ⟨[.int 39 t, .str "b" u], []⟩) (fun _ R s => ∀ t' k, R (.ok (.ret (.str (binT 39) t'))) { s with toks := k })
  kxf_run_i
theorem fb40 : FbP 40 := by
  intro t
  show ∀ u : Tok, Meets («int.__format__» ⟨[.int 40 t, .str "b" u], []⟩) (fun _ R s => ∀ t' k, R (.ok (.ret (.str (binT 40) t'))) { s with toks := k })
  kxf_run_i
theorem fb41 : FbP 41 := by
  intro t
  show ∀ u : Tok, Meets («int.__format__» ⟨[.int 41 t, .str "b" u], []⟩) (fun _ R s => ∀ t' k, R (.ok (.ret (.str (binT 41) t'))) { s with toks := k })
  kxf_run_i
theorem fb42 : FbP 42 := by
  intro t
  show ∀ u : Tok, Meets («int.__format__» ⟨[.int 42 t, .str "b" u], []⟩) (fun _ R s => ∀ t' k, R (.ok (.ret (.str (binT 42) t'))) { s with toks := k })
  kxf_run_i
theorem fb43 : FbP 43 := by
  intro t
  show ∀ u : Tok, Meets («int.__format__» ⟨[.int 43 t, .str "b" u], []⟩) (fun _ R s => ∀ t' k, R (.ok (.ret (.str (binT 43) t'))) { s with toks := k })
  kxf_run_i
theorem fb44 : FbP 44 := by
  intro t
  show ∀ u : Tok, Meets («int.__format__» ⟨[.int 44 t, .str "b" u], []⟩) (fun _ R s => ∀ t' k, R (.ok (.ret (.str (binT 44) t'))) { s with toks := k })
  kxf_run_i
theorem fb45 : FbP 45 := by
  intro t
  show ∀ u : Tok, Meets («int.__format__» ⟨[.int 45 t, .str "b" u], []⟩) (fun _ R s => ∀ t' k, R (.ok (.ret (.str (binT 45) t'))) { s with toks := k })
  kxf_run_i
theorem fb46 : FbP 46 := by
  intro t
  show ∀ u : Tok, Meets («int.__format__» ⟨[.int 46 t, .str "b" u], []⟩) (fun _ R s => ∀ t' k, R (.ok (.ret (.str (binT 46) t'))) { s with toks := k })
  kxf_run_i
theorem fb47 : FbP 47 := by
  intro t
  show ∀ u : Tok, Meets («int.__format__» ⟨[.int 47 t, .str "b" u], []⟩) (fun _ R s => ∀ t' k, R (.ok (.ret (.str (binT 47) t'))) { s with toks := k })
  kxf_run_i
theorem fb48 : FbP 48 := by
  intro t
  show ∀ u : Tok, Meets («int.__format__» ⟨[.int 48 t, .str "b" u], []⟩) (fun _ R s => ∀ t' k, R (.ok (.ret (.str (binT 48) t'))) { s with toks := k })
  kxf_run_i
theorem fb49 : FbP 49 := by
  intro t
  show ∀ u : Tok, Meets («int.__format__» ⟨[.int 49 t, .str "b" u], []⟩) (fun _ R s => ∀ t' k, R (.ok (.ret (.str (binT 49) t'))) { s with toks := k })
  kxf_run_i
theorem fb50 : FbP 50 := by
  intro t
  show ∀ u : Tok, Meets («int.__format__» ⟨[.int 50 t, .str "b" u], []⟩) (fun _ R s => ∀ t' k, R (.ok (.ret (.str (binT 50) t'))) { s with toks := k })
  kxf_run_i
theorem fb51 : FbP 51 := by
  intro t
  show ∀ u : Tok, Meets («int.__format__» ⟨[.int 51 t, .str "b" u], []⟩) (fun _ R s => ∀ t' k, R (.ok (.ret (.str (binT 51) t'))) { s with toks := k })
  kxf_run_i
theorem fb52 : FbP 52 := by
  intro t
  show ∀ u : Tok, Meets («int.__format__» ⟨[.int 52 t, .str "b" u], []⟩) (fun _ R s => ∀ t' k, R (.ok (.ret (.str (binT 52) t'))) { s with toks := k })
  kxf_run_i
theorem fb53 : FbP 53 := by
  intro t
  show ∀ u : Tok, Meets («int.__format__» ⟨[.int 53 t, .str "b" u], []⟩) (fun _ R s => ∀ t' k, R (.ok (.ret (.str (binT 53) t'))) { s with toks := k })
  kxf_run_i
theorem fb54 : FbP 54 := by
  intro t
  show ∀ u : Tok, Meets («int.__format__» ⟨[.int 54 t, .str "b" u], []⟩) (fun _ R s => ∀ t' k, R (.ok (.ret (.str (binT 54) t'))) { s with toks := k })
  kxf_run_i
theorem fb55 : FbP 55 := by
  intro t
  show ∀ u : Tok, Meets («int.__format__» ⟨[.int 55 t, .str "b" u], []⟩) (fun _ R s => ∀ t' k, R (.ok (.ret (.str (binT 55) t'))) { s with toks := k })
  kxf_run_i
theorem fb56 : FbP 56 := by
  intro t
  show ∀ u : Tok, Meets («int.__format__» ⟨[.int 56 t, .str "b" u], []⟩) (fun _ R s => ∀ t' k, R (.ok (.ret (.str (binT 56) t'))) { s with toks := k })
  kxf_run_i
theorem fb57 : FbP 57 := by
  intro t
  show ∀ u : Tok, Meets («int.__format__» ⟨[.int 57 t, .str "b" u], []⟩) (fun _ R s => ∀ t' k, R (.ok (.ret (.str (binT 57) t'))) { s with toks := k })
  kxf_run_i
theorem fb58 : FbP 58 := by
  intro t
  show ∀ u : Tok, Meets («int.__format__» ⟨[.int 58 t, .str "b" u], []⟩) (fun _ R s => ∀ t' k, R (.ok (.ret (.str (binT 58) t'))) { s with toks := k })
  kxf_run_i
theorem fb59 : FbP 59 := by
  intro t
  show ∀ u : Tok, Meets («int.__format__» ⟨[.int 59 t, .str "b" u], []⟩) (fun _ R s => ∀ t' k, R (.ok (.ret (.str (binT 59) t'))) { s with toks := k })
  kxf_run_i
theorem fb60 : FbP 60 := by
  intro t
  show ∀ u : Tok, Meets («int.__format__» ⟨[.int 60 t, .str "b" u], []⟩) (fun _ R s => ∀ t' k, R (.ok (.ret (.str (binT 60) t'))) { s with toks := k })
  kxf_run_i
theorem fb61 : FbP 61 := by
  intro t
  show ∀ u : Tok, Meets («int.__format__» ⟨[.int 61 t, .str "b" u], []⟩) (fun _ R s => ∀ t' k, R (.ok (.ret (.str (binT 61) t'))) { s with toks := k })
  kxf_run_i
theorem fb62 : FbP 62 := by
  intro t
  show ∀ u : Tok, Meets («int.__format__» ⟨[.int 62 t, .str "b" u], []⟩) (fun _ R s => ∀ t' k, R (.ok (.ret (.str (binT 62) t'))) { s with toks := k })
  kxf_run_i
theorem fb63 : FbP 63 := by
  intro t
  show ∀ u : Tok, Meets («int.__format__» ⟨[.int 63 t, .str "b" u], []⟩) (fun _ R s => ∀ t' k, R (.ok (.ret (.str (binT 63) t'))) { s with toks := k })
  kxf_run_i
theorem fb_all : ∀ n : Nat, n < 64 → FbP n
  | 0, _ => fb0
  | 1, _ => fb1
  | 2, _ => fb2
  | 3, _ => fb3
  | 4, _ => fb4
  | 5, _ => fb5
  | 6, _ => fb6
  | 7, _ => fb7
  | 8, _ => fb8
  | 9, _ => fb9
  | 10, _ => fb10
  | 11, _ => fb11
  | 12, _ => fb12
  | 13, _ => fb13
  | 14, _ => fb14
  | 15, _ => fb15
  | 16, _ => fb16
  | 17, _ => fb17
  | 18, _ => fb18
  | 19, _ => fb19
  | 20, _ => fb20
  | 21, _ => fb21
  | 22, _ => fb22
  | 23, _ => fb23
  | 24, _ => fb24
  | 25, _ => fb25
  | 26, _ => fb26
  | 27, _ => fb27
  | 28, _ => fb28
  | 29, _ => fb29
  | 30, _ => fb30
  | 31, _ => fb31
  | 32, _ => fb32
  | 33, _ => fb33
  | 34, _ => fb34
  | 35, _ => fb35
  | 36, _ => fb36
  | 37, _ => fb37
  | 38, _ => fb38
  | 39, _ => fb39
  | 40, _ => fb40
  | 41, _ => fb41
  | 42, _ => fb42
  | 43, _ => fb43
  | 44, _ => fb44
  | 45, _ => fb45
  | 46, _ => fb46
  | 47, _ => fb47
  | 48, _ => fb48
  | 49, _ => fb49
  | 50, _ => fb50
  | 51, _ => fb51
  | 52, _ => fb52
  | 53, _ => fb53
  | 54, _ => fb54
  | 55, _ => fb55
  | 56, _ => fb56
  | 57, _ => fb57
  | 58, _ => fb58
  | 59, _ => fb59
  | 60, _ => fb60
  | 61, _ => fb61
  | 62, _ => fb62
  | 63, _ => fb63
  | n + 64, h => absurd h (by omega)
end Fb
namespace Fb
open PySem PySem.Spec PyProof.Rows L2
section
variable {X : Cx}
/-- {x:b}, x below 64 -/
def tFmtB (te : TE) : TE := fun σ H Q => te σ H fun x H1 => ∃ n : Nat, x = .int (n : Int) ∧ n < 64 ∧ Q (.str (binT n)) H1
theorem pe_fmtB {e : Expr} {te : TE} {j : Nat} {p1 p2 pos : Pos} (he : PE X e te) : PE X (.FormattedValue e (-1) (some (.JoinedStr [.Constant (.str "b") j p1] p2)) pos) (tFmtB te) := by
  refine ⟨fun pins s σ H Q I h => ?_⟩
  refine wpAny_FormattedValue_spec (thn (he.run pins s σ H _ I h) fun v s1 hv => ?_)
  obtain ⟨x, H1, I1, r1, n, rfl, hn, q⟩ := hv
  obtain ⟨t, rfl⟩ := r1
  refine wpAny_JoinedStr_one (wpAny_Constant_str ⟨"b", _, rfl, ?_⟩)
  refine PySem.W.KXf.field_int (spec' := "b") rfl (by decide +kernel) (by rw [sizeLine_eq]; decide +kernel) (fun u => fb_all n hn t u) fun t' k => ?_
  exact ⟨.str (binT n), H1, I1.tok _, ⟨_, rfl⟩, q⟩
end
end Fb

set_option maxHeartbeats 4000000
namespace Lk03
open PySem PySem.Spec PyProof.Rows L2 He HkS Bs
abbrev PG : Program := PySem.Challenge.pw_latticewish_k03_chains_and_sets
def top (i : Nat) : Stmt := PySem.Challenge.pw_latticewish_k03_chains_and_sets.main.body.getD i (.Pass ⟨0, 0, 0, 0⟩)
abbrev s_BadLattice___init__ : Stmt := inClass (top 2) 0
abbrev s_UnknownValue___init__ : Stmt := inClass (top 4) 0
abbrev s_place_of : Stmt := top 6
abbrev s_Lattice___init__ : Stmt := inClass (top 8) 0
abbrev s_Lattice_within_at : Stmt := inClass (top 8) 1
abbrev s_Lattice_join_at : Stmt := inClass (top 8) 2
abbrev s_Lattice_meet_at : Stmt := inClass (top 8) 3
abbrev s_Lattice_name_at : Stmt := inClass (top 8) 4
abbrev s_Lattice_at_name : Stmt := inClass (top 8) 5
abbrev s_Lattice_irreducibles : Stmt := inClass (top 8) 6
abbrev s_ChainLattice___init__ : Stmt := inClass (top 12) 0
abbrev s_ChainLattice_within_at : Stmt := inClass (top 12) 1
abbrev s_ChainLattice_join_at : Stmt := inClass (top 12) 2
abbrev s_ChainLattice_meet_at : Stmt := inClass (top 12) 3
abbrev s_ChainLattice_name_at : Stmt := inClass (top 12) 4
abbrev s_ChainLattice_at_name : Stmt := inClass (top 12) 5
abbrev s_ChainLattice_irreducibles : Stmt := inClass (top 12) 6
abbrev s_SetLattice___init__ : Stmt := inClass (top 13) 0
abbrev s_SetLattice_within_at : Stmt := inClass (top 13) 1
abbrev s_SetLattice_join_at : Stmt := inClass (top 13) 2
abbrev s_SetLattice_meet_at : Stmt := inClass (top 13) 3
abbrev s_SetLattice_name_at : Stmt := inClass (top 13) 4
abbrev s_SetLattice_at_name : Stmt := inClass (top 13) 5
abbrev s_SetLattice_irreducibles : Stmt := inClass (top 13) 6
abbrev s__check_count : Stmt := top 14
abbrev s__law_cells : Stmt := top 16
abbrev s__law_pick : Stmt := top 17
abbrev s__law_like : Stmt := top 18
abbrev s__law_due : Stmt := top 19
abbrev s__law_unknown : Stmt := top 20
abbrev s_law : Stmt := top 21
def d_place_of : DefD := ⟨("place_of", none), "place_of", "place_of", defArgs s_place_of, defBody s_place_of, defScope s_place_of, [], []⟩
def d_Lattice___init__ : DefD := ⟨("Lattice", some "__init__"), "__init__", "Lattice.__init__", defArgs s_Lattice___init__, defBody s_Lattice___init__, defScope s_Lattice___init__, [], []⟩
def d_Lattice_within_at : DefD := ⟨("Lattice", some "within_at"), "within_at", "Lattice.within_at", defArgs s_Lattice_within_at, defBody s_Lattice_within_at, defScope s_Lattice_within_at, [], []⟩
def d_Lattice_join_at : DefD := ⟨("Lattice", some "join_at"), "join_at", "Lattice.join_at", defArgs s_Lattice_join_at, defBody s_Lattice_join_at, defScope s_Lattice_join_at, [], []⟩
def d_Lattice_meet_at : DefD := ⟨("Lattice", some "meet_at"), "meet_at", "Lattice.meet_at", defArgs s_Lattice_meet_at, defBody s_Lattice_meet_at, defScope s_Lattice_meet_at, [], []⟩
def d_Lattice_name_at : DefD := ⟨("Lattice", some "name_at"), "name_at", "Lattice.name_at", defArgs s_Lattice_name_at, defBody s_Lattice_name_at, defScope s_Lattice_name_at, [], []⟩
def d_Lattice_at_name : DefD := ⟨("Lattice", some "at_name"), "at_name", "Lattice.at_name", defArgs s_Lattice_at_name, defBody s_Lattice_at_name, defScope s_Lattice_at_name, [], []⟩
def d_Lattice_irreducibles : DefD := ⟨("Lattice", some "irreducibles"), "irreducibles", "Lattice.irreducibles", defArgs s_Lattice_irreducibles, defBody s_Lattice_irreducibles, defScope s_Lattice_irreducibles, [], []⟩
def d_ChainLattice___init__ : DefD := ⟨("ChainLattice", some "__init__"), "__init__", "ChainLattice.__init__", defArgs s_ChainLattice___init__, defBody s_ChainLattice___init__, defScope s_ChainLattice___init__, [], []⟩
def d_ChainLattice_within_at : DefD := ⟨("ChainLattice", some "within_at"), "within_at", "ChainLattice.within_at", defArgs s_ChainLattice_within_at, defBody s_ChainLattice_within_at, defScope s_ChainLattice_within_at, [], []⟩
def d_ChainLattice_join_at : DefD := ⟨("ChainLattice", some "join_at"), "join_at", "ChainLattice.join_at", defArgs s_ChainLattice_join_at, defBody s_ChainLattice_join_at, defScope s_ChainLattice_join_at, [], []⟩
def d_ChainLattice_meet_at : DefD := ⟨("ChainLattice", some "meet_at"), "meet_at", "ChainLattice.meet_at", defArgs s_ChainLattice_meet_at, defBody s_ChainLattice_meet_at, defScope s_ChainLattice_meet_at, [], []⟩
def d_ChainLattice_name_at : DefD := ⟨("ChainLattice", some "name_at"), "name_at", "ChainLattice.name_at", defArgs s_ChainLattice_name_at, defBody s_ChainLattice_name_at, defScope s_ChainLattice_name_at, [], []⟩
def d_ChainLattice_at_name : DefD := ⟨("ChainLattice", some "at_name"), "at_name", "ChainLattice.at_name", defArgs s_ChainLattice_at_name, defBody s_ChainLattice_at_name, defScope s_ChainLattice_at_name, [], []⟩
def d_ChainLattice_irreducibles : DefD := ⟨("ChainLattice", some "irreducibles"), "irreducibles", "ChainLattice.irreducibles", defArgs s_ChainLattice_irreducibles, defBody s_ChainLattice_irreducibles, defScope s_ChainLattice_irreducibles, [], []⟩
def d_SetLattice___init__ : DefD := ⟨("SetLattice", some "__init__"), "__init__", "SetLattice.__init__", defArgs s_SetLattice___init__, defBody s_SetLattice___init__, defScope s_SetLattice___init__, [], []⟩
def d_SetLattice_within_at : DefD := ⟨("SetLattice", some "within_at"), "within_at", "SetLattice.within_at", defArgs s_SetLattice_within_at, defBody s_SetLattice_within_at, defScope s_SetLattice_within_at, [], []⟩
def d_SetLattice_join_at : DefD := ⟨("SetLattice", some "join_at"), "join_at", "SetLattice.join_at", defArgs s_SetLattice_join_at, defBody s_SetLattice_join_at, defScope s_SetLattice_join_at, [], []⟩
def d_SetLattice_meet_at : DefD := ⟨("SetLattice", some "meet_at"), "meet_at", "SetLattice.meet_at", defArgs s_SetLattice_meet_at, defBody s_SetLattice_meet_at, defScope s_SetLattice_meet_at, [], []⟩
def d_SetLattice_name_at : DefD := ⟨("SetLattice", some "name_at"), "name_at", "SetLattice.name_at", defArgs s_SetLattice_name_at, defBody s_SetLattice_name_at, defScope s_SetLattice_name_at, [], []⟩
def d_SetLattice_at_name : DefD := ⟨("SetLattice", some "at_name"), "at_name", "SetLattice.at_name", defArgs s_SetLattice_at_name, defBody s_SetLattice_at_name, defScope s_SetLattice_at_name, [], []⟩
def d_SetLattice_irreducibles : DefD := ⟨("SetLattice", some "irreducibles"), "irreducibles", "SetLattice.irreducibles", defArgs s_SetLattice_irreducibles, defBody s_SetLattice_irreducibles, defScope s_SetLattice_irreducibles, [], []⟩
def d__check_count : DefD := ⟨("_check_count", none), "_check_count", "_check_count", defArgs s__check_count, defBody s__check_count, defScope s__check_count, [], []⟩
def d__law_cells : DefD := ⟨("_law_cells", none), "_law_cells", "_law_cells", defArgs s__law_cells, defBody s__law_cells, defScope s__law_cells, [], []⟩
def d__law_pick : DefD := ⟨("_law_pick", none), "_law_pick", "_law_pick", defArgs s__law_pick, defBody s__law_pick, defScope s__law_pick, [], []⟩
def d__law_like : DefD := ⟨("_law_like", none), "_law_like", "_law_like", defArgs s__law_like, defBody s__law_like, defScope s__law_like, [], []⟩
def d__law_due : DefD := ⟨("_law_due", none), "_law_due", "_law_due", defArgs s__law_due, defBody s__law_due, defScope s__law_due, [], []⟩
def d__law_unknown : DefD := ⟨("_law_unknown", none), "_law_unknown", "_law_unknown", defArgs s__law_unknown, defBody s__law_unknown, defScope s__law_unknown, [], []⟩
def d_law : DefD := ⟨("law", none), "law", "law", defArgs s_law, defBody s_law, defScope s_law, [], []⟩
def fnl : List DefD := [d_place_of, d_Lattice___init__, d_Lattice_within_at, d_Lattice_join_at, d_Lattice_meet_at, d_Lattice_name_at, d_Lattice_at_name, d_Lattice_irreducibles, d_ChainLattice___init__, d_ChainLattice_within_at, d_ChainLattice_join_at, d_ChainLattice_meet_at, d_ChainLattice_name_at, d_ChainLattice_at_name, d_ChainLattice_irreducibles, d_SetLattice___init__, d_SetLattice_within_at, d_SetLattice_join_at, d_SetLattice_meet_at, d_SetLattice_name_at, d_SetLattice_at_name, d_SetLattice_irreducibles, d__check_count, d__law_cells, d__law_pick, d__law_like, d__law_due, d__law_unknown, d_law]
def x_BadLattice : ExD := ⟨"BadLattice", "ValueError", [.type "ValueError", .type "Exception", .type "BaseException", .type "object"], s_BadLattice___init__, "BadLattice.__init__"⟩
def x_UnknownValue : ExD := ⟨"UnknownValue", "LookupError", [.type "LookupError", .type "Exception", .type "BaseException", .type "object"], s_UnknownValue___init__, "UnknownValue.__init__"⟩
def exl : List ExD := [x_BadLattice, x_UnknownValue]
def fal : List Fa := [.glo "place_of",
  .glo "_check_count",
  .glo "_law_cells",
  .glo "_law_pick",
  .glo "_law_like",
  .glo "_law_due",
  .glo "_law_unknown",
  .glo "law",
  .glo "LatticeError",
  .glo "BadLattice",
  .glo "NameMissing",
  .glo "UnknownValue",
  .glo "Lattice",
  .glo "ChainLattice",
  .glo "SetLattice",
  .free "LookupError",
  .free "NotImplementedError",
  .free "ValueError",
  .free "abs",
  .free "bool",
  .free "dict",
  .free "int",
  .free "isinstance",
  .free "len",
  .free "list",
  .free "max",
  .free "min",
  .free "range",
  .free "str",
  .free "super",
  .free "tuple",
  .int "_MOST_VALUES" 64,
  .int "_MOST_MARKS" 6,
  .noat "UnknownValue" "name",
  .cls "Lattice",
  .mkr "Lattice",
  .noat "Lattice" "label",
  .noat "Lattice" "size",
  .noat "Lattice" "bottom_at",
  .noat "Lattice" "top_at",
  .meth "Lattice" "within_at",
  .meth "Lattice" "join_at",
  .meth "Lattice" "meet_at",
  .meth "Lattice" "name_at",
  .meth "Lattice" "at_name",
  .meth "Lattice" "irreducibles",
  .cls "ChainLattice",
  .mkr "ChainLattice",
  .noat "ChainLattice" "_names",
  .noat "ChainLattice" "label",
  .noat "ChainLattice" "size",
  .noat "ChainLattice" "bottom_at",
  .noat "ChainLattice" "top_at",
  .meth "ChainLattice" "within_at",
  .meth "ChainLattice" "join_at",
  .meth "ChainLattice" "meet_at",
  .meth "ChainLattice" "name_at",
  .meth "ChainLattice" "at_name",
  .meth "ChainLattice" "irreducibles",
  .cls "SetLattice",
  .mkr "SetLattice",
  .noat "SetLattice" "_names",
  .noat "SetLattice" "label",
  .noat "SetLattice" "size",
  .noat "SetLattice" "bottom_at",
  .noat "SetLattice" "top_at",
  .meth "SetLattice" "within_at",
  .meth "SetLattice" "join_at",
  .meth "SetLattice" "meet_at",
  .meth "SetLattice" "name_at",
  .meth "SetLattice" "at_name",
  .meth "SetLattice" "irreducibles",
  .exm "BadLattice" "UnknownValue" false,
  .exm "UnknownValue" "UnknownValue" true]
def more (K : PySem.W.Frag) : Bool := true && xfB K (ga K "UnknownValue") && clsB K (ga K "Lattice") "__init__"
theorem top_super : (PG.main.scope.names.lookup ("super" : Str)).isSome = false := by decide +kernel
structure Ctx (K : PySem.W.Frag) (mg : Str → Option Value) : Prop where
  s : SaysM PG fal fnl exl more K
  g : ∀ x, (Fa.glo x).ok K = true → mg x = some (.ref (ga K x))
  f : ∀ x, (Fa.free x).ok K = true → mg x = none
  i : ∀ x j, (Fa.int x j).ok K = true → ∃ t, mg x = some (.int j t)
  t : ∀ x j, (Fa.str x j).ok K = true → ∃ t, mg x = some (.str j t)
theorem ctx_of {K : PySem.W.Frag} {h : Heap} {mg : Str → Option Value} (X : K.In h) (G : h.Ns mainGlobals mg) (c : SaysM PG fal fnl exl more K) : Ctx K mg :=
  ⟨c, fun _ q => glo_ok X G q, fun _ q => free_ok X G q, fun _ _ q => int_ok X G q, fun _ _ q => str_ok X G q⟩
section
variable {K : PySem.W.Frag} {mg : Str → Option Value}
theorem g_place_of (Z : Ctx K mg) : mg "place_of" = some (.ref (ga K "place_of")) := Z.g _ (Z.s.fact 0)
theorem g__check_count (Z : Ctx K mg) : mg "_check_count" = some (.ref (ga K "_check_count")) := Z.g _ (Z.s.fact 1)
theorem g__law_cells (Z : Ctx K mg) : mg "_law_cells" = some (.ref (ga K "_law_cells")) := Z.g _ (Z.s.fact 2)
theorem g__law_pick (Z : Ctx K mg) : mg "_law_pick" = some (.ref (ga K "_law_pick")) := Z.g _ (Z.s.fact 3)
theorem g__law_like (Z : Ctx K mg) : mg "_law_like" = some (.ref (ga K "_law_like")) := Z.g _ (Z.s.fact 4)
theorem g__law_due (Z : Ctx K mg) : mg "_law_due" = some (.ref (ga K "_law_due")) := Z.g _ (Z.s.fact 5)
theorem g__law_unknown (Z : Ctx K mg) : mg "_law_unknown" = some (.ref (ga K "_law_unknown")) := Z.g _ (Z.s.fact 6)
theorem g_law (Z : Ctx K mg) : mg "law" = some (.ref (ga K "law")) := Z.g _ (Z.s.fact 7)
theorem g_LatticeError (Z : Ctx K mg) : mg "LatticeError" = some (.ref (ga K "LatticeError")) := Z.g _ (Z.s.fact 8)
theorem g_BadLattice (Z : Ctx K mg) : mg "BadLattice" = some (.ref (ga K "BadLattice")) := Z.g _ (Z.s.fact 9)
theorem g_NameMissing (Z : Ctx K mg) : mg "NameMissing" = some (.ref (ga K "NameMissing")) := Z.g _ (Z.s.fact 10)
theorem g_UnknownValue (Z : Ctx K mg) : mg "UnknownValue" = some (.ref (ga K "UnknownValue")) := Z.g _ (Z.s.fact 11)
theorem g_Lattice (Z : Ctx K mg) : mg "Lattice" = some (.ref (ga K "Lattice")) := Z.g _ (Z.s.fact 12)
theorem g_ChainLattice (Z : Ctx K mg) : mg "ChainLattice" = some (.ref (ga K "ChainLattice")) := Z.g _ (Z.s.fact 13)
theorem g_SetLattice (Z : Ctx K mg) : mg "SetLattice" = some (.ref (ga K "SetLattice")) := Z.g _ (Z.s.fact 14)
theorem f_LookupError (Z : Ctx K mg) : mg "LookupError" = none := Z.f _ (Z.s.fact 15)
theorem f_NotImplementedError (Z : Ctx K mg) : mg "NotImplementedError" = none := Z.f _ (Z.s.fact 16)
theorem f_ValueError (Z : Ctx K mg) : mg "ValueError" = none := Z.f _ (Z.s.fact 17)
theorem f_abs (Z : Ctx K mg) : mg "abs" = none := Z.f _ (Z.s.fact 18)
theorem f_bool (Z : Ctx K mg) : mg "bool" = none := Z.f _ (Z.s.fact 19)
theorem f_dict (Z : Ctx K mg) : mg "dict" = none := Z.f _ (Z.s.fact 20)
theorem f_int (Z : Ctx K mg) : mg "int" = none := Z.f _ (Z.s.fact 21)
theorem f_isinstance (Z : Ctx K mg) : mg "isinstance" = none := Z.f _ (Z.s.fact 22)
theorem f_len (Z : Ctx K mg) : mg "len" = none := Z.f _ (Z.s.fact 23)
theorem f_list (Z : Ctx K mg) : mg "list" = none := Z.f _ (Z.s.fact 24)
theorem f_max (Z : Ctx K mg) : mg "max" = none := Z.f _ (Z.s.fact 25)
theorem f_min (Z : Ctx K mg) : mg "min" = none := Z.f _ (Z.s.fact 26)
theorem f_range (Z : Ctx K mg) : mg "range" = none := Z.f _ (Z.s.fact 27)
theorem f_str (Z : Ctx K mg) : mg "str" = none := Z.f _ (Z.s.fact 28)
theorem f_super (Z : Ctx K mg) : mg "super" = none := Z.f _ (Z.s.fact 29)
theorem f_tuple (Z : Ctx K mg) : mg "tuple" = none := Z.f _ (Z.s.fact 30)
theorem i__MOST_VALUES (Z : Ctx K mg) : ∃ t, mg "_MOST_VALUES" = some (.int 64 t) := Z.i _ _ (Z.s.fact 31)
theorem i__MOST_MARKS (Z : Ctx K mg) : ∃ t, mg "_MOST_MARKS" = some (.int 6 t) := Z.i _ _ (Z.s.fact 32)
theorem n_UnknownValue_name (Z : Ctx K mg) : NoAttr K (ga K "UnknownValue") "name" := noat_ok (Z.s.fact 33)
theorem c_Lattice (Z : Ctx K mg) : Cls K (ga K "Lattice") := cls_ok (Z.s.fact 34)
theorem k_Lattice (Z : Ctx K mg) : Mk K (ga K "Lattice") (ma K (ga K "Lattice") "__init__") := mkr_ok (Z.s.fact 35)
theorem n_Lattice_label (Z : Ctx K mg) : NoAttr K (ga K "Lattice") "label" := noat_ok (Z.s.fact 36)
theorem n_Lattice_size (Z : Ctx K mg) : NoAttr K (ga K "Lattice") "size" := noat_ok (Z.s.fact 37)
theorem n_Lattice_bottom_at (Z : Ctx K mg) : NoAttr K (ga K "Lattice") "bottom_at" := noat_ok (Z.s.fact 38)
theorem n_Lattice_top_at (Z : Ctx K mg) : NoAttr K (ga K "Lattice") "top_at" := noat_ok (Z.s.fact 39)
theorem m_Lattice_within_at (Z : Ctx K mg) : Meth K (ga K "Lattice") "within_at" (ma K (ga K "Lattice") "within_at") := meth_ok (Z.s.fact 40)
theorem m_Lattice_join_at (Z : Ctx K mg) : Meth K (ga K "Lattice") "join_at" (ma K (ga K "Lattice") "join_at") := meth_ok (Z.s.fact 41)
theorem m_Lattice_meet_at (Z : Ctx K mg) : Meth K (ga K "Lattice") "meet_at" (ma K (ga K "Lattice") "meet_at") := meth_ok (Z.s.fact 42)
theorem m_Lattice_name_at (Z : Ctx K mg) : Meth K (ga K "Lattice") "name_at" (ma K (ga K "Lattice") "name_at") := meth_ok (Z.s.fact 43)
theorem m_Lattice_at_name (Z : Ctx K mg) : Meth K (ga K "Lattice") "at_name" (ma K (ga K "Lattice") "at_name") := meth_ok (Z.s.fact 44)
theorem m_Lattice_irreducibles (Z : Ctx K mg) : Meth K (ga K "Lattice") "irreducibles" (ma K (ga K "Lattice") "irreducibles") := meth_ok (Z.s.fact 45)
theorem c_ChainLattice (Z : Ctx K mg) : Cls K (ga K "ChainLattice") := cls_ok (Z.s.fact 46)
theorem k_ChainLattice (Z : Ctx K mg) : Mk K (ga K "ChainLattice") (ma K (ga K "ChainLattice") "__init__") := mkr_ok (Z.s.fact 47)
theorem n_ChainLattice__names (Z : Ctx K mg) : NoAttr K (ga K "ChainLattice") "_names" := noat_ok (Z.s.fact 48)
theorem n_ChainLattice_label (Z : Ctx K mg) : NoAttr K (ga K "ChainLattice") "label" := noat_ok (Z.s.fact 49)
theorem n_ChainLattice_size (Z : Ctx K mg) : NoAttr K (ga K "ChainLattice") "size" := noat_ok (Z.s.fact 50)
theorem n_ChainLattice_bottom_at (Z : Ctx K mg) : NoAttr K (ga K "ChainLattice") "bottom_at" := noat_ok (Z.s.fact 51)
theorem n_ChainLattice_top_at (Z : Ctx K mg) : NoAttr K (ga K "ChainLattice") "top_at" := noat_ok (Z.s.fact 52)
theorem m_ChainLattice_within_at (Z : Ctx K mg) : Meth K (ga K "ChainLattice") "within_at" (ma K (ga K "ChainLattice") "within_at") := meth_ok (Z.s.fact 53)
theorem m_ChainLattice_join_at (Z : Ctx K mg) : Meth K (ga K "ChainLattice") "join_at" (ma K (ga K "ChainLattice") "join_at") := meth_ok (Z.s.fact 54)
theorem m_ChainLattice_meet_at (Z : Ctx K mg) : Meth K (ga K "ChainLattice") "meet_at" (ma K (ga K "ChainLattice") "meet_at") := meth_ok (Z.s.fact 55)
theorem m_ChainLattice_name_at (Z : Ctx K mg) : Meth K (ga K "ChainLattice") "name_at" (ma K (ga K "ChainLattice") "name_at") := meth_ok (Z.s.fact 56)
theorem m_ChainLattice_at_name (Z : Ctx K mg) : Meth K (ga K "ChainLattice") "at_name" (ma K (ga K "ChainLattice") "at_name") := meth_ok (Z.s.fact 57)
theorem m_ChainLattice_irreducibles (Z : Ctx K mg) : Meth K (ga K "ChainLattice") "irreducibles" (ma K (ga K "ChainLattice") "irreducibles") := meth_ok (Z.s.fact 58)
theorem c_SetLattice (Z : Ctx K mg) : Cls K (ga K "SetLattice") := cls_ok (Z.s.fact 59)
theorem k_SetLattice (Z : Ctx K mg) : Mk K (ga K "SetLattice") (ma K (ga K "SetLattice") "__init__") := mkr_ok (Z.s.fact 60)
theorem n_SetLattice__names (Z : Ctx K mg) : NoAttr K (ga K "SetLattice") "_names" := noat_ok (Z.s.fact 61)
theorem n_SetLattice_label (Z : Ctx K mg) : NoAttr K (ga K "SetLattice") "label" := noat_ok (Z.s.fact 62)
theorem n_SetLattice_size (Z : Ctx K mg) : NoAttr K (ga K "SetLattice") "size" := noat_ok (Z.s.fact 63)
theorem n_SetLattice_bottom_at (Z : Ctx K mg) : NoAttr K (ga K "SetLattice") "bottom_at" := noat_ok (Z.s.fact 64)
theorem n_SetLattice_top_at (Z : Ctx K mg) : NoAttr K (ga K "SetLattice") "top_at" := noat_ok (Z.s.fact 65)
theorem m_SetLattice_within_at (Z : Ctx K mg) : Meth K (ga K "SetLattice") "within_at" (ma K (ga K "SetLattice") "within_at") := meth_ok (Z.s.fact 66)
theorem m_SetLattice_join_at (Z : Ctx K mg) : Meth K (ga K "SetLattice") "join_at" (ma K (ga K "SetLattice") "join_at") := meth_ok (Z.s.fact 67)
theorem m_SetLattice_meet_at (Z : Ctx K mg) : Meth K (ga K "SetLattice") "meet_at" (ma K (ga K "SetLattice") "meet_at") := meth_ok (Z.s.fact 68)
theorem m_SetLattice_name_at (Z : Ctx K mg) : Meth K (ga K "SetLattice") "name_at" (ma K (ga K "SetLattice") "name_at") := meth_ok (Z.s.fact 69)
theorem m_SetLattice_at_name (Z : Ctx K mg) : Meth K (ga K "SetLattice") "at_name" (ma K (ga K "SetLattice") "at_name") := meth_ok (Z.s.fact 70)
theorem m_SetLattice_irreducibles (Z : Ctx K mg) : Meth K (ga K "SetLattice") "irreducibles" (ma K (ga K "SetLattice") "irreducibles") := meth_ok (Z.s.fact 71)
theorem e_BadLattice_UnknownValue (Z : Ctx K mg) : PySem.W.exmOne K (.ref (ga K "BadLattice")) (.ref (ga K "UnknownValue")) = some false := exm_ok (Z.s.fact 72)
theorem e_UnknownValue_UnknownValue (Z : Ctx K mg) : PySem.W.exmOne K (.ref (ga K "UnknownValue")) (.ref (ga K "UnknownValue")) = some true := exm_ok (Z.s.fact 73)
theorem fd_place_of (Z : Ctx K mg) : ∃ fd, FunD K "place_of" "place_of" (defArgs s_place_of) (defBody s_place_of) (defScope s_place_of) [] [] (ga K "place_of") fd := Z.s.def_ 0 (d := d_place_of)
theorem fd_Lattice___init__ (Z : Ctx K mg) : ∃ fd, FunD K "__init__" "Lattice.__init__" (defArgs s_Lattice___init__) (defBody s_Lattice___init__) (defScope s_Lattice___init__) [] [] (ma K (ga K "Lattice") "__init__") fd := Z.s.def_ 1 (d := d_Lattice___init__)
theorem fd_Lattice_within_at (Z : Ctx K mg) : ∃ fd, FunD K "within_at" "Lattice.within_at" (defArgs s_Lattice_within_at) (defBody s_Lattice_within_at) (defScope s_Lattice_within_at) [] [] (ma K (ga K "Lattice") "within_at") fd := Z.s.def_ 2 (d := d_Lattice_within_at)
theorem fd_Lattice_join_at (Z : Ctx K mg) : ∃ fd, FunD K "join_at" "Lattice.join_at" (defArgs s_Lattice_join_at) (defBody s_Lattice_join_at) (defScope s_Lattice_join_at) [] [] (ma K (ga K "Lattice") "join_at") fd := Z.s.def_ 3 (d := d_Lattice_join_at)
theorem fd_Lattice_meet_at (Z : Ctx K mg) : ∃ fd, FunD K "meet_at" "Lattice.meet_at" (defArgs s_Lattice_meet_at) (defBody s_Lattice_meet_at) (defScope s_Lattice_meet_at) [] [] (ma K (ga K "Lattice") "meet_at") fd := Z.s.def_ 4 (d := d_Lattice_meet_at)
theorem fd_Lattice_name_at (Z : Ctx K mg) : ∃ fd, FunD K "name_at" "Lattice.name_at" (defArgs s_Lattice_name_at) (defBody s_Lattice_name_at) (defScope s_Lattice_name_at) [] [] (ma K (ga K "Lattice") "name_at") fd := Z.s.def_ 5 (d := d_Lattice_name_at)
theorem fd_Lattice_at_name (Z : Ctx K mg) : ∃ fd, FunD K "at_name" "Lattice.at_name" (defArgs s_Lattice_at_name) (defBody s_Lattice_at_name) (defScope s_Lattice_at_name) [] [] (ma K (ga K "Lattice") "at_name") fd := Z.s.def_ 6 (d := d_Lattice_at_name)
theorem fd_Lattice_irreducibles (Z : Ctx K mg) : ∃ fd, FunD K "irreducibles" "Lattice.irreducibles" (defArgs s_Lattice_irreducibles) (defBody s_Lattice_irreducibles) (defScope s_Lattice_irreducibles) [] [] (ma K (ga K "Lattice") "irreducibles") fd := Z.s.def_ 7 (d := d_Lattice_irreducibles)
theorem fd_ChainLattice___init__ (Z : Ctx K mg) : ∃ fd, FunD K "__init__" "ChainLattice.__init__" (defArgs s_ChainLattice___init__) (defBody s_ChainLattice___init__) (defScope s_ChainLattice___init__) [] [] (ma K (ga K "ChainLattice") "__init__") fd := Z.s.def_ 8 (d := d_ChainLattice___init__)
theorem fd_ChainLattice_within_at (Z : Ctx K mg) : ∃ fd, FunD K "within_at" "ChainLattice.within_at" (defArgs s_ChainLattice_within_at) (defBody s_ChainLattice_within_at) (defScope s_ChainLattice_within_at) [] [] (ma K (ga K "ChainLattice") "within_at") fd := Z.s.def_ 9 (d := d_ChainLattice_within_at)
theorem fd_ChainLattice_join_at (Z : Ctx K mg) : ∃ fd, FunD K "join_at" "ChainLattice.join_at" (defArgs s_ChainLattice_join_at) (defBody s_ChainLattice_join_at) (defScope s_ChainLattice_join_at) [] [] (ma K (ga K "ChainLattice") "join_at") fd := Z.s.def_ 10 (d := d_ChainLattice_join_at)
theorem fd_ChainLattice_meet_at (Z : Ctx K mg) : ∃ fd, FunD K "meet_at" "ChainLattice.meet_at" (defArgs s_ChainLattice_meet_at) (defBody s_ChainLattice_meet_at) (defScope s_ChainLattice_meet_at) [] [] (ma K (ga K "ChainLattice") "meet_at") fd := Z.s.def_ 11 (d := d_ChainLattice_meet_at)
theorem fd_ChainLattice_name_at (Z : Ctx K mg) : ∃ fd, FunD K "name_at" "ChainLattice.name_at" (defArgs s_ChainLattice_name_at) (defBody s_ChainLattice_name_at) (defScope s_ChainLattice_name_at) [] [] (ma K (ga K "ChainLattice") "name_at") fd := Z.s.def_ 12 (d := d_ChainLattice_name_at)
theorem fd_ChainLattice_at_name (Z : Ctx K mg) : ∃ fd, FunD K "at_name" "ChainLattice.at_name" (defArgs s_ChainLattice_at_name) (defBody s_ChainLattice_at_name) (defScope s_ChainLattice_at_name) [] [] (ma K (ga K "ChainLattice") "at_name") fd := Z.s.def_ 13 (d := d_ChainLattice_at_name)
theorem fd_ChainLattice_irreducibles (Z : Ctx K mg) : ∃ fd, FunD K "irreducibles" "ChainLattice.irreducibles" (defArgs s_ChainLattice_irreducibles) (defBody s_ChainLattice_irreducibles) (defScope s_ChainLattice_irreducibles) [] [] (ma K (ga K "ChainLattice") "irreducibles") fd := Z.s.def_ 14 (d := d_ChainLattice_irreducibles)
theorem fd_SetLattice___init__ (Z : Ctx K mg) : ∃ fd, FunD K "__init__" "SetLattice.__init__" (defArgs s_SetLattice___init__) (defBody s_SetLattice___init__) (defScope s_SetLattice___init__) [] [] (ma K (ga K "SetLattice") "__init__") fd := Z.s.def_ 15 (d := d_SetLattice___init__)
theorem fd_SetLattice_within_at (Z : Ctx K mg) : ∃ fd, FunD K "within_at" "SetLattice.within_at" (defArgs s_SetLattice_within_at) (defBody s_SetLattice_within_at) (defScope s_SetLattice_within_at) [] [] (ma K (ga K "SetLattice") "within_at") fd := Z.s.def_ 16 (d := d_SetLattice_within_at)
theorem fd_SetLattice_join_at (Z : Ctx K mg) : ∃ fd, FunD K "join_at" "SetLattice.join_at" (defArgs s_SetLattice_join_at) (defBody s_SetLattice_join_at) (defScope s_SetLattice_join_at) [] [] (ma K (ga K "SetLattice") "join_at") fd := Z.s.def_ 17 (d := d_SetLattice_join_at)
theorem fd_SetLattice_meet_at (Z : Ctx K mg) : ∃ fd, FunD K "meet_at" "SetLattice.meet_at" (defArgs s_SetLattice_meet_at) (defBody s_SetLattice_meet_at) (defScope s_SetLattice_meet_at) [] [] (ma K (ga K "SetLattice") "meet_at") fd := Z.s.def_ 18 (d := d_SetLattice_meet_at)
theorem fd_SetLattice_name_at (Z : Ctx K mg) : ∃ fd, FunD K "name_at" "SetLattice.name_at" (defArgs s_SetLattice_name_at) (defBody s_SetLattice_name_at) (defScope s_SetLattice_name_at) [] [] (ma K (ga K "SetLattice") "name_at") fd := Z.s.def_ 19 (d := d_SetLattice_name_at)
theorem fd_SetLattice_at_name (Z : Ctx K mg) : ∃ fd, FunD K "at_name" "SetLattice.at_name" (defArgs s_SetLattice_at_name) (defBody s_SetLattice_at_name) (defScope s_SetLattice_at_name) [] [] (ma K (ga K "SetLattice") "at_name") fd := Z.s.def_ 20 (d := d_SetLattice_at_name)
theorem fd_SetLattice_irreducibles (Z : Ctx K mg) : ∃ fd, FunD K "irreducibles" "SetLattice.irreducibles" (defArgs s_SetLattice_irreducibles) (defBody s_SetLattice_irreducibles) (defScope s_SetLattice_irreducibles) [] [] (ma K (ga K "SetLattice") "irreducibles") fd := Z.s.def_ 21 (d := d_SetLattice_irreducibles)
theorem fd__check_count (Z : Ctx K mg) : ∃ fd, FunD K "_check_count" "_check_count" (defArgs s__check_count) (defBody s__check_count) (defScope s__check_count) [] [] (ga K "_check_count") fd := Z.s.def_ 22 (d := d__check_count)
theorem fd__law_cells (Z : Ctx K mg) : ∃ fd, FunD K "_law_cells" "_law_cells" (defArgs s__law_cells) (defBody s__law_cells) (defScope s__law_cells) [] [] (ga K "_law_cells") fd := Z.s.def_ 23 (d := d__law_cells)
theorem fd__law_pick (Z : Ctx K mg) : ∃ fd, FunD K "_law_pick" "_law_pick" (defArgs s__law_pick) (defBody s__law_pick) (defScope s__law_pick) [] [] (ga K "_law_pick") fd := Z.s.def_ 24 (d := d__law_pick)
theorem fd__law_like (Z : Ctx K mg) : ∃ fd, FunD K "_law_like" "_law_like" (defArgs s__law_like) (defBody s__law_like) (defScope s__law_like) [] [] (ga K "_law_like") fd := Z.s.def_ 25 (d := d__law_like)
theorem fd__law_due (Z : Ctx K mg) : ∃ fd, FunD K "_law_due" "_law_due" (defArgs s__law_due) (defBody s__law_due) (defScope s__law_due) [] [] (ga K "_law_due") fd := Z.s.def_ 26 (d := d__law_due)
theorem fd__law_unknown (Z : Ctx K mg) : ∃ fd, FunD K "_law_unknown" "_law_unknown" (defArgs s__law_unknown) (defBody s__law_unknown) (defScope s__law_unknown) [] [] (ga K "_law_unknown") fd := Z.s.def_ 27 (d := d__law_unknown)
theorem fd_law (Z : Ctx K mg) : ∃ fd, FunD K "law" "law" (defArgs s_law) (defBody s_law) (defScope s_law) [] [] (ga K "law") fd := Z.s.def_ 28 (d := d_law)
theorem xx_BadLattice (Z : Ctx K mg) : ExS.ESup PG K (ga K "BadLattice") (iAd K "BadLattice") "ValueError" ("ValueError" ++ ".__new__") ("ValueError" ++ ".__init__") [.type "ValueError", .type "Exception", .type "BaseException", .type "object"] "BadLattice.__init__" (defArgs s_BadLattice___init__) (defBody s_BadLattice___init__) (defScope s_BadLattice___init__) ∧ PySem.W.keepIn K (.ref (ga K "BadLattice")) = true ∧ PySem.W.subIn K (.ref (ga K "BadLattice")) (.type "BaseException") = some true ∧ PySem.W.typeIn K (.ref (ga K "BadLattice")) = some (.type "type") ∧ PySem.W.hasDictIn K (ga K "BadLattice") = true := Z.s.exn 0 (d := x_BadLattice) base_VE
theorem xx_UnknownValue (Z : Ctx K mg) : ExS.ESup PG K (ga K "UnknownValue") (iAd K "UnknownValue") "LookupError" ("LookupError" ++ ".__new__") ("LookupError" ++ ".__init__") [.type "LookupError", .type "Exception", .type "BaseException", .type "object"] "UnknownValue.__init__" (defArgs s_UnknownValue___init__) (defBody s_UnknownValue___init__) (defScope s_UnknownValue___init__) ∧ PySem.W.keepIn K (.ref (ga K "UnknownValue")) = true ∧ PySem.W.subIn K (.ref (ga K "UnknownValue")) (.type "BaseException") = some true ∧ PySem.W.typeIn K (.ref (ga K "UnknownValue")) = some (.type "type") ∧ PySem.W.hasDictIn K (ga K "UnknownValue") = true := Z.s.exn 1 (d := x_UnknownValue) base_LE
theorem xf_UnknownValue (Z : Ctx K mg) : XfC K (ga K "UnknownValue") := by
  have h := Z.s.moreB
  unfold more at h
  simp only [Bool.and_eq_true] at h
  exact xfB_ok h.1.2
theorem cm_Lattice___init__ (Z : Ctx K mg) : ClsM K (ga K "Lattice") "__init__" := by
  have h := Z.s.moreB
  unfold more at h
  simp only [Bool.and_eq_true] at h
  exact clsB_ok h.2
end
end Lk03

set_option maxHeartbeats 4000000
namespace Lk03
open PySem PySem.Spec PyProof.Rows L2 He HkS Bs
/-- what draws are made of stands at st -/
def Src (H : Hp) (st : Addr) : Prop := ∃ (c : Addr) (cs : List Int) (i left mixed : Int), H st = some (.lst [.ref c, .int i, .int left, .int mixed]) ∧ H c = some (.lst (cs.map V.int)) ∧ cs.length ≤ 63 ∧ (∀ z ∈ cs, 0 ≤ z) ∧ 0 ≤ i ∧ 0 ≤ left ∧ 0 ≤ mixed ∧ mixed < 2147483563
def spCells (K : PySem.W.Frag) : Sp := fun vs H Q _ => ∃ (a : Addr) (ns : List Int), vs = [.ref a] ∧ SqL K H a (ns.map V.int) ∧ ns.length ≤ 63 ∧ ∀ H' st, Same H H' → H st = none → Src H' st → Q (.ref st) H'
def spPick : Sp := fun vs H Q _ => ∃ (st : Addr) (many : Int), vs = [.ref st, .int many] ∧ Src H st ∧ 1 ≤ many ∧ many.natAbs < 2 ^ 200 ∧ ∀ d H', 0 ≤ d → d < many → (∀ b, b ≠ st → H' b = H b) → Src H' st → Q (.int d) H'
section
variable {P : Program} {w : World} {K : PySem.W.Frag} {mg : Str → Option Value} {base : Heap}
theorem scCells : FnScope ["script", "mixed", "cell"] ["script"] (defScope s__law_cells) := ⟨rfl, rfl, rfl, by decide +kernel, rfl, by decide +kernel, by decide +kernel⟩
theorem ints_at {ns : List Int} {i : Nat} {y : V} (h : (ns.map V.int)[i]? = some y) : ∃ z, ns[i]? = some z ∧ y = V.int z := by
  rw [List.getElem?_map] at h
  cases e : ns[i]? with
  | none =>
    rw [e] at h
    cases h
  | some z =>
    rw [e] at h
    exact ⟨z, rfl, (Option.some.inj h).symm⟩
theorem take_more {α : Type} : ∀ {l : List α} {i : Nat} {x : α}, l[i]? = some x → l.take (i + 1) = l.take i ++ [x]
  | [], i, x, h => by simp at h
  | a :: l, 0, x, h => by
    have e : a = x := Option.some.inj h
    subst e
    rfl
  | a :: l, i + 1, x, h => by
    have ih := take_more (l := l) (i := i) (x := x) h
    show a :: l.take (i + 1) = a :: l.take i ++ [x]
    rw [ih]
    rfl
theorem ok_cells (Z : Ctx K mg) : Ok P w K mg base 2 (ga K "_law_cells") ["script"] (spCells K) := by
  refine ok_of (fd__law_cells Z) scCells (fun vs H Q E h => ?_) (fun _ _ _ _ _ _ us hl => match us, hl with | [_], _ => rfl) (fun cdv A outer s H vs Q E hr h => ?_)
  · obtain ⟨a, ns, rfl, _⟩ := h
    rfl
  · obtain ⟨a, ns, rfl, hS, hlen, k⟩ := h
    refine ⟨_, pss_cons (ps_s 1 scCells.nd pe_int)
      (pss_cons (ps_for (passes_of rfl) rfl (pi_list (pv 0)) (pg_n 2 scCells.nd)
        (pss_one (ps_s 1 scCells.nd (pe_op op_mod (pe_callTy call_int1 (by rfl) (f_int Z) (by decide +kernel) (pa_cons (pe_op op_add (pe_op op_add (pe_op op_mul (pv 1) pe_int) (pe_op op_mul (pv 2) pe_int)) pe_int) pa_nil)) pe_int))))
      (pss_one (ps_ret (pe_lst (pa_cons (pe_lc (own := [("cell", 2)]) (g := gName 2) (tt := tYes) rfl scCells.nd (pi_list (pv 0)) (blkOk_by (N := ["script", "mixed", "cell"]) (sc := defScope s__law_cells) (by decide +kernel)) (fun _ _ _ _ _ => pg_n 2 scCells.nd) (fun _ _ _ _ _ => pts_nil)
          (fun _ _ _ _ _ => pe_callB call_abs (by rfl) (f_abs Z) (by decide +kernel) (pa_cons (pv 2) pa_nil)))
        (pa_cons pe_int (pa_cons pe_int (pa_cons (pv 1) pa_nil)))))))), ?_⟩
    refine ⟨_, rfl, a, rfl, ⟨_, hS⟩, for_list (K := K) (a := a) (xs := ns.map V.int) (fun i σ H1 => ∃ (m : Int) (v : Option V), σ = [some (.ref a), some (.int m), v] ∧ H1 = H ∧ 0 ≤ m ∧ m < 2147483563)
      ⟨3, none, rfl, rfl, by decide, by decide⟩ (fun i σ H1 _ ⟨_, _, _, e, _⟩ => by rw [e]; exact hS) ?_ ?_⟩
    · rintro i y σ H1 hi ⟨m, v, rfl, rfl, h0, h1⟩
      obtain ⟨z, hz, rfl⟩ := ints_at hi
      refine ⟨_, rfl, _, _, rfl, rfl, .inl ⟨by omega, by omega⟩, _, rfl, _, _, rfl, rfl, .inr ⟨by decide, by decide⟩, _, _, rfl, rfl, _, _, rfl, rfl, .inl ⟨_, rfl, ?_⟩⟩
      refine ⟨_, _, rfl, rfl, (by show (0 : Int) < 2147483563; decide), ?_⟩
      exact ⟨_, some (.int z), rfl, rfl, Int.emod_nonneg _ (by decide), Int.emod_lt_of_pos _ (by decide)⟩
    · rintro σ H1 ⟨m, v, rfl, rfl, h0, h1⟩
      refine ⟨_, rfl, a, rfl, ⟨_, hS⟩, fun D hD => ?_⟩
      have na : a ≠ D ∨ True := .inr trivial
      refine lc_list (K := K) (a := a) (xs := ns.map V.int) (fun i H2 => Same H1 H2 ∧ H2 D = some (.lst (((ns.take i).map fun z => if z < 0 then -z else z).map V.int)))
        ⟨fun b o e => by rw [upd_ne (ne_of_none e hD)]; exact e, by rw [upd_same]; rfl⟩ (fun i H2 _ h => h.1.seq hS) ?_ ?_
      · rintro i y H2 hi ⟨sm, hd⟩
        obtain ⟨z, hz, rfl⟩ := ints_at hi
        have hl : i < ns.length := (List.getElem?_eq_some_iff.mp hz).1
        refine ⟨rfl, ?_⟩
        show _
        refine ⟨_, rfl, _, rfl, _, hd, ?_, ?_, ?_⟩
        · rw [List.length_map, List.length_map, List.length_take]
          exact small1000 (by omega)
        · intro b o e
          rw [upd_ne (ne_of_none e hD)]
          exact sm b o e
        · rw [upd_same, take_more hz, List.map_append, List.map_append]
          rfl
      · rintro H2 ⟨sm, hd⟩
        rw [List.length_map, List.take_length] at hd
        refine ⟨_, rfl, (by show 4 ≤ sizeLine; decide), fun p hp => ?_⟩
        have dp : D ≠ p := ne_of_none hd hp
        refine k _ p (fun b o e => ?_) (sm.free hp) ⟨D, _, 0, 1, m, upd_same, by rw [upd_ne dp]; exact hd, by rw [List.length_map]; omega, ?_, by decide, by decide, h0, h1⟩
        · have e2 := sm b o e
          rw [upd_ne (ne_of_none e2 hp)]
          exact e2
        · intro z hz
          obtain ⟨y, _, rfl⟩ := List.mem_map.mp hz
          split <;> omega
end
end Lk03

set_option maxHeartbeats 4000000
namespace Lk03
open PySem PySem.Spec PyProof.Rows L2 He HkS Bs
section
variable {P : Program} {w : World} {K : PySem.W.Frag} {mg : Str → Option Value} {base : Heap}
theorem scPick : FnScope ["source", "many", "digit", "number"] ["source", "many"] (defScope s__law_pick) := ⟨rfl, rfl, rfl, by decide +kernel, rfl, by decide +kernel, by decide +kernel⟩
theorem at0 {a b c d : V} : atI [a, b, c, d] 0 = some a := rfl
theorem at1 {a b c d : V} : atI [a, b, c, d] 1 = some b := rfl
theorem at2 {a b c d : V} : atI [a, b, c, d] 2 = some c := rfl
theorem at3 {a b c d : V} : atI [a, b, c, d] 3 = some d := rfl
theorem at_cs {cs : List Int} {i : Int} (h0 : 0 ≤ i) (h1 : i < cs.length) : ∃ z, cs[i.toNat]? = some z ∧ atI (cs.map V.int) i = some (V.int z) := by
  have hl : i.toNat < cs.length := by omega
  refine ⟨cs[i.toNat], List.getElem?_eq_getElem hl, at_of (j := i.toNat) (by omega) ?_⟩
  rw [List.getElem?_map, List.getElem?_eq_getElem hl]
  rfl
theorem pow_nn {i : Int} (h : 0 ≤ i) (n : Nat) : 0 ≤ i ^ n := Int.pow_nonneg h
theorem ok_pick (Z : Ctx K mg) : Ok P w K mg base 2 (ga K "_law_pick") ["source", "many"] spPick := by
  refine ok_of (fd__law_pick Z) scPick (fun vs H Q E h => ?_) (fun _ _ _ _ _ _ us hl => match us, hl with | [_, _], _ => rfl) (fun cdv A outer s H vs Q E hr h => ?_)
  · obtain ⟨a, ns, rfl, _⟩ := h
    rfl
  · obtain ⟨st, many, rfl, ⟨c, cs, i0, l0, m0, hst, hc, hlen, hcs, hi0, hl0, hm0, hm1⟩, hmany, hbig, k⟩ := h
    have ncs : c ≠ st := by
      intro e
      rw [e, hst] at hc
      have z := Option.some.inj hc
      injection z with z
      have z2 := congrArg List.head? z
      cases cs with
      | nil => cases z2
      | cons a l => cases z2
    refine ⟨_, pss_cons (ps_if (pt_cmpR op_lt (pv 1) pe_int (nomark _)) (pss_one (ps_ret pe_int)) pss_nil)
      (C8.pss_cut (ps_while (passes_of rfl) (PW.pt (pw_and (pt_cmpR op_lt (pe_ix ix_list (pv 0) pe_int (fun _ _ => rfl)) pe_int (nomark _)) (pw_and1 (pt_cmpR op_lt (pe_ix ix_list (pv 0) pe_int (fun _ _ => rfl)) (pe_callB call_len_seq (by rfl) (f_len Z) boot_len (pa_cons (pe_ix ix_list (pv 0) pe_int (fun _ _ => rfl)) pa_nil)) (nomark _)))))
        (pss_cons (ps_asg (pe_ix ix_list (pe_ix ix_list (pv 0) pe_int (fun _ _ => rfl)) (pe_ix ix_list (pv 0) pe_int (fun _ _ => rfl)) (fun _ _ => rfl)) (pg_sub (pv 0) pe_int set_list))
        (pss_one (ps_asg (pe_op op_add (pe_ix ix_list (pv 0) pe_int (fun _ _ => rfl)) pe_int) (pg_sub (pv 0) pe_int set_list)))))
      (pss_cons (ps_if (pt_cmpR op_gt (pe_ix ix_list (pv 0) pe_int (fun _ _ => rfl)) pe_int (nomark _))
        (pss_cons (ps_s 2 scPick.nd (pe_op op_mod (pe_callTy call_int1 (by rfl) (f_int Z) (by decide +kernel) (pa_cons (pe_ix ix_list (pv 0) pe_int (fun _ _ => rfl)) pa_nil)) (pv 1)))
        (pss_cons (ps_asg (pe_op op_fdivW (pe_ix ix_list (pv 0) pe_int (fun _ _ => rfl)) (pv 1)) (pg_sub (pv 0) pe_int set_list))
        (pss_one (ps_ret (pv 2))))) pss_nil)
      (pss_cons (ps_asg (pe_op op_mod (pe_callTy call_int1 (by rfl) (f_int Z) (by decide +kernel) (pa_cons (pe_op op_add (pe_op op_mul (pe_ix ix_list (pv 0) pe_int (fun _ _ => rfl)) pe_int) pe_int) pa_nil)) pe_int) (pg_sub (pv 0) pe_int set_list))
      (pss_cons (ps_s 3 scPick.nd (pe_op op_fdiv (pe_ix ix_list (pv 0) pe_int (fun _ _ => rfl)) pe_int))
      (pss_cons (ps_if (pt_cmpR op_gt (pv 1) (pe_op op_pow pe_int pe_int) (nomark _)) (pss_one (ps_s 3 scPick.nd (pe_op op_pow (pv 3) pe_int))) pss_nil)
      (pss_one (ps_ret (pe_op op_mod (pe_callTy call_int1 (by rfl) (f_int Z) (by decide +kernel) (pa_cons (pv 3) pa_nil)) (pv 1))))))))), ?_⟩
    refine ⟨_, rfl, _, _, rfl, rfl, _, rfl, ite2 (fun hlt => ?_) (fun hge => ?_)⟩
    · have hlt := of_decide_eq_true hlt
      exact k 0 H (by decide) (by omega) (fun _ _ => rfl) ⟨c, cs, i0, l0, m0, hst, hc, hlen, hcs, hi0, hl0, hm0, hm1⟩
    -- the while
    refine ⟨fun σ H1 => ∃ (i left : Int), σ = [some (.ref st), some (.int many), none, none] ∧ H1 st = some (.lst [.ref c, .int i, .int left, .int m0]) ∧ (∀ b, b ≠ st → H1 b = H b) ∧ 0 ≤ i ∧ 0 ≤ left, ?_, ?_⟩
    · refine ⟨fun m σ H1 => ∃ (i left : Int), σ = [some (.ref st), some (.int many), none, none] ∧ H1 st = some (.lst [.ref c, .int i, .int left, .int m0]) ∧ (∀ b, b ≠ st → H1 b = H b) ∧ 0 ≤ i ∧ 0 ≤ left ∧ m = ((cs.length : Int) - i).toNat, ⟨_, i0, l0, rfl, hst, fun _ _ => rfl, hi0, hl0, rfl⟩, ?_⟩
      rintro m σ H1 ⟨i, left, rfl, h1, hk, hi, hl, rfl⟩
      have hc1 : H1 c = some (.lst (cs.map V.int)) := (hk c ncs).trans hc
      refine ⟨_, rfl, _, _, _, _, rfl, rfl, SqL.of h1, at2, _, _, rfl, rfl, _, rfl, ?_⟩
      refine ite2 (fun t1 => ?_) (fun t1 => ?_)
      · refine ⟨_, rfl, _, _, _, _, rfl, rfl, SqL.of h1, at1, _, rfl, _, _, _, _, rfl, rfl, SqL.of h1, at0, c, _, rfl, .inl (SqL.of hc1), _, _, rfl, rfl, _, rfl, ?_⟩
        rw [List.length_map]
        refine ite2 (fun t2 => ?_) (fun t2 => ?_)
        · have hlt := of_decide_eq_true t2
          obtain ⟨z, hz, haz⟩ := at_cs hi hlt
          have hzn : 0 ≤ z := hcs z (List.mem_of_getElem? hz)
          refine ⟨fun σ' H' => ∃ (left : Int), σ' = [some (.ref st), some (.int many), none, none] ∧ H' st = some (.lst [.ref c, .int (i + 1), .int left, .int m0]) ∧ (∀ b, b ≠ st → H' b = H b) ∧ 0 ≤ left, fun σ' H' ⟨l2, e1, e2, e3, e4⟩ => ⟨_, by omega, i + 1, l2, e1, e2, e3, by omega, e4, rfl⟩, ?_⟩
          refine ⟨_, rfl, _, _, _, _, rfl, rfl, SqL.of h1, at0, _, rfl, _, _, _, _, rfl, rfl, SqL.of h1, at1, _, _, _, _, rfl, rfl, SqL.of hc1, haz, _, rfl, _, _, _, _, rfl, rfl, h1, rfl, ?_⟩
          refine ⟨_, rfl, _, _, _, _, rfl, rfl, SqL.of upd_same, at1, _, _, rfl, rfl, _, rfl, _, _, _, _, rfl, rfl, upd_same, rfl, ?_⟩
          exact ⟨z, rfl, upd_same, fun b hb => by rw [upd_ne hb, upd_ne hb]; exact hk b hb, hzn⟩
        · exact ⟨i, left, rfl, h1, hk, hi, hl⟩
      · exact ⟨i, left, rfl, h1, hk, hi, hl⟩
    · rintro σ H1 ⟨i, left, rfl, h1, hk, hi, hl⟩
      have hc1 : H1 c = some (.lst (cs.map V.int)) := (hk c ncs).trans hc
      refine ⟨_, rfl, _, _, _, _, rfl, rfl, SqL.of h1, at2, _, _, rfl, rfl, _, rfl, ite2 (fun t => ?_) (fun t => ?_)⟩
      · -- a digit of the present cell
        refine ⟨_, rfl, _, _, _, _, rfl, rfl, SqL.of h1, at2, .inl ⟨_, rfl, _, rfl, _, _, rfl, rfl, (by show (0 : Int) < many; omega), ?_⟩⟩
        refine ⟨_, rfl, _, _, _, _, rfl, rfl, SqL.of h1, at2, _, rfl, _, _, rfl, rfl, wide_div (by omega) hbig (by decide) (by decide), _, rfl, _, _, _, _, rfl, rfl, h1, rfl, ?_⟩
        refine ⟨_, rfl, k _ _ (Int.emod_nonneg _ (by omega)) (Int.emod_lt_of_pos _ (by omega)) (fun b hb => by rw [upd_ne hb]; exact hk b hb) ⟨c, cs, i, left / many, m0, upd_same, by rw [upd_ne ncs]; exact hc1, hlen, hcs, hi, Int.ediv_nonneg hl (by omega), hm0, hm1⟩⟩
      · refine ⟨_, rfl, _, _, _, _, rfl, rfl, SqL.of h1, at3, _, _, rfl, rfl, .inl ⟨by omega, by omega⟩, _, _, rfl, rfl, .inl ⟨_, rfl, _, _, rfl, rfl, (by show (0 : Int) < 2147483563; decide), _, rfl, _, _, _, _, rfl, rfl, h1, rfl, ?_⟩⟩
        have g0 : 0 ≤ (m0 * 40014 + 12345) % 2147483563 := Int.emod_nonneg _ (by decide)
        have g1 : (m0 * 40014 + 12345) % 2147483563 < 2147483563 := Int.emod_lt_of_pos _ (by decide)
        obtain ⟨m1, hm⟩ : ∃ m1, (m0 * 40014 + 12345) % 2147483563 = m1 := ⟨_, rfl⟩
        obtain ⟨H2, hH⟩ : ∃ H2, upd H1 st (.lst ([V.ref c, .int i, .int left, .int m0].set (Int.toNat 3) ((fun i j => V.int (i % j)) (m0 * 40014 + 12345) 2147483563))) = H2 := ⟨_, rfl⟩
        have h2 : H2 st = some (.lst [.ref c, .int i, .int left, .int m1]) := by
          rw [← hH, ← hm]
          exact upd_same
        have K1 : ∀ b, b ≠ st → H2 b = H b := fun b hb => by
          rw [← hH, upd_ne hb]
          exact hk b hb
        rw [hm] at g0 g1
        have S1 : Src H2 st := ⟨c, cs, i, left, m1, h2, (K1 c ncs).trans hc, hlen, hcs, hi, hl, g0, g1⟩
        show tSeq _ _ _ _ (upd H1 st (.lst ([V.ref c, .int i, .int left, .int m0].set (Int.toNat 3) ((fun i j => V.int (i % j)) (m0 * 40014 + 12345) 2147483563))))
        rw [hH]
        refine ⟨_, rfl, _, _, _, _, rfl, rfl, SqL.of h2, at3, _, _, rfl, rfl, ⟨by decide, by decide⟩, ?_⟩
        have f0 : 0 ≤ m1 / 7 := Int.ediv_nonneg g0 (by decide)
        have f1 : m1 / 7 < 2147483563 := by omega
        refine ⟨_, rfl, _, _, rfl, rfl, ⟨by decide, by decide, by decide⟩, _, _, rfl, rfl, _, rfl, ite2 (fun t => ?_) (fun t => ?_)⟩
        · refine ⟨_, rfl, _, _, rfl, rfl, ⟨by decide, by decide, by show (m1 / 7).natAbs < 2 ^ 64; omega⟩, ?_⟩
          refine ⟨_, rfl, .inl ⟨_, rfl, _, rfl, _, _, rfl, rfl, (by show (0 : Int) < many; omega), ?_⟩⟩
          exact k _ _ (Int.emod_nonneg _ (by omega)) (Int.emod_lt_of_pos _ (by omega)) K1 S1
        · refine ⟨_, rfl, .inl ⟨_, rfl, _, rfl, _, _, rfl, rfl, (by show (0 : Int) < many; omega), ?_⟩⟩
          exact k _ _ (Int.emod_nonneg _ (by omega)) (Int.emod_lt_of_pos _ (by omega)) K1 S1
end
end Lk03

set_option maxHeartbeats 4000000
namespace Lk03
open PySem PySem.Spec PyProof.Rows L2 He HkS Bs
/-- the same data on both sides, at most n deep -/
inductive Lk (H : Hp) : Nat → V → V → Prop where
  | non (n : Nat) : Lk H (n + 1) .non .non
  | bl (n : Nat) (b : Bool) : Lk H (n + 1) (.bl b) (.bl b)
  | int (n : Nat) (i : Int) : Lk H (n + 1) (.int i) (.int i)
  | str (n : Nat) (s : Str) : Lk H (n + 1) (.str s) (.str s)
  | lst {n : Nat} {a b : Addr} {xs ys : List V} (ha : H a = some (.lst xs)) (hb : H b = some (.lst ys)) (hl : xs.length = ys.length) (hz : ys.length ≤ 1000) (h : ∀ (i : Nat) (x y : V), xs[i]? = some x → ys[i]? = some y → Lk H n x y) : Lk H (n + 1) (.ref a) (.ref b)
  | tup {n : Nat} {a b : Addr} {xs ys : List V} (ha : H a = some (.tup xs)) (hb : H b = some (.tup ys)) (hl : xs.length = ys.length) (hz : ys.length ≤ 1000) (h : ∀ (i : Nat) (x y : V), xs[i]? = some x → ys[i]? = some y → Lk H n x y) : Lk H (n + 1) (.ref a) (.ref b)
theorem Lk.same {H H' : Hp} (s : Same H H') : ∀ {n : Nat} {x y : V}, Lk H n x y → Lk H' n x y := by
  intro n
  induction n with
  | zero => intro x y h; cases h
  | succ n ih =>
    intro x y h
    cases h with
    | non => exact .non n
    | bl _ b => exact .bl n b
    | int _ b => exact .int n b
    | str _ b => exact .str n b
    | lst ha hb hl hz h => exact .lst (s _ _ ha) (s _ _ hb) hl hz fun i x y hx hy => ih (h i x y hx hy)
    | tup ha hb hl hz h => exact .tup (s _ _ ha) (s _ _ hb) hl hz fun i x y hx hy => ih (h i x y hx hy)
theorem _root_.L2.Same.new {H : Hp} {p : Addr} {o : HO} (h : H p = none) : Same H (upd H p o) := fun b u e => by rw [upd_ne (ne_of_none e h)]; exact e
theorem _root_.L2.TyOf.same {K : PySem.W.Frag} {H H' : Hp} {x : V} {t : Value} (s : Same H H') (h : TyOf K H x t) : TyOf K H' x t := by
  cases h with
  | non => exact .non
  | bl x => exact .bl x
  | int i => exact .int i
  | str x => exact .str x
  | flt x => exact .flt x
  | lst e => exact .lst (s _ _ e)
  | frz e => exact .frz (s _ _ e)
  | tup e => exact .tup (s _ _ e)
  | dK e => exact .dK (s _ _ e)
  | dT e => exact .dT (s _ _ e)
  | ins e cl ha hn htk hm => exact .ins (s _ _ e) cl ha hn htk hm
theorem _root_.L2.TyX.same {K : PySem.W.Frag} {H H' : Hp} {x : V} {t : Value} (s : Same H H') (h : TyX K H x t) : TyX K H' x t := by
  cases h with
  | base h => exact .base (h.same s)
  | byt b => exact .byt b
  | set e => exact .set (s _ _ e)
  | kList e c => exact .kList e c
  | kTuple e c => exact .kTuple e c
  | kDict e c => exact .kDict e c
  | fTuple e => exact .fTuple (s _ _ e)
  | fDict e => exact .fDict (s _ _ e)
def isRef : V → Bool
  | .ref _ => true
  | _ => false
def kinds : List String := ["NoneType", "bool", "int", "str", "list", "tuple"]
/-- what both are, for isinstance -/
theorem Lk.kind {K : PySem.W.Frag} {H : Hp} {n : Nat} {x y : V} (h : Lk H n x y) : ∃ t ∈ kinds, TyX K H x (.type t) ∧ TyX K H y (.type t) ∧ (decide (t = "list") || decide (t = "tuple")) = isRef x := by
  cases h with
  | non => exact ⟨"NoneType", by decide, .base .non, .base .non, by decide⟩
  | bl _ b => exact ⟨"bool", by decide, .base (.bl _), .base (.bl _), rfl⟩
  | int _ b => exact ⟨"int", by decide, .base (.int _), .base (.int _), rfl⟩
  | str _ b => exact ⟨"str", by decide, .base (.str _), .base (.str _), rfl⟩
  | lst ha hb _ _ _ => exact ⟨"list", by decide, .base (.lst ha), .base (.lst hb), rfl⟩
  | tup ha hb _ _ _ => exact ⟨"tuple", by decide, .base (.tup ha), .base (.tup hb), rfl⟩
theorem kit_is {K : PySem.W.Frag} {t c : String} (ht : t ∈ kinds) (hc : c ∈ (["bool", "str", "list", "tuple", "dict"] : List String)) : PySem.W.kitOne K (.type t) (.type c) = some (decide (t = c)) := by
  apply kit_ty
  have h : ∀ t ∈ kinds, ∀ c ∈ (["bool", "str", "list", "tuple", "dict"] : List String), kitB t c = some (decide (t = c)) := by decide +kernel
  exact h t ht c hc
theorem kit_lt {K : PySem.W.Frag} {t : String} (ht : t ∈ kinds) : PySem.W.kitAny K (.type t) [.type "list", .type "tuple"] = some (decide (t = "list") || decide (t = "tuple")) := by
  refine kitAny_cons (kit_is ht (by decide)) (fun h => ?_) (fun h => by rw [h]; rfl)
  rw [h]
  refine kitAny_cons (kit_is ht (by decide)) (fun h => by rw [h]; rfl) (fun h => by rw [h]; rfl)
def spLike (n : Nat) : Sp := fun vs H Q _ => ∃ x y : V, vs = [x, y] ∧ Lk H n x y ∧ ∀ H', Same H H' → Q (.bl true) H'
section
variable {P : Program} {w : World} {K : PySem.W.Frag} {mg : Str → Option Value} {base : Heap}
theorem sc__law_like : FnScope ["found", "due", "pair", "k"] ["found", "due"] (defScope s__law_like) := ⟨rfl, rfl, rfl, by decide +kernel, rfl, by decide +kernel, by decide +kernel⟩
theorem bind_like (kV doc pm : Value) (an : Option Addr) (cdv ct : Value) (us : List Value) (hl : us.length = (["found", "due"] : List Str).length) : bindArgs (PySem.W.fnOf "_law_like" "_law_like" (defArgs s__law_like) (defBody s__law_like) (defScope s__law_like) .none kV doc pm an cdv ct) ⟨us, []⟩ = pure ((["found", "due"] : List Str).zip us) := match us, hl with | [_, _], _ => rfl
theorem ok_like0 (Z : Ctx K mg) : Ok P w K mg base 2 (ga K "_law_like") ["found", "due"] (spLike 0) := by
  refine ok_of (fd__law_like Z) sc__law_like (fun vs H Q E h => ?_) bind_like (fun cdv A outer s H vs Q E hr h => ?_)
  · obtain ⟨_, _, rfl, _⟩ := h
    rfl
  · obtain ⟨_, _, _, h, _⟩ := h
    cases h
theorem inV_tru : ∀ n, inV (.bl false) (List.replicate n (.bl true)) = false
  | 0 => rfl
  | n + 1 => by
    show (eqV (.bl true) (.bl false) || inV (.bl false) (List.replicate n (.bl true))) = false
    rw [inV_tru n]
    rfl
theorem flat_tru : ∀ n, (List.replicate n (V.bl true)).all flatV = true
  | 0 => rfl
  | n + 1 => by
    show (flatV (.bl true) && (List.replicate n (V.bl true)).all flatV) = true
    rw [flat_tru n]
    rfl
theorem like_step (Z : Ctx K mg) {n : Nat} (R : Ok P w K mg base (2 + n) (ga K "_law_like") ["found", "due"] (spLike n)) : Ok P w K mg base (2 + n + 1) (ga K "_law_like") ["found", "due"] (spLike (n + 1)) := by
  refine ok_of (fd__law_like Z) sc__law_like (fun vs H Q E h => ?_) bind_like (fun cdv A outer s H vs Q E hr h => ?_)
  · obtain ⟨_, _, rfl, _⟩ := h
    rfl
  · obtain ⟨x, y, rfl, h, k⟩ := h
    obtain ⟨t, ht, tx, ty, tr⟩ := h.kind (K := K)
    refine ⟨_, (pss_cons (ps_if (pt_cmpR op_isN (pv 1) pe_non (nomark _)) (pss_one (ps_ret (pe_cmpR op_isN (pv 0) pe_non (nomark _)))) pss_nil)
      (pss_cons (ps_for (passes_of rfl) rfl (listI (pe_lst (pa_cons (pe_lst (pa_cons (pe_callB isiQ (by rfl) (f_isinstance Z) (by decide +kernel) (pa_cons (pv 0) (pa_cons (pe_bltn (v := .ty "bool") (by rfl) (f_bool Z) (by decide +kernel) rfl) pa_nil))) (pa_cons (pe_callB isiQ (by rfl) (f_isinstance Z) (by decide +kernel) (pa_cons (pv 1) (pa_cons (pe_bltn (v := .ty "bool") (by rfl) (f_bool Z) (by decide +kernel) rfl) pa_nil))) pa_nil))) (pa_cons (pe_lst (pa_cons (pe_callB isiQ (by rfl) (f_isinstance Z) (by decide +kernel) (pa_cons (pv 0) (pa_cons (pe_bltn (v := .ty "str") (by rfl) (f_str Z) (by decide +kernel) rfl) pa_nil))) (pa_cons (pe_callB isiQ (by rfl) (f_isinstance Z) (by decide +kernel) (pa_cons (pv 1) (pa_cons (pe_bltn (v := .ty "str") (by rfl) (f_str Z) (by decide +kernel) rfl) pa_nil))) pa_nil))) pa_nil)))) (pg_n 2 sc__law_like.nd) (pss_one (ps_if (pt_cmpR op_ne (pe_ix ixL (pv 2) pe_int (fun _ _ => rfl)) (pe_ix ixL (pv 2) pe_int (fun _ _ => rfl)) (nomark _)) (pss_one (ps_ret pe_bl)) pss_nil)))
      (pss_cons (ps_if (PW.pt (pw_or (pt_cmpR op_ne (pe_callB isiQ (by rfl) (f_isinstance Z) (by decide +kernel) (pa_cons (pv 0) (pa_cons (pe_bltn (v := .ty "list") (by rfl) (f_list Z) (by decide +kernel) rfl) pa_nil))) (pe_callB isiQ (by rfl) (f_isinstance Z) (by decide +kernel) (pa_cons (pv 1) (pa_cons (pe_bltn (v := .ty "list") (by rfl) (f_list Z) (by decide +kernel) rfl) pa_nil))) (nomark _)) (pw_or1 (pt_cmpR op_ne (pe_callB isiQ (by rfl) (f_isinstance Z) (by decide +kernel) (pa_cons (pv 0) (pa_cons (pe_bltn (v := .ty "tuple") (by rfl) (f_tuple Z) (by decide +kernel) rfl) pa_nil))) (pe_callB isiQ (by rfl) (f_isinstance Z) (by decide +kernel) (pa_cons (pv 1) (pa_cons (pe_bltn (v := .ty "tuple") (by rfl) (f_tuple Z) (by decide +kernel) rfl) pa_nil))) (nomark _))))) (pss_one (ps_ret pe_bl)) pss_nil)
      (pss_cons (ps_if (pt_val (pe_callB isiQ (by rfl) (f_isinstance Z) (by decide +kernel) (pa_cons (pv 1) (pa_cons (pe_bltn (v := .ty "dict") (by rfl) (f_dict Z) (by decide +kernel) rfl) pa_nil)))) pss_never pss_nil)
      (pss_cons (ps_if (pt_val (pe_callB isiTQ (by rfl) (f_isinstance Z) (by decide +kernel) (pa_cons (pv 1) (pa_cons (pe_tup (pa_cons (pe_bltn (v := .ty "list") (by rfl) (f_list Z) (by decide +kernel) rfl) (pa_cons (pe_bltn (v := .ty "tuple") (by rfl) (f_tuple Z) (by decide +kernel) rfl) pa_nil))) pa_nil)))) (pss_cons (ps_if (pt_cmpR op_ne (pe_callB lenQ (by rfl) (f_len Z) boot_len (pa_cons (pv 0) pa_nil)) (pe_callB lenQ (by rfl) (f_len Z) boot_len (pa_cons (pv 1) pa_nil)) (nomark _)) (pss_one (ps_ret pe_bl)) pss_nil)
      (pss_one (ps_ret (pe_cmpR ninQ pe_bl (pe_lc (own := [("k", 3)]) (g := gName 3) (tt := tYes) rfl sc__law_like.nd (pi_range1 (by rfl) (f_range Z) (pa_cons (pe_callB lenQ (by rfl) (f_len Z) boot_len (pa_cons (pv 1) pa_nil)) pa_nil)) (blkOk_by (N := ["found", "due", "pair", "k"]) (sc := defScope s__law_like) (by decide +kernel)) (fun _ _ _ _ _ => (pg_n 3 sc__law_like.nd)) (fun _ _ _ _ _ => pts_nil) (fun _ _ _ _ _ => (pe_cO R hr (g__law_like Z) passL (pa_cons (pe_ix ixQ (pv 0) (pv 3) (fun _ _ => rfl)) (pa_cons (pe_ix ixQ (pv 1) (pv 3) (fun _ _ => rfl)) pa_nil))))) (by rfl))))) pss_nil)
      (pss_one (ps_ret (pe_cmpR op_eq (pv 0) (pv 1) (nomark _))))))))), ?_⟩
    -- due is None
    refine ⟨_, rfl, rfl, _, rfl, ite2 (fun c => ?_) (fun c => ?_)⟩
    · have e : y = .non := of_decide_eq_true c
      subst e
      cases h
      exact ⟨_, rfl, rfl, k _ (Same.refl _)⟩
    have hny : ¬ y = .non := fun e => c (decide_eq_true e)
    refine ⟨_, rfl, _, _, _, _, _, rfl, .ty _, tx, kit_is ht (by decide), ⟨_, rfl, _, _, _, _, _, rfl, .ty _, ty, kit_is ht (by decide), (by show 2 ≤ sizeLine; decide), fun p1 n1 => ?_⟩⟩
    have s1 : Same H (upd H p1 (.lst [.bl (decide (t = "bool")), .bl (decide (t = "bool"))])) := Same.new n1
    refine ⟨_, rfl, _, _, _, _, _, rfl, .ty _, tx.same s1, kit_is ht (by decide), ⟨_, rfl, _, _, _, _, _, rfl, .ty _, ty.same s1, kit_is ht (by decide), (by show 2 ≤ sizeLine; decide), fun p2 n2 => ?_⟩⟩
    have s2 := s1.trans (Same.new (o := .lst [.bl (decide (t = "str")), .bl (decide (t = "str"))]) n2)
    refine ⟨(by show 2 ≤ sizeLine; decide), fun p3 n3 => ?_⟩
    have s3 := s2.trans (Same.new (o := .lst [.ref p1, .ref p2]) n3)
    have q1 : upd (upd (upd H p1 (.lst [.bl (decide (t = "bool")), .bl (decide (t = "bool"))])) p2 (.lst [.bl (decide (t = "str")), .bl (decide (t = "str"))])) p3 (.lst [.ref p1, .ref p2]) p1 = some (.lst [.bl (decide (t = "bool")), .bl (decide (t = "bool"))]) :=
      (Same.new (o := .lst [.ref p1, .ref p2]) n3) _ _ ((Same.new (o := .lst [.bl (decide (t = "str")), .bl (decide (t = "str"))]) n2) _ _ upd_same)
    have q2 : upd (upd (upd H p1 (.lst [.bl (decide (t = "bool")), .bl (decide (t = "bool"))])) p2 (.lst [.bl (decide (t = "str")), .bl (decide (t = "str"))])) p3 (.lst [.ref p1, .ref p2]) p2 = some (.lst [.bl (decide (t = "str")), .bl (decide (t = "str"))]) :=
      (Same.new (o := .lst [.ref p1, .ref p2]) n3) _ _ upd_same
    refine ⟨p3, rfl, ⟨_, SqL.of upd_same⟩, for_list (K := K) (a := p3) (xs := [.ref p1, .ref p2]) (fun i σ H1 => ∃ v : Option V, σ = [some x, some y, v, none] ∧ H1 = upd (upd (upd H p1 (.lst [.bl (decide (t = "bool")), .bl (decide (t = "bool"))])) p2 (.lst [.bl (decide (t = "str")), .bl (decide (t = "str"))])) p3 (.lst [.ref p1, .ref p2])) ⟨none, rfl, rfl⟩ (fun i σ H1 _ ⟨_, _, e⟩ => by rw [e]; exact SqL.of upd_same) ?_ ?_⟩
    · rintro i z σ H1 hi ⟨v, rfl, rfl⟩
      match i, hi with
      | 0, hi =>
        have e : V.ref p1 = z := Option.some.inj hi
        subst e
        exact ⟨_, rfl, _, _, _, _, rfl, rfl, SqL.of q1, rfl, _, rfl, _, _, _, _, rfl, rfl, SqL.of q1, rfl, rfl, _, rfl, iteNS rfl ⟨_, rfl, rfl⟩⟩
      | 1, hi =>
        have e : V.ref p2 = z := Option.some.inj hi
        subst e
        exact ⟨_, rfl, _, _, _, _, rfl, rfl, SqL.of q2, rfl, _, rfl, _, _, _, _, rfl, rfl, SqL.of q2, rfl, rfl, _, rfl, iteNS rfl ⟨_, rfl, rfl⟩⟩
      | i + 2, hi => cases hi
    · rintro σ H1 ⟨v, rfl, eH⟩
      rw [← eH] at s3
      -- lists, tuples on both sides
      refine ⟨_, rfl, _, _, _, _, _, rfl, .ty _, tx.same s3, kit_is ht (by decide), ⟨_, rfl, _, _, _, _, _, rfl, .ty _, ty.same s3, kit_is ht (by decide), rfl, _, rfl, iteNS rfl ?_⟩⟩
      refine ⟨_, rfl, _, _, _, _, _, rfl, .ty _, tx.same s3, kit_is ht (by decide), ⟨_, rfl, _, _, _, _, _, rfl, .ty _, ty.same s3, kit_is ht (by decide), rfl, _, rfl, iteNS rfl ?_⟩⟩
      have nd : decide (t = "dict") = false := by
        have z : ∀ t ∈ kinds, decide (t = "dict") = false := by decide
        exact z t ht
      refine ⟨_, rfl, _, _, _, _, _, rfl, .ty _, ty.same s3, (kit_is ht (by decide)).trans (congrArg some nd), _, rfl, iteF ?_⟩
      refine ⟨_, rfl, (by show 2 ≤ sizeLine; decide), fun p4 n4 => ?_⟩
      have s4 := s3.trans (Same.new (o := .tup [.ty "list", .ty "tuple"]) n4)
      refine ⟨_, p4, _, _, _, _, rfl, upd_same, .cons (.ty _) (.cons (.ty _) .nil), ty.same s4, kit_lt ht, _, rfl, ite2 (fun c4 => ?_) (fun c4 => ?_)⟩
      · obtain ⟨a, b, xs, ys, rfl, rfl, hl, hz, hx, hy, hxy, hxi, hyi⟩ : ∃ (a b : Addr) (xs ys : List V), x = .ref a ∧ y = .ref b ∧ xs.length = ys.length ∧ ys.length ≤ 1000 ∧ (∀ H', Same H H' → SqL K H' a xs ∨ SqT K H' a xs) ∧ (∀ H', Same H H' → SqL K H' b ys ∨ SqT K H' b ys) ∧ (∀ (i : Nat) (x y : V), xs[i]? = some x → ys[i]? = some y → Lk H n x y) ∧
            (∀ (H' : Hp) (Q : VK) (i : Int) (v : V), Same H H' → atI xs i = some v → Q v H' → rIx K (.ref a) (.int i) H' Q) ∧ (∀ (H' : Hp) (Q : VK) (i : Int) (v : V), Same H H' → atI ys i = some v → Q v H' → rIx K (.ref b) (.int i) H' Q) := by
          cases h with
          | non => exact absurd rfl hny
          | bl _ b => rw [tr] at c4; cases c4
          | int _ b => rw [tr] at c4; cases c4
          | str _ b => rw [tr] at c4; cases c4
          | lst ha hb hl hz h => exact ⟨_, _, _, _, rfl, rfl, hl, hz, fun H' s => .inl (SqL.of (s _ _ ha)), fun H' s => .inl (SqL.of (s _ _ hb)), h, fun H' Q i v s e q => .inl ⟨_, _, _, _, rfl, rfl, SqL.of (s _ _ ha), e, q⟩, fun H' Q i v s e q => .inl ⟨_, _, _, _, rfl, rfl, SqL.of (s _ _ hb), e, q⟩⟩
          | tup ha hb hl hz h => exact ⟨_, _, _, _, rfl, rfl, hl, hz, fun H' s => .inr (SqT.of (s _ _ ha)), fun H' s => .inr (SqT.of (s _ _ hb)), h, fun H' Q i v s e q => .inr (.inl ⟨_, _, _, _, rfl, rfl, SqT.of (s _ _ ha), e, q⟩), fun H' Q i v s e q => .inr (.inl ⟨_, _, _, _, rfl, rfl, SqT.of (s _ _ hb), e, q⟩)⟩
        refine ⟨_, rfl, _, _, rfl, hx _ s4, _, rfl, _, _, rfl, hy _ s4, rfl, _, rfl, ?_⟩
        have el : V.int (xs.length : Int) = V.int (ys.length : Int) := by rw [hl]
        refine iteNS el ?_
        refine ⟨_, rfl, _, _, rfl, hy _ s4, (ys.length : Int), rfl, by omega, by omega, fun D hD => ?_⟩
        have eN : ((ys.length : Int)).toNat = ys.length := by omega
        rw [eN]
        refine lc_range (lo := 0) (n := ys.length) (fun i H2 => Same H H2 ∧ H2 D = some (.lst (List.replicate i (.bl true)))) ⟨s4.trans (Same.new hD), upd_same⟩ ?_ ?_
        · rintro i H2 hi ⟨s5, hd⟩
          have hix : xs[i]? = some (xs[i]'(by omega)) := List.getElem?_eq_getElem (by omega)
          have hiy : ys[i]? = some (ys[i]'hi) := List.getElem?_eq_getElem hi
          refine ⟨rfl, _, rfl, _, rfl, hxi _ _ _ _ s5 (at_of (j := i) (by omega) hix) ⟨_, rfl, _, rfl, hyi _ _ _ _ s5 (at_of (j := i) (by omega) hiy) ⟨_, _, rfl, (hxy i _ _ hix hiy).same s5, fun H6 s6 => ?_⟩⟩⟩
          refine ⟨_, s6 _ _ hd, ?_, ?_, ?_⟩
          · rw [List.length_replicate]
            exact small1000 (by omega)
          · have s7 := s5.trans s6
            intro b o e
            have e2 := s7 b o e
            by_cases hb : b = D
            · subst hb
              exact absurd (s4 b o e) (by rw [hD]; intro z; cases z)
            · rw [upd_ne hb]
              exact e2
          · rw [upd_same, List.replicate_succ']
        · rintro H2 ⟨s5, hd⟩
          refine ⟨_, _, rfl, .inl (SqL.of hd), rfl, flat_tru _, ?_⟩
          show Q (.bl (!inV (.bl false) (List.replicate ys.length (.bl true)))) H2
          rw [inV_tru]
          exact k _ s5
      · -- scalars
        cases h with
        | non => exact absurd rfl hny
        | bl _ b => exact ⟨_, rfl, _, rfl, rfl, by rw [decide_eq_true rfl]; exact k _ s4⟩
        | int _ b => exact ⟨_, rfl, _, rfl, rfl, by rw [decide_eq_true rfl]; exact k _ s4⟩
        | str _ b => exact ⟨_, rfl, _, rfl, rfl, by rw [decide_eq_true rfl]; exact k _ s4⟩
        | lst ha hb hl hz h => exact absurd tr c4
        | tup ha hb hl hz h => exact absurd tr c4
theorem ok_like (Z : Ctx K mg) : ∀ n, Ok P w K mg base (2 + n) (ga K "_law_like") ["found", "due"] (spLike n)
  | 0 => ok_like0 Z
  | n + 1 => like_step Z (ok_like Z n)
end
end Lk03

set_option maxHeartbeats 4000000
namespace Lk03
open PySem PySem.Spec PyProof.Rows L2 He HkS Bs
section
variable {P : Program} {w : World} {K : PySem.W.Frag} {mg : Str → Option Value} {base : Heap}
/-! ### the errors -/
theorem xe_BadLattice (Z : Ctx K mg) : ExS.E0 PG K (ga K "BadLattice") := by
  obtain ⟨T, kC, eC, tC, hC⟩ := xx_BadLattice Z
  refine ⟨fun X bl hl hr hq => ?_, kC, eC, tC⟩
  exact ExS.made0 (arg := .Constant (.str _) _ _) ⟨fun _ => rfl, ⟨_, fun _ => rfl⟩, fun _ => rfl⟩ T X bl hl hr (fun A' E' s' L cda cc => wpAny_Constant_str ⟨_, rfl⟩) hq
theorem xe_UnknownValue (Z : Ctx K mg) : ExS.E1 PG K (ga K "UnknownValue") "name" ExS.ShortV := by
  obtain ⟨T, kC, eC, tC, hC⟩ := xx_UnknownValue Z
  refine ⟨fun rv ov X bl hl hr hq => ?_, kC, eC, tC⟩
  obtain ⟨y, rfl, hy⟩ := ov
  exact ExS.made1 (f := "name") (arg := .JoinedStr [.Constant (.str _) _ _, .FormattedValue (.Name "name" _) 114 none _] _) ⟨fun _ => rfl, ⟨_, fun _ => rfl⟩, fun _ => rfl⟩ T hC (n_UnknownValue_name Z) X bl hl hr (by decide +kernel) (by decide +kernel) (by decide +kernel) (by decide +kernel) (fun _ _ _ _ _ _ _ _ _ => rfl)
    (fun A' E' s' L cda cc m hn hm => ExS.msg_cf rv hy (by decide +kernel) hn hm rfl rfl (by decide +kernel)) hq
/-! ### place_of -/
theorem first_of {ns : List Str} (nd : ns.Nodup) {j : Nat} {s : Str} (h : ns[j]? = some s) : ∀ (m : Nat) (z : V), m < j → (ns.map V.str)[m]? = some z → eqV z (.str s) = false := by
  intro m z hm hz
  rw [List.getElem?_map] at hz
  cases e : ns[m]? with
  | none =>
    rw [e] at hz
    cases hz
  | some y =>
    rw [e] at hz
    have hy : V.str y = z := Option.some.inj hz
    subst hy
    show (y == s) = false
    refine beq_eq_false_iff_ne.mpr fun q => ?_
    subst q
    obtain ⟨h1, e1⟩ := List.getElem?_eq_some_iff.mp h
    obtain ⟨h2, e2⟩ := List.getElem?_eq_some_iff.mp e
    have := (List.getElem_inj nd).mp (e1.trans e2.symm)
    omega
theorem flat_strs : ∀ ns : List Str, (ns.map V.str).all flatV = true
  | [] => rfl
  | _ :: r => flat_strs r
theorem inV_strs {s : Str} : ∀ ns : List Str, inV (.str s) (ns.map V.str) = decide (s ∈ ns)
  | [] => rfl
  | y :: r => by
    show ((y == s) || inV (.str s) (r.map V.str)) = _
    rw [inV_strs r]
    by_cases h : y = s
    · subst h
      simp
    · have h2 : (y == s) = false := beq_eq_false_iff_ne.mpr h
      have h3 : ¬ s = y := fun q => h q.symm
      simp [h2, h3]
def sp_place_of (K : PySem.W.Frag) : Sp := fun vs H Q E => ∃ (l : Addr) (ns : List Str) (s : Str), vs = [.ref l, .str s] ∧ SqL K H l (ns.map V.str) ∧ ns.Nodup ∧ ns.length ≤ 1000 ∧ (reprText s).length ≤ 100000 ∧
  (∀ j : Nat, ns[j]? = some s → Q (.int j) H) ∧ (s ∉ ns → ∀ d, H d = none → E (.ref (ga K "UnknownValue")) (some d) (upd H d (.xd [("name", .str s)])))
theorem sc_place_of : FnScope ["names", "name"] ["names", "name"] (defScope s_place_of) := ⟨rfl, rfl, rfl, by decide +kernel, rfl, by decide +kernel, by decide +kernel⟩
theorem ok_place_of (Z : Ctx K mg)  (hP : P = PG) : Ok P w K mg base (2) (ga K "place_of") ["names", "name"] (sp_place_of K) := by
  refine ok_of (fd_place_of Z) sc_place_of (fun vs H Q E h => ?_) (fun _ _ _ _ _ _ us hl => match us, hl with | [_, _], _ => rfl) (fun cdv A outer s H vs Q E hr h => ?_)
  · obtain ⟨_, _, _, rfl, _⟩ := h
    rfl
  · subst hP
    obtain ⟨l, ns, s, rfl, hS, nd, hl, hz, hin, hout⟩ := h
    refine ⟨_, (pss_cons (ps_if (pt_cmpR ninQ (pv 1) (pv 0) (by rfl)) (pss_one (ps_raise rfl (takes_of rfl rfl rfl rfl) (ExS.pmk_e1 (xe_UnknownValue Z) (g_UnknownValue Z) (f_super Z) top_super hr (by exact (pa_cons (pv 1) pa_nil))))) pss_nil)
      (pss_one (ps_ret (bmQ PySem.F.plainAttrs_list PySem.F.slot_list_index PySem.F.type_list_index mtIx (pv 0) (pa_cons (pv 1) pa_nil))))), ?_⟩
    refine ⟨_, rfl, _, rfl, _, _, rfl, .inl hS, rfl, flat_strs ns, _, rfl, ?_⟩
    show if (!inV (V.str s) (ns.map V.str)) = true then _ else _
    rw [inV_strs]
    by_cases hm : s ∈ ns
    · rw [decide_eq_true hm]
      obtain ⟨j, hj, e⟩ := List.mem_iff_getElem.mp hm
      have ej : ns[j]? = some s := by rw [List.getElem?_eq_getElem hj, e]
      refine iteF ⟨_, rfl, .inl ⟨rfl, _, hS⟩, _, rfl, _, _, _, j, .str s, rfl, rfl, hS, rfl, flat_strs ns, ?_, ?_, first_of nd ej, hin j ej⟩
      · rw [List.getElem?_map, ej]
        rfl
      · show (s == s) = true
        exact beq_self_eq_true s
    · rw [decide_eq_false hm]
      exact iteT ⟨_, rfl, _, rfl, ⟨_, rfl, hz⟩, fun d hd => hout hm d hd⟩
/-! ### what every lattice has -/
/-- the class at C stores a lattice's attributes -/
structure LatCls (K : PySem.W.Frag) (C : Addr) : Prop where
  cl : Cls K C
  l : NoAttr K C "label"
  s : NoAttr K C "size"
  b : NoAttr K C "bottom_at"
  t : NoAttr K C "top_at"
theorem upd_upd {H : Hp} {a : Addr} {o u : HO} : upd (upd H a o) a u = upd H a u := by
  funext b
  by_cases h : b = a
  · subst h
    rw [upd_same, upd_same]
  · rw [upd_ne h, upd_ne h, upd_ne h]
theorem putF_len (f : Str) (v : V) : ∀ l : List (Str × V), (putF f v l).length ≤ l.length + 1
  | [] => Nat.le_refl _
  | (g, x) :: r => by
    unfold putF
    split
    · show r.length + 1 ≤ r.length + 1 + 1
      omega
    · show (putF f v r).length + 1 ≤ r.length + 1 + 1
      have := putF_len f v r
      omega
def sp_Lattice___init__ (K : PySem.W.Frag) : Sp := fun vs H Q _ => ∃ (p : Addr) (lb n b t : V) (C dx : Addr) (fs : List (Str × V)), vs = [.ref p, lb, n, b, t] ∧ H p = some (.ins C dx fs) ∧ fs.length ≤ 900 ∧ LatCls K C ∧
  Q .non (upd H p (.ins C dx (putF "top_at" t (putF "bottom_at" b (putF "size" n (putF "label" lb fs))))))
theorem sc_Lattice___init__ : FnScope ["self", "label", "size", "bottom_at", "top_at"] ["self", "label", "size", "bottom_at", "top_at"] (defScope s_Lattice___init__) := ⟨rfl, rfl, rfl, by decide +kernel, rfl, by decide +kernel, by decide +kernel⟩
theorem ok_Lattice___init__ (Z : Ctx K mg)  : Ok P w K mg base (2) (ma K (ga K "Lattice") "__init__") ["self", "label", "size", "bottom_at", "top_at"] (sp_Lattice___init__ K) := by
  refine ok_of (fd_Lattice___init__ Z) sc_Lattice___init__ (fun vs H Q E h => ?_) (fun _ _ _ _ _ _ us hl => match us, hl with | [_, _, _, _, _], _ => rfl) (fun cdv A outer s H vs Q E hr h => ?_)
  · obtain ⟨_, _, _, _, _, _, _, _, rfl, _⟩ := h
    rfl
  · obtain ⟨p, lb, n, b, t, C, dx, fs, rfl, hp, hl, T, k⟩ := h
    refine ⟨_, (pss_cons (ps_fld (pv 0) (pv 1) rfl)
      (pss_cons (ps_fld (pv 0) (pv 2) rfl)
      (pss_cons (ps_fld (pv 0) (pv 3) rfl)
      (pss_one (ps_fld (pv 0) (pv 4) rfl))))), ?_⟩
    have l1 := putF_len "label" lb fs
    have l2 := putF_len "size" n (putF "label" lb fs)
    have l3 := putF_len "bottom_at" b (putF "size" n (putF "label" lb fs))
    refine ⟨_, rfl, _, rfl, p, C, dx, _, rfl, hp, T.cl, T.l, by omega, _, rfl, _, rfl, p, C, dx, _, rfl, upd_same, T.cl, T.s, by omega, ?_⟩
    rw [upd_upd]
    refine ⟨_, rfl, _, rfl, p, C, dx, _, rfl, upd_same, T.cl, T.b, by omega, ?_⟩
    rw [upd_upd]
    refine ⟨_, rfl, _, rfl, p, C, dx, _, rfl, upd_same, T.cl, T.t, by omega, ?_⟩
    rw [upd_upd]
    exact k
def sp__check_count (K : PySem.W.Frag) : Sp := fun vs H Q E => ∃ (c m : Int), vs = [.int c, .int m] ∧ (1 ≤ c ∧ c ≤ m → Q .non H) ∧ (¬ (1 ≤ c ∧ c ≤ m) → E (.ref (ga K "BadLattice")) none H)
theorem sc__check_count : FnScope ["count", "most"] ["count", "most"] (defScope s__check_count) := ⟨rfl, rfl, rfl, by decide +kernel, rfl, by decide +kernel, by decide +kernel⟩
theorem ok__check_count (Z : Ctx K mg)  (hP : P = PG) : Ok P w K mg base (2) (ga K "_check_count") ["count", "most"] (sp__check_count K) := by
  refine ok_of (fd__check_count Z) sc__check_count (fun vs H Q E h => ?_) (fun _ _ _ _ _ _ us hl => match us, hl with | [_, _], _ => rfl) (fun cdv A outer s H vs Q E hr h => ?_)
  · obtain ⟨_, _, rfl, _⟩ := h
    rfl
  · subst hP
    obtain ⟨c, m, rfl, hin, hout⟩ := h
    refine ⟨_, (pss_one (ps_if (pt_not (pt_chain op_le op_le pe_int (pv 0) (pv 1))) (pss_one (ps_raise rfl (takes_of rfl rfl rfl rfl) (ExS.pmk_e0 (xe_BadLattice Z) (g_BadLattice Z) (f_super Z) top_super hr))) pss_nil)), ?_⟩
    by_cases h1 : 1 ≤ c
    · by_cases h2 : c ≤ m
      · refine ⟨_, rfl, _, _, rfl, rfl, _, rfl, ?_⟩
        rw [decide_eq_true h1]
        refine iteT ⟨_, rfl, _, _, rfl, rfl, _, rfl, ?_⟩
        rw [decide_eq_true h2]
        exact iteF (hin ⟨h1, h2⟩)
      · refine ⟨_, rfl, _, _, rfl, rfl, _, rfl, ?_⟩
        rw [decide_eq_true h1]
        refine iteT ⟨_, rfl, _, _, rfl, rfl, _, rfl, ?_⟩
        rw [decide_eq_false h2]
        exact iteT (hout fun q => h2 q.2)
    · refine ⟨_, rfl, _, _, rfl, rfl, _, rfl, ?_⟩
      rw [decide_eq_false h1]
      exact iteF ⟨_, rfl, iteT (hout fun q => h1 q.1)⟩
end
end Lk03

set_option maxHeartbeats 4000000
namespace Lk03
open PySem PySem.Spec PyProof.Rows L2 He HkS Bs
/-- the attributes of a lattice that keeps its names in a list -/
def LatFs (l : Addr) (lb : Str) (n : Int) : List (Str × V) := [("_names", .ref l), ("label", .str lb), ("size", .int n), ("bottom_at", .int 0), ("top_at", .int (n - 1))]
theorem put_fs (l : Addr) (lb : Str) (n : Int) : putF "top_at" (.int (n - 1)) (putF "bottom_at" (.int 0) (putF "size" (.int n) (putF "label" (.str lb) (putF "_names" (.ref l) [])))) = LatFs l lb n := by
  kernel_rfl
def chainNames (c : Nat) : List Str := (List.range c).map fun i => (toString ((i : Nat) : Int) : String)
def chainLabel (c : Int) : Str := Str.ofString "(chain " ++ (toString c : String) ++ Str.ofString ")"
def setNames (c : Nat) : List Str := (List.range (2 ^ c)).map fun a => Txt.zfill (Fb.binT a) c
def setLabel (c : Int) : Str := Str.ofString "(sets " ++ (toString c : String) ++ Str.ofString ")"
def setIrr (n : Nat) : List Int := ((List.range (n - 1)).map fun i => (1 : Int) + (i : Nat)).filter fun z => decide (V.int (Builtin.bitAnd z (z - 1)) = V.int 0)
theorem emp_app (a : Str) : Str.empty ++ a = a := by
  show (⟨#[] ++ a.cps⟩ : Str) = a
  rw [Array.empty_append]
theorem app_len (a b : Str) : (a ++ b).length = a.length + b.length := by
  show (a.cps ++ b.cps).size = _
  rw [Array.size_append]
  rfl
theorem num_len {i : Int} (h : i.natAbs.log2 < 1920) : ((toString i : String) : Str).length ≤ 1921 := int_text_len_1921 h
theorem log_small {i : Int} (h0 : 0 ≤ i) (h1 : i ≤ 1000000) : i.natAbs.log2 < 1920 := by
  have h : i.natAbs < 2 ^ 20 := by omega
  by_cases z : i.natAbs = 0
  · rw [z]
    decide
  · exact Nat.lt_of_lt_of_le ((Nat.log2_lt z).mpr h) (by decide)
theorem small_of {n : Nat} (h : n ≤ 100000) : n ≤ sizeLine := by rw [sizeLine_eq]; omega
section
variable {P : Program} {w : World} {K : PySem.W.Frag} {mg : Str → Option Value} {base : Heap}
theorem lc_ChainLattice (Z : Ctx K mg) : LatCls K (ga K "ChainLattice") := ⟨c_ChainLattice Z, n_ChainLattice_label Z, n_ChainLattice_size Z, n_ChainLattice_bottom_at Z, n_ChainLattice_top_at Z⟩
theorem lc_SetLattice (Z : Ctx K mg) : LatCls K (ga K "SetLattice") := ⟨c_SetLattice Z, n_SetLattice_label Z, n_SetLattice_size Z, n_SetLattice_bottom_at Z, n_SetLattice_top_at Z⟩
def sp_made (K : PySem.W.Frag) (C : Addr) (m : Int) (nms : Nat → List Str) (lab : Int → Str) (sz : Nat → Int) : Sp := fun vs H Q E => ∃ (p dx : Addr) (c : Int), vs = [.ref p, .int c] ∧ H p = some (.ins C dx []) ∧
  (∀ (n : Nat) (l : Addr) (H' : Hp), c = n → 1 ≤ n → c ≤ m → H l = none → H' l = some (.lst ((nms n).map V.str)) → H' p = some (.ins C dx (LatFs l (lab c) (sz n))) → (∀ b o, H b = some o → b ≠ p → H' b = some o) → Q .non H') ∧
  (¬ (1 ≤ c ∧ c ≤ m) → E (.ref (ga K "BadLattice")) none H)
theorem sc_ChainLattice___init__ : FnScope ["self", "count", "place"] ["self", "count"] (defScope s_ChainLattice___init__) := ⟨rfl, rfl, rfl, by decide +kernel, rfl, by decide +kernel, by decide +kernel⟩
theorem ok_ChainLattice___init__ (Z : Ctx K mg)  (hP : P = PG) : Ok P w K mg base (4) (ma K (ga K "ChainLattice") "__init__") ["self", "count"] (sp_made K (ga K "ChainLattice") 64 chainNames chainLabel fun n => n) := by
  refine ok_of (fd_ChainLattice___init__ Z) sc_ChainLattice___init__ (fun vs H Q E h => ?_) (fun _ _ _ _ _ _ us hl => match us, hl with | [_, _], _ => rfl) (fun cdv A outer s H vs Q E hr h => ?_)
  · obtain ⟨_, _, _, rfl, _⟩ := h
    rfl
  · obtain ⟨p, dx, c, rfl, hp, k, kE⟩ := h
    have ok__check_count := ok__check_count (w := w) (base := base) (mg := mg) (K := K) (P := P)
    obtain ⟨_, h__MOST_VALUES⟩ := i__MOST_VALUES Z
    refine ⟨_, (pss_cons (ps_expr (pe_cO (ok__check_count Z hP) (hr.mono (by decide)) (g__check_count Z) (passes_call (takes_of rfl rfl rfl rfl) (fun _ _ _ _ h => h)) (pa_cons (pv 1) (pa_cons (pe_glob (v := .int 64) (by rfl) h__MOST_VALUES ⟨_, rfl⟩) pa_nil))))
      (pss_cons (ps_fld (pv 0) (pe_lc (own := [("place", 2)]) (g := gName 2) (tt := tYes) rfl sc_ChainLattice___init__.nd (pi_range1 (by rfl) (f_range Z) (pa_cons (pv 1) pa_nil)) (blkOk_by (N := ["self", "count", "place"]) (sc := defScope s_ChainLattice___init__) (by decide +kernel)) (fun _ _ _ _ _ => (pg_n 2 sc_ChainLattice___init__.nd)) (fun _ _ _ _ _ => pts_nil) (fun _ _ _ _ _ => (pe_callTy call_str_int (by rfl) (f_str Z) (by decide +kernel) (pa_cons (pv 2) pa_nil)))) rfl)
      (pss_one (ps_expr (pe_clsO (cm_Lattice___init__ Z) (g_Lattice Z) (ok_Lattice___init__ Z) (hr.mono (by decide)) (passes_call (takes_of rfl rfl rfl rfl) (fun _ _ _ _ h => h)) (pa_cons (pv 0) (pa_cons (pe_joined (.cons pe_str (.cons (pe_fmt (pv 1)) (.cons pe_str .nil)))) (pa_cons (pv 1) (pa_cons pe_int (pa_cons (pe_op op_sub (pv 1) pe_int) pa_nil)))))))))), ?_⟩
    refine ⟨_, rfl, c, 64, rfl, fun hc => ?_, fun hc => kE hc⟩
    obtain ⟨n, rfl⟩ : ∃ n : Nat, c = n := ⟨c.toNat, by omega⟩
    refine ⟨_, rfl, _, rfl, by omega, by omega, fun D hD => ?_⟩
    rw [show ((n : Nat) : Int).toNat = n by omega]
    have npD : p ≠ D := ne_of_none hp hD
    refine lc_range (lo := 0) (n := n) (fun i H2 => Same H H2 ∧ H2 D = some (.lst ((chainNames i).map V.str))) ⟨Same.new hD, upd_same⟩ ?_ ?_
    · rintro i H2 hi ⟨sm, hd⟩
      refine ⟨rfl, ?_⟩
      refine ⟨_, rfl, _, rfl, log_small (by omega) (by omega), _, hd, ?_, ?_, ?_⟩
      · rw [List.length_map]
        unfold chainNames
        rw [List.length_map, List.length_range]
        exact small1000 (by omega)
      · intro b o e
        rw [upd_ne (ne_of_none e hD)]
        exact sm b o e
      · rw [upd_same]
        unfold chainNames
        rw [List.range_succ, List.map_append, List.map_append]
        have e : (0 : Int) + (i : Nat) = (i : Nat) := by omega
        rw [e]
        rfl
    · rintro H2 ⟨sm, hd⟩
      have hp2 : H2 p = some (.ins (ga K "ChainLattice") dx []) := sm _ _ hp
      refine ⟨_, rfl, p, _, dx, _, rfl, hp2, c_ChainLattice Z, n_ChainLattice__names Z, (by show 0 < 1000; decide), ?_⟩
      have l1 := num_len (i := (n : Nat)) (log_small (by omega) (by omega))
      refine ⟨_, rfl, ?_⟩
      refine ⟨_, rfl, ?_, _, rfl, .inr ⟨_, rfl, log_small (by omega) (by omega), _, rfl, ?_, _, rfl, ?_, ?_⟩⟩
      · exact small_of (by decide +kernel)
      · rw [app_len, app_len]
        exact small_of (by have : (Str.ofString "(chain ").length ≤ 10 := by decide +kernel
                           have : Str.empty.length = 0 := rfl
                           omega)
      · rw [app_len, app_len, app_len]
        exact small_of (by have : (Str.ofString "(chain ").length ≤ 10 := by decide +kernel
                           have : (Str.ofString ")").length ≤ 10 := by decide +kernel
                           have : Str.empty.length = 0 := rfl
                           omega)
      · refine ⟨_, rfl, _, rfl, _, _, rfl, rfl, p, _, _, _, _, _, dx, _, rfl, upd_same, (by show 1 ≤ 900; decide), lc_ChainLattice Z, ?_⟩
        rw [emp_app, upd_upd]
        have e1 := put_fs D (chainLabel (n : Nat)) (n : Nat)
        refine k n D _ rfl (by omega) (by omega) hD ?_ ?_ fun b o e hb => ?_
        · rw [upd_ne (Ne.symm npD)]
          exact hd
        · rw [upd_same]
          exact congrArg (fun q => some (HO.ins _ dx q)) e1
        · rw [upd_ne hb]
          exact sm b o e
theorem sc_SetLattice___init__ : FnScope ["self", "count", "size", "place"] ["self", "count"] (defScope s_SetLattice___init__) := ⟨rfl, rfl, rfl, by decide +kernel, rfl, by decide +kernel, by decide +kernel⟩
theorem ok_SetLattice___init__ (Z : Ctx K mg)  (hP : P = PG) : Ok P w K mg base (4) (ma K (ga K "SetLattice") "__init__") ["self", "count"] (sp_made K (ga K "SetLattice") 6 setNames setLabel fun n => ((2 ^ n : Nat) : Int)) := by
  refine ok_of (fd_SetLattice___init__ Z) sc_SetLattice___init__ (fun vs H Q E h => ?_) (fun _ _ _ _ _ _ us hl => match us, hl with | [_, _], _ => rfl) (fun cdv A outer s H vs Q E hr h => ?_)
  · obtain ⟨_, _, _, rfl, _⟩ := h
    rfl
  · obtain ⟨p, dx, c, rfl, hp, k, kE⟩ := h
    have ok__check_count := ok__check_count (w := w) (base := base) (mg := mg) (K := K) (P := P)
    obtain ⟨_, h__MOST_MARKS⟩ := i__MOST_MARKS Z
    refine ⟨_, (pss_cons (ps_expr (pe_cO (ok__check_count Z hP) (hr.mono (by decide)) (g__check_count Z) (passes_call (takes_of rfl rfl rfl rfl) (fun _ _ _ _ h => h)) (pa_cons (pv 1) (pa_cons (pe_glob (v := .int 6) (by rfl) h__MOST_MARKS ⟨_, rfl⟩) pa_nil))))
      (pss_cons (ps_s 2 sc_SetLattice___init__.nd (pe_op op_shl pe_int (pv 1)))
      (pss_cons (ps_fld (pv 0) (pe_lc (own := [("place", 3)]) (g := gName 3) (tt := tYes) rfl sc_SetLattice___init__.nd (pi_range1 (by rfl) (f_range Z) (pa_cons (pv 2) pa_nil)) (blkOk_by (N := ["self", "count", "size", "place"]) (sc := defScope s_SetLattice___init__) (by decide +kernel)) (fun _ _ _ _ _ => (pg_n 3 sc_SetLattice___init__.nd)) (fun _ _ _ _ _ => pts_nil) (fun _ _ _ _ _ => (bmQ PySem.F.plainAttrs_str PySem.F.slot_str_zfill PySem.F.type_str_zfill mt_zfill (pe_joined1 (Fb.pe_fmtB (pv 3))) (pa_cons (pv 1) pa_nil)))) rfl)
      (pss_one (ps_expr (pe_clsO (cm_Lattice___init__ Z) (g_Lattice Z) (ok_Lattice___init__ Z) (hr.mono (by decide)) (passes_call (takes_of rfl rfl rfl rfl) (fun _ _ _ _ h => h)) (pa_cons (pv 0) (pa_cons (pe_joined (.cons pe_str (.cons (pe_fmt (pv 1)) (.cons pe_str .nil)))) (pa_cons (pv 2) (pa_cons pe_int (pa_cons (pe_op op_sub (pv 2) pe_int) pa_nil))))))))))), ?_⟩
    refine ⟨_, rfl, c, 6, rfl, fun hc => ?_, fun hc => kE hc⟩
    obtain ⟨n, rfl⟩ : ∃ n : Nat, c = n := ⟨c.toNat, by omega⟩
    have hn : n = 1 ∨ n = 2 ∨ n = 3 ∨ n = 4 ∨ n = 5 ∨ n = 6 := by omega
    have hpow : 2 ^ n ≤ 64 ∧ 1 ≤ 2 ^ n := by rcases hn with rfl | rfl | rfl | rfl | rfl | rfl <;> decide
    have esz : (1 : Int) * 2 ^ ((n : Nat) : Int).toNat = ((2 ^ n : Nat) : Int) := by
      rcases hn with rfl | rfl | rfl | rfl | rfl | rfl <;> decide
    refine ⟨_, rfl, _, _, rfl, rfl, ⟨by omega, by omega, by decide⟩, ?_⟩
    show tSeq _ _ _ [some (V.ref p), some (V.int (n : Nat)), some (V.int (1 * 2 ^ ((n : Nat) : Int).toNat)), none] H
    rw [esz]
    refine ⟨_, rfl, _, rfl, by omega, by omega, fun D hD => ?_⟩
    rw [show ((2 ^ n : Nat) : Int).toNat = 2 ^ n by omega]
    have npD : p ≠ D := ne_of_none hp hD
    refine lc_range (lo := 0) (n := 2 ^ n) (fun i H2 => Same H H2 ∧ H2 D = some (.lst (((List.range i).map fun a => Txt.zfill (Fb.binT a) n).map V.str))) ⟨Same.new hD, upd_same⟩ ?_ ?_
    · rintro i H2 hi ⟨sm, hd⟩
      refine ⟨rfl, ?_⟩
      refine ⟨_, rfl, i, (by show V.int (0 + (i : Nat)) = V.int (i : Nat); rw [show (0 : Int) + (i : Nat) = (i : Nat) by omega]), by omega, rfl, _, rfl, _, _, rfl, rfl, ?_, _, hd, ?_, ?_, ?_⟩
      · rcases hn with rfl | rfl | rfl | rfl | rfl | rfl <;> rfl
      · rw [List.length_map, List.length_map, List.length_range]
        exact small1000 (by omega)
      · intro b o e
        rw [upd_ne (ne_of_none e hD)]
        exact sm b o e
      · rw [upd_same, List.range_succ, List.map_append, List.map_append]
        rfl
    · rintro H2 ⟨sm, hd⟩
      have hp2 : H2 p = some (.ins (ga K "SetLattice") dx []) := sm _ _ hp
      refine ⟨_, rfl, p, _, dx, _, rfl, hp2, c_SetLattice Z, n_SetLattice__names Z, (by show 0 < 1000; decide), ?_⟩
      have l1 := num_len (i := (n : Nat)) (log_small (by omega) (by omega))
      refine ⟨_, rfl, ?_⟩
      refine ⟨_, rfl, ?_, _, rfl, .inr ⟨_, rfl, log_small (by omega) (by omega), _, rfl, ?_, _, rfl, ?_, ?_⟩⟩
      · exact small_of (by decide +kernel)
      · rw [app_len, app_len]
        exact small_of (by have : (Str.ofString "(sets ").length ≤ 10 := by decide +kernel
                           have : Str.empty.length = 0 := rfl
                           omega)
      · rw [app_len, app_len, app_len]
        exact small_of (by have : (Str.ofString "(sets ").length ≤ 10 := by decide +kernel
                           have : (Str.ofString ")").length ≤ 10 := by decide +kernel
                           have : Str.empty.length = 0 := rfl
                           omega)
      · refine ⟨_, rfl, _, rfl, _, _, rfl, rfl, p, _, _, _, _, _, dx, _, rfl, upd_same, (by show 1 ≤ 900; decide), lc_SetLattice Z, ?_⟩
        rw [emp_app, upd_upd]
        have e1 := put_fs D (setLabel (n : Nat)) ((2 ^ n : Nat) : Int)
        refine k n D _ rfl (by omega) (by omega) hD ?_ ?_ fun b o e hb => ?_
        · rw [upd_ne (Ne.symm npD)]
          exact hd
        · rw [upd_same]
          exact congrArg (fun q => some (HO.ins _ dx q)) e1
        · rw [upd_ne hb]
          exact sm b o e
/-! ### the methods -/
def sp_le : Sp := fun vs H Q _ => ∃ (x : V) (a b : Int), vs = [x, .int a, .int b] ∧ Q (.bl (decide (a ≤ b))) H
theorem sc_ChainLattice_within_at : FnScope ["self", "first", "second"] ["self", "first", "second"] (defScope s_ChainLattice_within_at) := ⟨rfl, rfl, rfl, by decide +kernel, rfl, by decide +kernel, by decide +kernel⟩
theorem ok_ChainLattice_within_at (Z : Ctx K mg)  : Ok P w K mg base (2) (ma K (ga K "ChainLattice") "within_at") ["self", "first", "second"] (sp_le) := by
  refine ok_of (fd_ChainLattice_within_at Z) sc_ChainLattice_within_at (fun vs H Q E h => ?_) (fun _ _ _ _ _ _ us hl => match us, hl with | [_, _, _], _ => rfl) (fun cdv A outer s H vs Q E hr h => ?_)
  · obtain ⟨_, _, _, rfl, _⟩ := h
    rfl
  · obtain ⟨x, a, b, rfl, k⟩ := h
    refine ⟨_, (pss_one (ps_ret (pe_cmpR op_le (pv 1) (pv 2) (nomark _)))), ?_⟩
    exact ⟨_, rfl, _, rfl, _, _, rfl, rfl, k⟩
def sp_jn : Sp := fun vs H Q _ => ∃ (x : V) (a b : Int), vs = [x, .int a, .int b] ∧ Q (.int (if a ≤ b then b else a)) H
theorem sc_ChainLattice_join_at : FnScope ["self", "first", "second"] ["self", "first", "second"] (defScope s_ChainLattice_join_at) := ⟨rfl, rfl, rfl, by decide +kernel, rfl, by decide +kernel, by decide +kernel⟩
theorem ok_ChainLattice_join_at (Z : Ctx K mg)  : Ok P w K mg base (2) (ma K (ga K "ChainLattice") "join_at") ["self", "first", "second"] (sp_jn) := by
  refine ok_of (fd_ChainLattice_join_at Z) sc_ChainLattice_join_at (fun vs H Q E h => ?_) (fun _ _ _ _ _ _ us hl => match us, hl with | [_, _, _], _ => rfl) (fun cdv A outer s H vs Q E hr h => ?_)
  · obtain ⟨_, _, _, rfl, _⟩ := h
    rfl
  · obtain ⟨x, a, b, rfl, k⟩ := h
    refine ⟨_, (pss_one (ps_ret (pe_ifExp (pt_cmpR op_le (pv 1) (pv 2) (nomark _)) (pv 2) (pv 1)))), ?_⟩
    refine ⟨_, rfl, _, rfl, _, _, rfl, rfl, _, rfl, ?_⟩
    by_cases c : a ≤ b
    · rw [if_pos c] at k
      rw [decide_eq_true c]
      exact iteT ⟨_, rfl, k⟩
    · rw [if_neg c] at k
      rw [decide_eq_false c]
      exact iteF ⟨_, rfl, k⟩
def sp_mt : Sp := fun vs H Q _ => ∃ (x : V) (a b : Int), vs = [x, .int a, .int b] ∧ Q (.int (if a ≤ b then a else b)) H
theorem sc_ChainLattice_meet_at : FnScope ["self", "first", "second"] ["self", "first", "second"] (defScope s_ChainLattice_meet_at) := ⟨rfl, rfl, rfl, by decide +kernel, rfl, by decide +kernel, by decide +kernel⟩
theorem ok_ChainLattice_meet_at (Z : Ctx K mg)  : Ok P w K mg base (2) (ma K (ga K "ChainLattice") "meet_at") ["self", "first", "second"] (sp_mt) := by
  refine ok_of (fd_ChainLattice_meet_at Z) sc_ChainLattice_meet_at (fun vs H Q E h => ?_) (fun _ _ _ _ _ _ us hl => match us, hl with | [_, _, _], _ => rfl) (fun cdv A outer s H vs Q E hr h => ?_)
  · obtain ⟨_, _, _, rfl, _⟩ := h
    rfl
  · obtain ⟨x, a, b, rfl, k⟩ := h
    refine ⟨_, (pss_one (ps_ret (pe_ifExp (pt_cmpR op_le (pv 1) (pv 2) (nomark _)) (pv 1) (pv 2)))), ?_⟩
    refine ⟨_, rfl, _, rfl, _, _, rfl, rfl, _, rfl, ?_⟩
    by_cases c : a ≤ b
    · rw [if_pos c] at k
      rw [decide_eq_true c]
      exact iteT ⟨_, rfl, k⟩
    · rw [if_neg c] at k
      rw [decide_eq_false c]
      exact iteF ⟨_, rfl, k⟩
def sp_sle : Sp := fun vs H Q _ => ∃ (x : V) (a b : Int), vs = [x, .int a, .int b] ∧ Q (.bl (decide (V.int (Builtin.bitAnd a b) = V.int a))) H
theorem sc_SetLattice_within_at : FnScope ["self", "first", "second"] ["self", "first", "second"] (defScope s_SetLattice_within_at) := ⟨rfl, rfl, rfl, by decide +kernel, rfl, by decide +kernel, by decide +kernel⟩
theorem ok_SetLattice_within_at (Z : Ctx K mg)  : Ok P w K mg base (2) (ma K (ga K "SetLattice") "within_at") ["self", "first", "second"] (sp_sle) := by
  refine ok_of (fd_SetLattice_within_at Z) sc_SetLattice_within_at (fun vs H Q E h => ?_) (fun _ _ _ _ _ _ us hl => match us, hl with | [_, _, _], _ => rfl) (fun cdv A outer s H vs Q E hr h => ?_)
  · obtain ⟨_, _, _, rfl, _⟩ := h
    rfl
  · obtain ⟨x, a, b, rfl, k⟩ := h
    refine ⟨_, (pss_one (ps_ret (pe_cmpR op_eq (pe_op op_and (pv 1) (pv 2)) (pv 1) (nomark _)))), ?_⟩
    exact ⟨_, rfl, _, rfl, _, _, rfl, rfl, _, rfl, rfl, k⟩
def sp_sjn : Sp := fun vs H Q _ => ∃ (x : V) (a b : Int), vs = [x, .int a, .int b] ∧ Q (.int (Builtin.bitOr a b)) H
theorem sc_SetLattice_join_at : FnScope ["self", "first", "second"] ["self", "first", "second"] (defScope s_SetLattice_join_at) := ⟨rfl, rfl, rfl, by decide +kernel, rfl, by decide +kernel, by decide +kernel⟩
theorem ok_SetLattice_join_at (Z : Ctx K mg)  : Ok P w K mg base (2) (ma K (ga K "SetLattice") "join_at") ["self", "first", "second"] (sp_sjn) := by
  refine ok_of (fd_SetLattice_join_at Z) sc_SetLattice_join_at (fun vs H Q E h => ?_) (fun _ _ _ _ _ _ us hl => match us, hl with | [_, _, _], _ => rfl) (fun cdv A outer s H vs Q E hr h => ?_)
  · obtain ⟨_, _, _, rfl, _⟩ := h
    rfl
  · obtain ⟨x, a, b, rfl, k⟩ := h
    refine ⟨_, (pss_one (ps_ret (pe_op op_or (pv 1) (pv 2)))), ?_⟩
    exact ⟨_, rfl, _, rfl, _, _, rfl, rfl, k⟩
def sp_smt : Sp := fun vs H Q _ => ∃ (x : V) (a b : Int), vs = [x, .int a, .int b] ∧ Q (.int (Builtin.bitAnd a b)) H
theorem sc_SetLattice_meet_at : FnScope ["self", "first", "second"] ["self", "first", "second"] (defScope s_SetLattice_meet_at) := ⟨rfl, rfl, rfl, by decide +kernel, rfl, by decide +kernel, by decide +kernel⟩
theorem ok_SetLattice_meet_at (Z : Ctx K mg)  : Ok P w K mg base (2) (ma K (ga K "SetLattice") "meet_at") ["self", "first", "second"] (sp_smt) := by
  refine ok_of (fd_SetLattice_meet_at Z) sc_SetLattice_meet_at (fun vs H Q E h => ?_) (fun _ _ _ _ _ _ us hl => match us, hl with | [_, _, _], _ => rfl) (fun cdv A outer s H vs Q E hr h => ?_)
  · obtain ⟨_, _, _, rfl, _⟩ := h
    rfl
  · obtain ⟨x, a, b, rfl, k⟩ := h
    refine ⟨_, (pss_one (ps_ret (pe_op op_and (pv 1) (pv 2)))), ?_⟩
    exact ⟨_, rfl, _, rfl, _, _, rfl, rfl, k⟩
/-- names by place, of an object that keeps them in a list -/
def sp_name_at (K : PySem.W.Frag) : Sp := fun vs H Q _ => ∃ (p : Addr) (a : Int) (C dx : Addr) (fs : List (Str × V)) (l : Addr) (ns : List Str) (s : Str), vs = [.ref p, .int a] ∧ H p = some (.ins C dx fs) ∧ Cls K C ∧ NoAttr K C "_names" ∧ fs.lookup ("_names" : Str) = some (.ref l) ∧
  SqL K H l (ns.map V.str) ∧ 0 ≤ a ∧ ns[a.toNat]? = some s ∧ Q (.str s) H
theorem at_strs {ns : List Str} {a : Int} {s : Str} (h0 : 0 ≤ a) (h : ns[a.toNat]? = some s) : atI (ns.map V.str) a = some (.str s) :=
  at_of (j := a.toNat) (by omega) (by rw [List.getElem?_map, h]; rfl)
theorem sc_ChainLattice_name_at : FnScope ["self", "place"] ["self", "place"] (defScope s_ChainLattice_name_at) := ⟨rfl, rfl, rfl, by decide +kernel, rfl, by decide +kernel, by decide +kernel⟩
theorem ok_ChainLattice_name_at (Z : Ctx K mg)  : Ok P w K mg base (2) (ma K (ga K "ChainLattice") "name_at") ["self", "place"] (sp_name_at K) := by
  refine ok_of (fd_ChainLattice_name_at Z) sc_ChainLattice_name_at (fun vs H Q E h => ?_) (fun _ _ _ _ _ _ us hl => match us, hl with | [_, _], _ => rfl) (fun cdv A outer s H vs Q E hr h => ?_)
  · obtain ⟨_, _, _, _, _, _, _, _, rfl, _⟩ := h
    rfl
  · obtain ⟨p, a, C, dx, fs, l, ns, s, rfl, hp, c, n, e, hS, h0, hs, k⟩ := h
    refine ⟨_, (pss_one (ps_ret (pe_ix ixL (fldQ (pv 0)) (pv 1) (fun _ _ => rfl)))), ?_⟩
    exact ⟨_, rfl, p, C, dx, fs, _, rfl, hp, c, n, e, _, rfl, _, _, _, _, rfl, rfl, hS, at_strs h0 hs, k⟩
theorem sc_SetLattice_name_at : FnScope ["self", "place"] ["self", "place"] (defScope s_SetLattice_name_at) := ⟨rfl, rfl, rfl, by decide +kernel, rfl, by decide +kernel, by decide +kernel⟩
theorem ok_SetLattice_name_at (Z : Ctx K mg)  : Ok P w K mg base (2) (ma K (ga K "SetLattice") "name_at") ["self", "place"] (sp_name_at K) := by
  refine ok_of (fd_SetLattice_name_at Z) sc_SetLattice_name_at (fun vs H Q E h => ?_) (fun _ _ _ _ _ _ us hl => match us, hl with | [_, _], _ => rfl) (fun cdv A outer s H vs Q E hr h => ?_)
  · obtain ⟨_, _, _, _, _, _, _, _, rfl, _⟩ := h
    rfl
  · obtain ⟨p, a, C, dx, fs, l, ns, s, rfl, hp, c, n, e, hS, h0, hs, k⟩ := h
    refine ⟨_, (pss_one (ps_ret (pe_ix ixL (fldQ (pv 0)) (pv 1) (fun _ _ => rfl)))), ?_⟩
    exact ⟨_, rfl, p, C, dx, fs, _, rfl, hp, c, n, e, _, rfl, _, _, _, _, rfl, rfl, hS, at_strs h0 hs, k⟩
def sp_at_name (K : PySem.W.Frag) : Sp := fun vs H Q E => ∃ (p : Addr) (s : Str) (C dx : Addr) (fs : List (Str × V)) (l : Addr) (ns : List Str), vs = [.ref p, .str s] ∧ H p = some (.ins C dx fs) ∧ Cls K C ∧ NoAttr K C "_names" ∧ fs.lookup ("_names" : Str) = some (.ref l) ∧
  SqL K H l (ns.map V.str) ∧ ns.Nodup ∧ ns.length ≤ 1000 ∧ (reprText s).length ≤ 100000 ∧ (∀ j : Nat, ns[j]? = some s → Q (.int j) H) ∧ (s ∉ ns → ∀ d, H d = none → E (.ref (ga K "UnknownValue")) (some d) (upd H d (.xd [("name", .str s)])))
theorem sc_ChainLattice_at_name : FnScope ["self", "name"] ["self", "name"] (defScope s_ChainLattice_at_name) := ⟨rfl, rfl, rfl, by decide +kernel, rfl, by decide +kernel, by decide +kernel⟩
theorem ok_ChainLattice_at_name (Z : Ctx K mg)  (hP : P = PG) : Ok P w K mg base (3) (ma K (ga K "ChainLattice") "at_name") ["self", "name"] (sp_at_name K) := by
  refine ok_of (fd_ChainLattice_at_name Z) sc_ChainLattice_at_name (fun vs H Q E h => ?_) (fun _ _ _ _ _ _ us hl => match us, hl with | [_, _], _ => rfl) (fun cdv A outer s H vs Q E hr h => ?_)
  · obtain ⟨_, _, _, _, _, _, _, rfl, _⟩ := h
    rfl
  · obtain ⟨p, s, C, dx, fs, l, ns, rfl, hp, c, n, e, hS, nd, hl, hz, kin, kout⟩ := h
    have ok_place_of := ok_place_of (w := w) (base := base) (mg := mg) (K := K) (P := P)
    refine ⟨_, (pss_one (ps_ret (pe_cO (ok_place_of Z hP) (hr.mono (by decide)) (g_place_of Z) (passes_call (takes_of rfl rfl rfl rfl) (fun _ _ _ _ h => h)) (pa_cons (fldQ (pv 0)) (pa_cons (pv 1) pa_nil))))), ?_⟩
    exact ⟨_, rfl, p, C, dx, fs, _, rfl, hp, c, n, e, _, rfl, l, ns, s, rfl, hS, nd, hl, hz, kin, kout⟩
theorem sc_SetLattice_at_name : FnScope ["self", "name"] ["self", "name"] (defScope s_SetLattice_at_name) := ⟨rfl, rfl, rfl, by decide +kernel, rfl, by decide +kernel, by decide +kernel⟩
theorem ok_SetLattice_at_name (Z : Ctx K mg)  (hP : P = PG) : Ok P w K mg base (3) (ma K (ga K "SetLattice") "at_name") ["self", "name"] (sp_at_name K) := by
  refine ok_of (fd_SetLattice_at_name Z) sc_SetLattice_at_name (fun vs H Q E h => ?_) (fun _ _ _ _ _ _ us hl => match us, hl with | [_, _], _ => rfl) (fun cdv A outer s H vs Q E hr h => ?_)
  · obtain ⟨_, _, _, _, _, _, _, rfl, _⟩ := h
    rfl
  · obtain ⟨p, s, C, dx, fs, l, ns, rfl, hp, c, n, e, hS, nd, hl, hz, kin, kout⟩ := h
    have ok_place_of := ok_place_of (w := w) (base := base) (mg := mg) (K := K) (P := P)
    refine ⟨_, (pss_one (ps_ret (pe_cO (ok_place_of Z hP) (hr.mono (by decide)) (g_place_of Z) (passes_call (takes_of rfl rfl rfl rfl) (fun _ _ _ _ h => h)) (pa_cons (fldQ (pv 0)) (pa_cons (pv 1) pa_nil))))), ?_⟩
    exact ⟨_, rfl, p, C, dx, fs, _, rfl, hp, c, n, e, _, rfl, l, ns, s, rfl, hS, nd, hl, hz, kin, kout⟩
def sp_irr (K : PySem.W.Frag) (irr : Nat → List Int) : Sp := fun vs H Q _ => ∃ (p : Addr) (C dx : Addr) (fs : List (Str × V)) (n : Nat), vs = [.ref p] ∧ H p = some (.ins C dx fs) ∧ Cls K C ∧ NoAttr K C "size" ∧ fs.lookup ("size" : Str) = some (.int n) ∧ 1 ≤ n ∧ n ≤ 64 ∧
  ∀ q H', Same H H' → H q = none → H' q = some (.lst ((irr n).map V.int)) → Q (.ref q) H'
def chainIrr (n : Nat) : List Int := (List.range (n - 1)).map fun i => (1 : Int) + (i : Nat)
theorem sc_ChainLattice_irreducibles : FnScope ["self"] ["self"] (defScope s_ChainLattice_irreducibles) := ⟨rfl, rfl, rfl, by decide +kernel, rfl, by decide +kernel, by decide +kernel⟩
theorem ok_ChainLattice_irreducibles (Z : Ctx K mg)  : Ok P w K mg base (2) (ma K (ga K "ChainLattice") "irreducibles") ["self"] (sp_irr K chainIrr) := by
  refine ok_of (fd_ChainLattice_irreducibles Z) sc_ChainLattice_irreducibles (fun vs H Q E h => ?_) (fun _ _ _ _ _ _ us hl => match us, hl with | [_], _ => rfl) (fun cdv A outer s H vs Q E hr h => ?_)
  · obtain ⟨_, _, _, _, _, rfl, _⟩ := h
    rfl
  · obtain ⟨p, C, dx, fs, n, rfl, hp, c, nn, e, h1, h64, k⟩ := h
    refine ⟨_, (pss_one (ps_ret (pe_listRg rfl (by rfl) (f_list Z) (prg_2 (by rfl) (f_range Z) pe_int (fldQ (pv 0)))))), ?_⟩
    refine ⟨_, rfl, p, C, dx, fs, _, rfl, hp, c, nn, e, _, _, rfl, rfl, ⟨by decide, by decide, by omega, by omega, by omega⟩, fun q hq => ?_⟩
    refine k q _ (Same.new hq) hq ?_
    rw [upd_same]
    unfold rgV chainIrr
    rw [List.map_map, show ((n : Nat) - 1 : Int).toNat = n - 1 by omega]
    rfl
theorem sc_SetLattice_irreducibles : FnScope ["self", "place"] ["self"] (defScope s_SetLattice_irreducibles) := ⟨rfl, rfl, rfl, by decide +kernel, rfl, by decide +kernel, by decide +kernel⟩
theorem ok_SetLattice_irreducibles (Z : Ctx K mg)  : Ok P w K mg base (2) (ma K (ga K "SetLattice") "irreducibles") ["self"] (sp_irr K setIrr) := by
  refine ok_of (fd_SetLattice_irreducibles Z) sc_SetLattice_irreducibles (fun vs H Q E h => ?_) (fun _ _ _ _ _ _ us hl => match us, hl with | [_], _ => rfl) (fun cdv A outer s H vs Q E hr h => ?_)
  · obtain ⟨_, _, _, _, _, rfl, _⟩ := h
    rfl
  · obtain ⟨p, C, dx, fs, n, rfl, hp, c, nn, e, h1, h64, k⟩ := h
    refine ⟨_, (pss_one (ps_ret (pe_lc (own := [("place", 1)]) (g := gName 1) rfl sc_SetLattice_irreducibles.nd (pi_range2 (by rfl) (f_range Z) (pa_cons pe_int (pa_cons (fldQ (pv 0)) pa_nil))) (blkOk_by (N := ["self", "place"]) (sc := defScope s_SetLattice_irreducibles) (by decide +kernel)) (fun _ _ _ _ _ => (pg_n 1 sc_SetLattice_irreducibles.nd)) (fun _ _ _ _ _ => (pts_one (pt_cmpR op_eq (pe_op op_and (pv 1) (pe_op op_sub (pv 1) pe_int)) pe_int (nomark _)))) (fun _ _ _ _ _ => (pv 1))))), ?_⟩
    refine ⟨_, rfl, p, C, dx, fs, _, rfl, hp, c, nn, e, _, _, rfl, ⟨by decide, by decide, by omega, by omega⟩, fun D hD => ?_⟩
    rw [show ((n : Nat) - 1 : Int).toNat = n - 1 by omega]
    have hlen : ∀ i : Nat, i ≤ 64 → (((List.range i).map fun i => (1 : Int) + (i : Nat)).filter fun z => decide (V.int (Builtin.bitAnd z (z - 1)) = V.int 0)).length ≤ 64 := fun i hi => by
      have h := List.length_filter_le (fun z => decide (V.int (Builtin.bitAnd z (z - 1)) = V.int 0)) ((List.range i).map fun i => (1 : Int) + (i : Nat))
      rw [List.length_map, List.length_range] at h
      omega
    refine lc_range (lo := 1) (n := n - 1) (fun i H2 => Same H H2 ∧ H2 D = some (.lst ((((List.range i).map fun i => (1 : Int) + (i : Nat)).filter fun z => decide (V.int (Builtin.bitAnd z (z - 1)) = V.int 0)).map V.int))) ⟨Same.new hD, upd_same⟩ ?_ ?_
    · rintro i H2 hi ⟨sm, hd⟩
      refine ⟨rfl, _, rfl, _, rfl, _, _, rfl, rfl, _, _, rfl, rfl, rfl, _, rfl, ?_⟩
      have step : (((List.range (i + 1)).map fun i => (1 : Int) + (i : Nat)).filter fun z => decide (V.int (Builtin.bitAnd z (z - 1)) = V.int 0)) =
          (((List.range i).map fun i => (1 : Int) + (i : Nat)).filter fun z => decide (V.int (Builtin.bitAnd z (z - 1)) = V.int 0)) ++ (if decide (V.int (Builtin.bitAnd (1 + (i : Nat)) (1 + (i : Nat) - 1)) = V.int 0) = true then [(1 : Int) + (i : Nat)] else []) := by
        rw [List.range_succ, List.map_append, List.filter_append]
        simp only [List.map_cons, List.map_nil, List.filter_cons, List.filter_nil]
      refine ite2 (fun q => ?_) (fun q => ?_)
      · refine ⟨_, rfl, _, hd, ?_, ?_, ?_⟩
        · rw [List.length_map]
          exact small1000 (Nat.le_trans (hlen i (by omega)) (by decide))
        · intro b o e
          rw [upd_ne (ne_of_none e hD)]
          exact sm b o e
        · rw [upd_same, step, if_pos q, List.map_append]
          rfl
      · refine ⟨sm, ?_⟩
        rw [step, if_neg q, List.append_nil]
        exact hd
    · rintro H2 ⟨sm, hd⟩
      exact k D H2 sm hD hd
end
end Lk03

set_option maxHeartbeats 8000000
namespace Lk03
open PySem PySem.Spec PyProof.Rows L2 He HkS Bs
section
variable {P : Program} {w : World} {K : PySem.W.Frag} {mg : Str → Option Value} {base : Heap}
/-- the methods of the class at C -/
structure LatM (P : Program) (w : World) (K : PySem.W.Frag) (mg : Str → Option Value) (base : Heap) (C : Addr) (s1 s2 s3 : Sp) (irr : Nat → List Int) : Prop where
  wi : ∃ f, MD P w K mg base 6 "within_at" C f s1
  jo : ∃ f, MD P w K mg base 6 "join_at" C f s2
  me : ∃ f, MD P w K mg base 6 "meet_at" C f s3
  na : ∃ f, MD P w K mg base 6 "name_at" C f (sp_name_at K)
  an : ∃ f, MD P w K mg base 6 "at_name" C f (sp_at_name K)
  ir : ∃ f, MD P w K mg base 6 "irreducibles" C f (sp_irr K irr)
  lc : LatCls K C
  nn : NoAttr K C "_names"
theorem m_chain (Z : Ctx K mg) (hP : P = PG) : LatM P w K mg base (ga K "ChainLattice") sp_le sp_jn sp_mt chainIrr :=
  ⟨⟨_, c_ChainLattice Z, m_ChainLattice_within_at Z, _, (ok_ChainLattice_within_at Z).mono (by decide)⟩, ⟨_, c_ChainLattice Z, m_ChainLattice_join_at Z, _, (ok_ChainLattice_join_at Z).mono (by decide)⟩, ⟨_, c_ChainLattice Z, m_ChainLattice_meet_at Z, _, (ok_ChainLattice_meet_at Z).mono (by decide)⟩,
    ⟨_, c_ChainLattice Z, m_ChainLattice_name_at Z, _, (ok_ChainLattice_name_at Z).mono (by decide)⟩, ⟨_, c_ChainLattice Z, m_ChainLattice_at_name Z, _, (ok_ChainLattice_at_name Z hP).mono (by decide)⟩, ⟨_, c_ChainLattice Z, m_ChainLattice_irreducibles Z, _, (ok_ChainLattice_irreducibles Z).mono (by decide)⟩, lc_ChainLattice Z, n_ChainLattice__names Z⟩
theorem m_set (Z : Ctx K mg) (hP : P = PG) : LatM P w K mg base (ga K "SetLattice") sp_sle sp_sjn sp_smt setIrr :=
  ⟨⟨_, c_SetLattice Z, m_SetLattice_within_at Z, _, (ok_SetLattice_within_at Z).mono (by decide)⟩, ⟨_, c_SetLattice Z, m_SetLattice_join_at Z, _, (ok_SetLattice_join_at Z).mono (by decide)⟩, ⟨_, c_SetLattice Z, m_SetLattice_meet_at Z, _, (ok_SetLattice_meet_at Z).mono (by decide)⟩,
    ⟨_, c_SetLattice Z, m_SetLattice_name_at Z, _, (ok_SetLattice_name_at Z).mono (by decide)⟩, ⟨_, c_SetLattice Z, m_SetLattice_at_name Z, _, (ok_SetLattice_at_name Z hP).mono (by decide)⟩, ⟨_, c_SetLattice Z, m_SetLattice_irreducibles Z, _, (ok_SetLattice_irreducibles Z).mono (by decide)⟩, lc_SetLattice Z, n_SetLattice__names Z⟩
section
variable {l : Addr} {lb : Str} {n : Int}
theorem f_within : (LatFs l lb n).lookup ("within_at" : Str) = none := by kernel_rfl
theorem f_join : (LatFs l lb n).lookup ("join_at" : Str) = none := by kernel_rfl
theorem f_meet : (LatFs l lb n).lookup ("meet_at" : Str) = none := by kernel_rfl
theorem f_name : (LatFs l lb n).lookup ("name_at" : Str) = none := by kernel_rfl
theorem f_atn : (LatFs l lb n).lookup ("at_name" : Str) = none := by kernel_rfl
theorem f_irr : (LatFs l lb n).lookup ("irreducibles" : Str) = none := by kernel_rfl
theorem f_nms : (LatFs l lb n).lookup ("_names" : Str) = some (.ref l) := by kernel_rfl
theorem f_lab : (LatFs l lb n).lookup ("label" : Str) = some (.str lb) := by kernel_rfl
theorem f_siz : (LatFs l lb n).lookup ("size" : Str) = some (.int n) := by kernel_rfl
theorem f_bot : (LatFs l lb n).lookup ("bottom_at" : Str) = some (.int 0) := by kernel_rfl
theorem f_topp : (LatFs l lb n).lookup ("top_at" : Str) = some (.int (n - 1)) := by kernel_rfl
end
def due (s : Bool) (a b : Int) : List V := if s then [.bl (decide (V.int (Builtin.bitAnd a b) = V.int a)), .int (Builtin.bitOr a b), .int (Builtin.bitAnd a b)] else [.bl (decide (a ≤ b)), .int (if b > a then b else a), .int (if b < a then b else a)]
def sp__law_due : Sp := fun vs H Q _ => ∃ (s : Bool) (a b : Int), vs = [.bl s, .int a, .int b] ∧ ∀ q H', Same H H' → H' q = some (.lst (due s a b)) → Q (.ref q) H'
theorem sc__law_due : FnScope ["sets", "a", "b"] ["sets", "a", "b"] (defScope s__law_due) := ⟨rfl, rfl, rfl, by decide +kernel, rfl, by decide +kernel, by decide +kernel⟩
theorem ok__law_due (Z : Ctx K mg)  : Ok P w K mg base (2) (ga K "_law_due") ["sets", "a", "b"] sp__law_due := by
  refine ok_of (fd__law_due Z) sc__law_due (fun vs H Q E h => ?_) (fun _ _ _ _ _ _ us hl => match us, hl with | [_, _, _], _ => rfl) (fun cdv A outer s H vs Q E hr h => ?_)
  · obtain ⟨_, _, _, rfl, _⟩ := h
    rfl
  · obtain ⟨s, a, b, rfl, k⟩ := h
    refine ⟨_, (pss_cons (ps_if (pt_val (pv 0)) (pss_one (ps_ret (pe_lst (pa_cons (pe_cmpR op_eq (pe_op op_and (pv 1) (pv 2)) (pv 1) (nomark _)) (pa_cons (pe_op op_or (pv 1) (pv 2)) (pa_cons (pe_op op_and (pv 1) (pv 2)) pa_nil)))))) pss_nil)
      (pss_one (ps_ret (pe_lst (pa_cons (pe_cmpR op_le (pv 1) (pv 2) (nomark _)) (pa_cons (pe_callB (call_max2 rfl) (by rfl) (f_max Z) (by decide +kernel) (pa_cons (pe_callTy call_int1 (by rfl) (f_int Z) (by decide +kernel) (pa_cons (pv 1) pa_nil)) (pa_cons (pe_callTy call_int1 (by rfl) (f_int Z) (by decide +kernel) (pa_cons (pv 2) pa_nil)) pa_nil))) (pa_cons (pe_callB (call_min2 rfl) (by rfl) (f_min Z) (by decide +kernel) (pa_cons (pe_callTy call_int1 (by rfl) (f_int Z) (by decide +kernel) (pa_cons (pv 1) pa_nil)) (pa_cons (pe_callTy call_int1 (by rfl) (f_int Z) (by decide +kernel) (pa_cons (pv 2) pa_nil)) pa_nil))) pa_nil))))))), ?_⟩
    cases s with
    | true =>
      refine ⟨_, rfl, _, rfl, iteT ?_⟩
      refine ⟨_, rfl, _, rfl, _, _, rfl, rfl, _, rfl, rfl, _, rfl, _, rfl, _, _, rfl, rfl, _, rfl, _, rfl, _, _, rfl, rfl, (by show 3 ≤ sizeLine; decide), fun q hq => ?_⟩
      exact k q _ (Same.new hq) upd_same
    | false =>
      refine ⟨_, rfl, _, rfl, iteF ?_⟩
      refine ⟨_, rfl, _, rfl, _, _, rfl, rfl, _, rfl, .inl ⟨_, rfl, _, rfl, .inl ⟨_, rfl, _, _, rfl, _, rfl, .inl ⟨_, rfl, _, rfl, .inl ⟨_, rfl, _, _, rfl, (by show 3 ≤ sizeLine; decide), fun q hq => ?_⟩⟩⟩⟩⟩
      exact k q _ (Same.new hq) upd_same
def rCc : R2 := fun x y H Q => ∃ i j, x = .str i ∧ y = .str j ∧ i.length + j.length ≤ sizeLine ∧ Q (.str (i ++ j)) H
def sp__law_unknown (P : Program) (w : World) (K : PySem.W.Frag) (mg : Str → Option Value) (base : Heap) : Sp := fun vs H Q _ => ∃ (p : Addr) (wd : Str) (ln : Addr) (C dx l : Addr) (lb : Str) (n : Int) (ns : List Str) (s1 s2 s3 : Sp) (irr : Nat → List Int), vs = [.ref p, .str wd, .ref ln] ∧
  H p = some (.ins C dx (LatFs l lb n)) ∧ H l = some (.lst (ns.map V.str)) ∧ LatM P w K mg base C s1 s2 s3 irr ∧ SqL K H ln (ns.map V.str) ∧ ns.Nodup ∧ ns.length ≤ 1000 ∧ (reprText wd).length ≤ 100000 ∧ wd.length ≤ 1000 ∧ ∀ H', Same H H' → Q (.bl true) H'
theorem sc__law_unknown : FnScope ["lattice", "word", "names", "caught", "e"] ["lattice", "word", "names"] (defScope s__law_unknown) := ⟨rfl, rfl, rfl, by decide +kernel, rfl, by decide +kernel, by decide +kernel⟩
theorem ok__law_unknown (Z : Ctx K mg)  : Ok P w K mg base (7) (ga K "_law_unknown") ["lattice", "word", "names"] (sp__law_unknown P w K mg base) := by
  refine ok_of (fd__law_unknown Z) sc__law_unknown (fun vs H Q E h => ?_) (fun _ _ _ _ _ _ us hl => match us, hl with | [_, _, _], _ => rfl) (fun cdv A outer s H vs Q E hr h => ?_)
  · obtain ⟨_, _, _, _, _, _, _, _, _, _, _, _, _, rfl, _⟩ := h
    rfl
  · obtain ⟨p, wd, ln, C, dx, l, lb, n, ns, s1, s2, s3, irr, rfl, hp, hl, M, hS, nd, hln, hz, hz2, k⟩ := h
    refine ⟨_, (pss_cons (ps_if (pt_cmpR inQ (pv 1) (pv 2) (by rfl)) (pss_one (ps_ret pe_bl)) pss_nil)
      (pss_cons (ps_s 3 sc__law_unknown.nd pe_str)
      (pss_cons (ps_try_as (i := 4) (tb := fun W => tDrop (tMethD (MD P w K mg base 6 "at_name") "at_name" (WE W) (tVar 0) (tCons (tVar 1) tNil))) (ts := fun a cls d => tAsg (tOp rCc (tXf a cls d (ga K "UnknownValue") "name" (tVar 4)) (tC (.str "!"))) (gName 3)) (Wout := fun _ _ _ _ => False) rfl rfl sc__law_unknown.nd rfl rfl ⟨rfl, by decide, Or.inl (g_UnknownValue Z)⟩ takes0
        (fun W pn xe tk _ => (pss_one (ps_expr (pe_mD (D := MD P w K mg base 6 "at_name") (pv 0) (fun _ _ _ h => h) (hr.mono (by decide)) (fun σ => passAt tk σ) (pa_cons (pv 1) pa_nil)))))
        (fun a oe cls d pn hz hf => (pss_one (ps_s 3 sc__law_unknown.nd (pe_op op_add_str (pe_xf (xf_UnknownValue Z) (n_UnknownValue_name Z) hz hf (pv 4)) pe_str)))))
      (pss_one (ps_ret (pe_cmpR op_eq (pv 3) (pe_op op_add_str (pv 1) pe_str) (nomark _))))))), ?_⟩
    refine ⟨_, rfl, _, rfl, _, _, rfl, .inl hS, rfl, flat_strs ns, _, rfl, ?_⟩
    show if inV (V.str wd) (ns.map V.str) = true then _ else _
    rw [inV_strs]
    by_cases hm : wd ∈ ns
    · rw [decide_eq_true hm]
      exact iteT (k _ (Same.refl _))
    · rw [decide_eq_false hm]
      refine iteF ?_
      obtain ⟨f, md⟩ := M.an
      refine ⟨_, rfl, p, C, dx, _, f, _, rfl, hp, f_atn, md, _, rfl, p, wd, C, dx, _, l, ns, rfl, hp, M.lc.cl, M.nn, f_nms, SqL.of hl, nd, hln, hz, fun j hj => absurd (List.mem_of_getElem? hj) hm, fun _ d hd => ?_⟩
      refine ⟨true, e_UnknownValue_UnknownValue Z, fun _ a _ => ?_, fun q => Bool.noConfusion q⟩
      refine ⟨_, rfl, rfl, rfl, d, _, .str wd, rfl, upd_same, (by kernel_rfl), _, _, rfl, rfl, ?_, ?_⟩
      · exact small_of (by have : (Str.ofString "!").length ≤ 10 := by decide +kernel
                           omega)
      · refine ⟨_, rfl, _, rfl, _, _, rfl, rfl, ?_, rfl, ?_⟩
        · exact small_of (by have : (Str.ofString "!").length ≤ 10 := by decide +kernel
                             omega)
        · rw [decide_eq_true rfl]
          exact k _ (Same.new hd)
end
end Lk03

set_option maxHeartbeats 8000000
namespace Lk03
open PySem PySem.Spec PyProof.Rows L2 He HkS Bs
/-! ### the finite facts of each lattice -/
def sizeOf (s : Bool) (c : Nat) : Nat := if s then 2 ^ c else c
def namesOf (s : Bool) (c : Nat) : List Str := if s then setNames c else chainNames c
def labOf (s : Bool) (c : Nat) : Str := if s then setLabel c else chainLabel c
def irrOf (s : Bool) : Nat → List Int := if s then setIrr else chainIrr
def bitsOf (c : Nat) (a : Int) : Str := Txt.join Str.empty ((List.range c).map fun j => (toString (a / 2 ^ (((c : Nat) : Int) - 1 - ((j : Nat) : Int)).toNat % 2) : String))
def nameOf (s : Bool) (c : Nat) (a : Nat) : Str := if s then bitsOf c a else (toString ((a : Nat) : Int) : String)
def piecesOf (s : Bool) (c : Nat) : List Int := if s then (List.range c).map fun k => (1 : Int) * 2 ^ k else chainIrr c
def short (x : Str) : Bool := decide (x.length ≤ 10) && x.cps.toList.all fun ch => decide (ch < 1000)
def CaseB (s : Bool) (c : Nat) : Prop := (namesOf s c).Nodup ∧ (∀ a ∈ List.range (sizeOf s c), (namesOf s c)[a]? = some (nameOf s c a)) ∧ (∀ x ∈ namesOf s c, short x = true) ∧ irrOf s (sizeOf s c) = piecesOf s c ∧ 1 ≤ sizeOf s c ∧ sizeOf s c ≤ 64 ∧ (namesOf s c).length = sizeOf s c ∧ c ≤ 64
instance (s : Bool) (c : Nat) : Decidable (CaseB s c) := by
  unfold CaseB
  infer_instance
theorem case_sets : ∀ c ∈ ([1, 2, 3, 6] : List Nat), CaseB true c := by decide +kernel
theorem case_chain : ∀ c ∈ ([1, 2, 3, 4, 5, 6, 7, 8, 9, 10, 11, 12, 64] : List Nat), CaseB false c := by decide +kernel
end Lk03

set_option maxHeartbeats 16000000
namespace Lk03
open PySem PySem.Spec PyProof.Rows L2 He HkS Bs
theorem Src.same {H H' : Hp} {st : Addr} (h : Src H st) (s : Same H H') : Src H' st := by
  obtain ⟨c, cs, i, l, m, h1, h2, r⟩ := h
  exact ⟨c, cs, i, l, m, s _ _ h1, s _ _ h2, r⟩
/-- what stands through the law -/
structure J (H : Hp) (st p l C dx : Addr) (lb : Str) (n : Int) (ns : List Str) : Prop where
  src : Src H st
  hp : H p = some (.ins C dx (LatFs l lb n))
  hl : H l = some (.lst (ns.map V.str))
  np : p ≠ st
  nl : l ≠ st
theorem J.same {H H' : Hp} {st p l C dx : Addr} {lb : Str} {n : Int} {ns : List Str} (j : J H st p l C dx lb n ns) (s : Same H H') : J H' st p l C dx lb n ns := ⟨j.src.same s, s _ _ j.hp, s _ _ j.hl, j.np, j.nl⟩
theorem J.pick {H H' : Hp} {st p l C dx : Addr} {lb : Str} {n : Int} {ns : List Str} (j : J H st p l C dx lb n ns) (k : ∀ b, b ≠ st → H' b = H b) (s : Src H' st) : J H' st p l C dx lb n ns := ⟨s, (k _ j.np).trans j.hp, (k _ j.nl).trans j.hl, j.np, j.nl⟩
theorem lk_flat {H : Hp} {n : Nat} : ∀ {v : V}, flatV v = true → Lk H (n + 1) v v
  | .non, _ => .non n
  | .bl b, _ => .bl n b
  | .int i, _ => .int n i
  | .str s, _ => .str n s
theorem lk_list {H : Hp} {a b : Addr} {xs : List V} (ha : H a = some (.lst xs)) (hb : H b = some (.lst xs)) (hz : xs.length ≤ 1000) (hf : ∀ x ∈ xs, flatV x = true) : Lk H 2 (.ref a) (.ref b) :=
  .lst ha hb rfl hz fun i x y hx hy => by
    have e := hx.symm.trans hy
    cases e
    exact lk_flat (hf x (List.mem_of_getElem? hx))
theorem short_repr {x : Str} (hl : x.length ≤ 100) (hc : ∀ ch ∈ x.cps.toList, ch < 1000) : (reprText x).length ≤ 100000 := by
  have h := StrLaws.reprText_len x (fun c hc2 => Nat.lt_of_lt_of_le (hc c hc2) (by decide))
  omega
/-- one of the words that are near a name -/
def Near (x : Str) : Prop := x.length ≤ 20 ∧ ∀ ch ∈ x.cps.toList, ch < 1000
theorem near_app {a b : Str} {n m : Nat} (ha : a.length ≤ n) (hb : b.length ≤ m) (hnm : n + m ≤ 20) (ca : ∀ ch ∈ a.cps.toList, ch < 1000) (cb : ∀ ch ∈ b.cps.toList, ch < 1000) : Near (a ++ b) := by
  refine ⟨by rw [app_len]; omega, fun ch h => ?_⟩
  have h2 : ch ∈ (a.cps ++ b.cps).toList := h
  rw [Array.toList_append, List.mem_append] at h2
  exact h2.elim (ca ch) (cb ch)
theorem near_cut {a : Str} (ha : a.length ≤ 20) (ca : ∀ ch ∈ a.cps.toList, ch < 1000) (lo hi : Option Int) : Near (cutS a lo hi) := by
  unfold cutS
  have e : ∀ ch ∈ (a.cps.toList.drop (HT.sIx a.length 0 lo)).take (HT.sIx a.length a.length hi - HT.sIx a.length 0 lo), ch ∈ a.cps.toList := fun ch h => List.mem_of_mem_drop (List.mem_of_mem_take h)
  refine ⟨?_, fun ch h => ca ch (e ch ?_)⟩
  · show (((a.cps.toList.drop _).take _).toArray).size ≤ 20
    rw [List.size_toArray, List.length_take, List.length_drop]
    have : a.cps.toList.length = a.length := by simp [Str.length]
    omega
  · simpa using h
def wordsOf (x : Str) : List Str := [Str.ofString "0" ++ x, cutS x (some 1) none, Str.ofString "1" ++ x ++ Str.ofString "0", x ++ Str.ofString "_", Str.ofString " " ++ x, Str.ofString "+" ++ x, "-1", ""]
theorem near_words {x : Str} (h : short x = true) : ∀ wd ∈ wordsOf x, Near wd := by
  obtain ⟨h1, h2⟩ := ba (show (decide (x.length ≤ 10) && x.cps.toList.all fun ch => decide (ch < 1000)) = true from h)
  have hl := of_decide_eq_true h1
  have hc : ∀ ch ∈ x.cps.toList, ch < 1000 := fun ch m => of_decide_eq_true (List.all_eq_true.mp h2 ch m)
  intro wd hw
  unfold wordsOf at hw
  have one : ∀ s ∈ ([Str.ofString "0", Str.ofString "1", Str.ofString "_", Str.ofString " ", Str.ofString "+"] : List Str), s.length ≤ 1 ∧ ∀ ch ∈ s.cps.toList, ch < 1000 := by decide +kernel
  simp only [List.mem_cons, List.not_mem_nil, or_false] at hw
  rcases hw with rfl | rfl | rfl | rfl | rfl | rfl | rfl | rfl
  · exact near_app (one _ (by decide +kernel)).1 hl (by omega) (one _ (by decide +kernel)).2 hc
  · exact near_cut (by omega) hc _ _
  · have z := near_app (one (Str.ofString "1") (by decide +kernel)).1 hl (by omega) (one _ (by decide +kernel)).2 hc
    exact near_app (n := 11) (by rw [app_len]; have := (one (Str.ofString "1") (by decide +kernel)).1; omega) (one _ (by decide +kernel)).1 (by omega) z.2 (one _ (by decide +kernel)).2
  · exact near_app hl (one _ (by decide +kernel)).1 (by omega) hc (one _ (by decide +kernel)).2
  · exact near_app (one _ (by decide +kernel)).1 hl (by omega) (one _ (by decide +kernel)).2 hc
  · exact near_app (one _ (by decide +kernel)).1 hl (by omega) (one _ (by decide +kernel)).2 hc
  · exact ⟨by decide +kernel, by decide +kernel⟩
  · exact ⟨by decide +kernel, by decide +kernel⟩
/-- what within, join and meet hand back -/
def dW (s : Bool) (a b : Int) : V := if s then .bl (decide (V.int (Builtin.bitAnd a b) = V.int a)) else .bl (decide (a ≤ b))
def dJ (s : Bool) (a b : Int) : V := if s then .int (Builtin.bitOr a b) else .int (if b > a then b else a)
def dM (s : Bool) (a b : Int) : V := if s then .int (Builtin.bitAnd a b) else .int (if b < a then b else a)
theorem due_is (s : Bool) (a b : Int) : due s a b = [dW s a b, dJ s a b, dM s a b] := by cases s <;> rfl
theorem due_flat (s : Bool) (a b : Int) : ∀ x ∈ due s a b, flatV x = true := by
  intro x hx
  cases s <;> (unfold due at hx; simp at hx; rcases hx with rfl | rfl | rfl <;> rfl)
structure DueOk (s : Bool) (s1 s2 s3 : Sp) : Prop where
  w : ∀ (x : V) (a b : Int) (H : Hp) (Q : VK) (E : XK), Q (dW s a b) H → s1 [x, .int a, .int b] H Q E
  j : ∀ (x : V) (a b : Int) (H : Hp) (Q : VK) (E : XK), Q (dJ s a b) H → s2 [x, .int a, .int b] H Q E
  m : ∀ (x : V) (a b : Int) (H : Hp) (Q : VK) (E : XK), Q (dM s a b) H → s3 [x, .int a, .int b] H Q E
theorem due_set : DueOk true sp_sle sp_sjn sp_smt := ⟨fun x a b _ _ _ q => ⟨x, a, b, rfl, q⟩, fun x a b _ _ _ q => ⟨x, a, b, rfl, q⟩, fun x a b _ _ _ q => ⟨x, a, b, rfl, q⟩⟩
theorem due_chain : DueOk false sp_le sp_jn sp_mt := ⟨fun x a b _ _ _ q => ⟨x, a, b, rfl, q⟩, fun x a b H Q _ q => ⟨x, a, b, rfl, by
    have e : (if a ≤ b then b else a) = (if b > a then b else a) := by split <;> split <;> omega
    rw [e]
    exact q⟩, fun x a b H Q _ q => ⟨x, a, b, rfl, by
    have e : (if a ≤ b then a else b) = (if b < a then b else a) := by split <;> split <;> omega
    rw [e]
    exact q⟩⟩
theorem ints_flat (zs : List Int) : ∀ x ∈ zs.map V.int, flatV x = true := by
  intro x hx
  obtain ⟨z, _, rfl⟩ := List.mem_map.mp hx
  rfl
section
variable {P : Program} {w : World} {K : PySem.W.Frag} {mg : Str → Option Value} {base : Heap}
def sp_law (K : PySem.W.Frag) : Sp := fun vs H Q _ => ∃ (a : Addr) (ns : List Int), vs = [.ref a] ∧ SqL K H a (ns.map V.int) ∧ ns.length ≤ 63 ∧ ∀ H', Q (.bl true) H'
theorem sc_law : FnScope ["script", "state", "sets", "great", "count", "lattice", "size", "label", "found", "pieces", "k", "a", "b", "name", "words", "word", "j"] ["script"] (defScope s_law) := ⟨rfl, rfl, rfl, by decide +kernel, rfl, by decide +kernel, by decide +kernel⟩
theorem ok_law (Z : Ctx K mg)  (hP : P = PG) : Ok P w K mg base (9) (ga K "law") ["script"] (sp_law K) := by
  refine ok_of (fd_law Z) sc_law (fun vs H Q E h => ?_) (fun _ _ _ _ _ _ us hl => match us, hl with | [_], _ => rfl) (fun cdv A outer s H vs Q E hr h => ?_)
  · obtain ⟨_, _, rfl, _⟩ := h
    rfl
  · obtain ⟨sc, zs, rfl, hS, hlen, k⟩ := h
    have ok__law_like := ok_like (w := w) (base := base) (mg := mg) (K := K) (P := P)
    have ok_Chain := ok_ChainLattice___init__ (w := w) (base := base) (mg := mg) (K := K) (P := P)
    have ok_Set := ok_SetLattice___init__ (w := w) (base := base) (mg := mg) (K := K) (P := P)
    refine ⟨_, (pss_cons (ps_s 1 sc_law.nd (pe_cO (ok_cells Z) (hr.mono (by decide)) (g__law_cells Z) (passes_call (takes_of rfl rfl rfl rfl) (fun _ _ _ _ h => h)) (pa_cons (pv 0) pa_nil)))
      (pss_cons (ps_s 2 sc_law.nd (pe_cmpR op_eq (pe_cO (ok_pick Z) (hr.mono (by decide)) (g__law_pick Z) (passes_call (takes_of rfl rfl rfl rfl) (fun _ _ _ _ h => h)) (pa_cons (pv 1) (pa_cons pe_int pa_nil))) pe_int (nomark _)))
      (pss_cons (ps_s 3 sc_law.nd (pe_cmpR op_eq (pe_cO (ok_pick Z) (hr.mono (by decide)) (g__law_pick Z) (passes_call (takes_of rfl rfl rfl rfl) (fun _ _ _ _ h => h)) (pa_cons (pv 1) (pa_cons pe_int pa_nil))) pe_int (nomark _)))
      (C8.pss_cut (ps_s 4 sc_law.nd (pe_ifExp (pt_val (pv 2)) (pe_ifExp (pt_val (pv 3)) pe_int (pe_op op_add pe_int (pe_cO (ok_pick Z) (hr.mono (by decide)) (g__law_pick Z) (passes_call (takes_of rfl rfl rfl rfl) (fun _ _ _ _ h => h)) (pa_cons (pv 1) (pa_cons pe_int pa_nil))))) (pe_ifExp (pt_val (pv 3)) pe_int (pe_op op_add pe_int (pe_cO (ok_pick Z) (hr.mono (by decide)) (g__law_pick Z) (passes_call (takes_of rfl rfl rfl rfl) (fun _ _ _ _ h => h)) (pa_cons (pv 1) (pa_cons pe_int pa_nil)))))))
      (C8.pss_cut (ps_s 5 sc_law.nd (pe_ifExp (pt_val (pv 2)) (pe_kO (k_SetLattice Z) (ok_Set Z hP) (hr.mono (by decide)) (g_SetLattice Z) (passes_call (takes_of rfl rfl rfl rfl) (fun _ _ _ _ h => h)) (pa_cons (pv 4) pa_nil)) (pe_kO (k_ChainLattice Z) (ok_Chain Z hP) (hr.mono (by decide)) (g_ChainLattice Z) (passes_call (takes_of rfl rfl rfl rfl) (fun _ _ _ _ h => h)) (pa_cons (pv 4) pa_nil))))
      (C8.pss_cut (ps_s 6 sc_law.nd (pe_ifExp (pt_val (pv 2)) (pe_op op_shl pe_int (pv 4)) (pv 4)))
      (pss_cons (ps_s 7 sc_law.nd (pe_op op_add_str (pe_op op_add_str (pe_ix ixL (pe_lst (pa_cons pe_str (pa_cons pe_str pa_nil))) (pe_callTy call_int1 (by rfl) (f_int Z) (by decide +kernel) (pa_cons (pv 2) pa_nil)) (fun _ _ => rfl)) (pe_callTy call_str_int (by rfl) (f_str Z) (by decide +kernel) (pa_cons (pv 4) pa_nil))) pe_str))
      (pss_cons (ps_s 8 sc_law.nd (pe_lst (pa_cons (fldQ (pv 5)) (pa_cons (fldQ (pv 5)) (pa_cons (fldQ (pv 5)) (pa_cons (fldQ (pv 5)) pa_nil))))))
      (pss_cons (ps_if (pt_not (pt_val (pe_cO (ok__law_like Z 2) (hr.mono (by decide)) (g__law_like Z) (passes_call (takes_of rfl rfl rfl rfl) (fun _ _ _ _ h => h)) (pa_cons (pv 8) (pa_cons (pe_lst (pa_cons (pv 7) (pa_cons (pv 6) (pa_cons pe_int (pa_cons (pe_op op_sub (pv 6) pe_int) pa_nil))))) pa_nil))))) (pss_one (ps_ret pe_bl)) pss_nil)
      (C8.pss_cut (ps_s 9 sc_law.nd (pe_ifExp (pt_val (pv 2)) (pe_lc (own := [("k", 10)]) (g := gName 10) (tt := tYes) rfl sc_law.nd (pi_range1 (by rfl) (f_range Z) (pa_cons (pv 4) pa_nil)) (blkOk_by (N := ["script", "state", "sets", "great", "count", "lattice", "size", "label", "found", "pieces", "k", "a", "b", "name", "words", "word", "j"]) (sc := defScope s_law) (by decide +kernel)) (fun _ _ _ _ _ => (pg_n 10 sc_law.nd)) (fun _ _ _ _ _ => pts_nil) (fun _ _ _ _ _ => (pe_op op_shl pe_int (pv 10)))) (pe_lc (own := [("k", 10)]) (g := gName 10) (tt := tYes) rfl sc_law.nd (pi_range2 (by rfl) (f_range Z) (pa_cons pe_int (pa_cons (pv 6) pa_nil))) (blkOk_by (N := ["script", "state", "sets", "great", "count", "lattice", "size", "label", "found", "pieces", "k", "a", "b", "name", "words", "word", "j"]) (sc := defScope s_law) (by decide +kernel)) (fun _ _ _ _ _ => (pg_n 10 sc_law.nd)) (fun _ _ _ _ _ => pts_nil) (fun _ _ _ _ _ => (pv 10)))))
      (pss_cons (ps_if (pt_not (pt_val (pe_cO (ok__law_like Z 2) (hr.mono (by decide)) (g__law_like Z) (passes_call (takes_of rfl rfl rfl rfl) (fun _ _ _ _ h => h)) (pa_cons (pe_mD0 (D := MD P w K mg base 6 "irreducibles") (pv 5) (fun _ _ _ h => h) (hr.mono (by decide)) (fun σ => passOS (takes_of rfl rfl rfl rfl) σ)) (pa_cons (pv 9) pa_nil))))) (pss_one (ps_ret pe_bl)) pss_nil)
      (pss_cons (ps_for (passes_of rfl) rfl (pi_range1 (by rfl) (f_range Z) (pa_cons (pe_op op_add pe_int (pe_cO (ok_pick Z) (hr.mono (by decide)) (g__law_pick Z) (passes_call (takes_of rfl rfl rfl rfl) (fun _ _ _ _ h => h)) (pa_cons (pv 1) (pa_cons pe_int pa_nil)))) pa_nil)) (pg_n 10 sc_law.nd) (pss_cons (ps_s 11 sc_law.nd (pe_cO (ok_pick Z) (hr.mono (by decide)) (g__law_pick Z) (passes_call (takes_of rfl rfl rfl rfl) (fun _ _ _ _ h => h)) (pa_cons (pv 1) (pa_cons (pv 6) pa_nil))))
      (C8.pss_cut (ps_s 12 sc_law.nd (pe_ifExp (pt_cmpR op_eq (pe_cO (ok_pick Z) (hr.mono (by decide)) (g__law_pick Z) (passes_call (takes_of rfl rfl rfl rfl) (fun _ _ _ _ h => h)) (pa_cons (pv 1) (pa_cons pe_int pa_nil))) pe_int (nomark _)) (pv 11) (pe_cO (ok_pick Z) (hr.mono (by decide)) (g__law_pick Z) (passes_call (takes_of rfl rfl rfl rfl) (fun _ _ _ _ h => h)) (pa_cons (pv 1) (pa_cons (pv 6) pa_nil)))))
      (pss_cons (ps_s 8 sc_law.nd (pe_lst (pa_cons (pe_mD (D := MD P w K mg base 6 "within_at") (pv 5) (fun _ _ _ h => h) (hr.mono (by decide)) (fun σ => passOS (takes_of rfl rfl rfl rfl) σ) (pa_cons (pv 11) (pa_cons (pv 12) pa_nil))) (pa_cons (pe_mD (D := MD P w K mg base 6 "join_at") (pv 5) (fun _ _ _ h => h) (hr.mono (by decide)) (fun σ => passOS (takes_of rfl rfl rfl rfl) σ) (pa_cons (pv 11) (pa_cons (pv 12) pa_nil))) (pa_cons (pe_mD (D := MD P w K mg base 6 "meet_at") (pv 5) (fun _ _ _ h => h) (hr.mono (by decide)) (fun σ => passOS (takes_of rfl rfl rfl rfl) σ) (pa_cons (pv 11) (pa_cons (pv 12) pa_nil))) pa_nil)))))
      (pss_cons (ps_if (pt_not (pt_val (pe_cO (ok__law_like Z 2) (hr.mono (by decide)) (g__law_like Z) (passes_call (takes_of rfl rfl rfl rfl) (fun _ _ _ _ h => h)) (pa_cons (pv 8) (pa_cons (pe_cO (ok__law_due Z) (hr.mono (by decide)) (g__law_due Z) (passes_call (takes_of rfl rfl rfl rfl) (fun _ _ _ _ h => h)) (pa_cons (pv 2) (pa_cons (pv 11) (pa_cons (pv 12) pa_nil)))) pa_nil))))) (pss_one (ps_ret pe_bl)) pss_nil)
      (pss_cons (ps_s 13 sc_law.nd (pe_callTy call_str_int (by rfl) (f_str Z) (by decide +kernel) (pa_cons (pv 11) pa_nil)))
      (C8.pss_cut (ps_if (pt_val (pv 2)) (pss_one (ps_s 13 sc_law.nd (joinQ pe_str (pe_lc (own := [("j", 16)]) (g := gName 16) (tt := tYes) rfl sc_law.nd (pi_range1 (by rfl) (f_range Z) (pa_cons (pv 4) pa_nil)) (blkOk_by (N := ["script", "state", "sets", "great", "count", "lattice", "size", "label", "found", "pieces", "k", "a", "b", "name", "words", "word", "j"]) (sc := defScope s_law) (by decide +kernel)) (fun _ _ _ _ _ => (pg_n 16 sc_law.nd)) (fun _ _ _ _ _ => pts_nil) (fun _ _ _ _ _ => (pe_callTy call_str_int (by rfl) (f_str Z) (by decide +kernel) (pa_cons (pe_op op_mod (pe_callTy call_int1 (by rfl) (f_int Z) (by decide +kernel) (pa_cons (pe_op op_shr (pv 11) (pe_op op_sub (pe_op op_sub (pv 4) pe_int) (pv 16))) pa_nil)) pe_int) pa_nil))))))) pss_nil)
      (pss_cons (ps_if (pt_not (pt_val (pe_cO (ok__law_like Z 2) (hr.mono (by decide)) (g__law_like Z) (passes_call (takes_of rfl rfl rfl rfl) (fun _ _ _ _ h => h)) (pa_cons (pe_lst (pa_cons (pe_mD (D := MD P w K mg base 6 "name_at") (pv 5) (fun _ _ _ h => h) (hr.mono (by decide)) (fun σ => passOS (takes_of rfl rfl rfl rfl) σ) (pa_cons (pv 11) pa_nil)) (pa_cons (pe_mD (D := MD P w K mg base 6 "at_name") (pv 5) (fun _ _ _ h => h) (hr.mono (by decide)) (fun σ => passOS (takes_of rfl rfl rfl rfl) σ) (pa_cons (pv 13) pa_nil)) pa_nil))) (pa_cons (pe_lst (pa_cons (pv 13) (pa_cons (pv 11) pa_nil))) pa_nil))))) (pss_one (ps_ret pe_bl)) pss_nil)
      (pss_cons (ps_s 14 sc_law.nd (pe_lst (pa_cons (pe_op op_add_str pe_str (pv 13)) (pa_cons (pe_slice sl_str (pv 13) (po_some pe_int) po_none) (pa_cons (pe_op op_add_str (pe_op op_add_str pe_str (pv 13)) pe_str) (pa_cons (pe_op op_add_str (pv 13) pe_str) (pa_cons (pe_op op_add_str pe_str (pv 13)) (pa_cons (pe_op op_add_str pe_str (pv 13)) (pa_cons pe_str (pa_cons pe_str pa_nil))))))))))
      (pss_cons (ps_s 15 sc_law.nd (pe_ix ixL (pv 14) (pe_cO (ok_pick Z) (hr.mono (by decide)) (g__law_pick Z) (passes_call (takes_of rfl rfl rfl rfl) (fun _ _ _ _ h => h)) (pa_cons (pv 1) (pa_cons pe_int pa_nil))) (fun _ _ => rfl)))
      (pss_one (ps_if (pt_not (pt_val (pe_cO (ok__law_unknown Z) (hr.mono (by decide)) (g__law_unknown Z) (passes_call (takes_of rfl rfl rfl rfl) (fun _ _ _ _ h => h)) (pa_cons (pv 5) (pa_cons (pv 15) (pa_cons (pe_lc (own := [("b", 12)]) (g := gName 12) (tt := tYes) rfl sc_law.nd (pi_range1 (by rfl) (f_range Z) (pa_cons (pv 6) pa_nil)) (blkOk_by (N := ["script", "state", "sets", "great", "count", "lattice", "size", "label", "found", "pieces", "k", "a", "b", "name", "words", "word", "j"]) (sc := defScope s_law) (by decide +kernel)) (fun _ _ _ _ _ => (pg_n 12 sc_law.nd)) (fun _ _ _ _ _ => pts_nil) (fun _ _ _ _ _ => (pe_mD (D := MD P w K mg base 6 "name_at") (pv 5) (fun _ _ _ h => h) (hr.mono (by decide)) passLS (pa_cons (pv 12) pa_nil)))) pa_nil)))))) (pss_one (ps_ret pe_bl)) pss_nil))))))))))))
      (pss_one (ps_ret pe_bl)))))))))))))), ?_⟩
    -- state
    refine ⟨_, rfl, sc, zs, rfl, hS, hlen, fun H1 st s1 f1 S1 => ?_⟩
    -- sets, great
    refine ⟨_, rfl, st, 2, rfl, S1, by decide, by decide, fun d1 H2 d10 d11 k2 S2 => ⟨rfl, ?_⟩⟩
    refine ⟨_, rfl, st, 8, rfl, S2, by decide, by decide, fun d2 H3 d20 d21 k3 S3 => ⟨rfl, ?_⟩⟩
    -- count
    refine ⟨fun σ H' => ∃ (s g : Bool) (c : Nat), σ = [some (.ref sc), some (.ref st), some (.bl s), some (.bl g), some (.int (c : Nat)), none, none, none, none, none, none, none, none, none, none, none, none] ∧ Src H' st ∧ CaseB s c ∧ (s = true → c ≤ 6), ?_, ?_⟩
    · refine ⟨_, rfl, _, rfl, ite2 (fun cs => ?_) (fun cs => ?_)⟩
      · refine ⟨_, rfl, _, rfl, ite2 (fun cg => ?_) (fun cg => ?_)⟩
        · exact ⟨_, _, 6, rfl, S3, by rw [cs]; exact case_sets 6 (by decide), fun _ => by decide⟩
        · refine ⟨_, rfl, st, 3, rfl, S3, by decide, by decide, fun d3 H4 d30 d31 k4 S4 => ⟨_, _, rfl, rfl, ?_⟩⟩
          have z : d3 = 0 ∨ d3 = 1 ∨ d3 = 2 := by omega
          rcases z with rfl | rfl | rfl
          · exact ⟨_, _, 1, rfl, S4, by rw [cs]; exact case_sets 1 (by decide), fun _ => by decide⟩
          · exact ⟨_, _, 2, rfl, S4, by rw [cs]; exact case_sets 2 (by decide), fun _ => by decide⟩
          · exact ⟨_, _, 3, rfl, S4, by rw [cs]; exact case_sets 3 (by decide), fun _ => by decide⟩
      · have cs2 := Bool.not_eq_true _ ▸ cs
        have cs3 : decide (V.int d1 = V.int 0) = false := by simpa using cs
        refine ⟨_, rfl, _, rfl, ite2 (fun cg => ?_) (fun cg => ?_)⟩
        · exact ⟨_, _, 64, rfl, S3, by rw [cs3]; exact case_chain 64 (by decide), fun q => absurd q cs⟩
        · refine ⟨_, rfl, st, 12, rfl, S3, by decide, by decide, fun d3 H4 d30 d31 k4 S4 => ⟨_, _, rfl, rfl, ?_⟩⟩
          obtain ⟨n, rfl⟩ : ∃ n : Nat, d3 = n := ⟨d3.toNat, by omega⟩
          have hc : CaseB false (1 + n) := by
            apply case_chain
            have z : n = 0 ∨ n = 1 ∨ n = 2 ∨ n = 3 ∨ n = 4 ∨ n = 5 ∨ n = 6 ∨ n = 7 ∨ n = 8 ∨ n = 9 ∨ n = 10 ∨ n = 11 := by omega
            rcases z with rfl | rfl | rfl | rfl | rfl | rfl | rfl | rfl | rfl | rfl | rfl | rfl <;> decide
          exact ⟨_, _, 1 + n, by rw [show (((1 + n : Nat) : Nat) : Int) = 1 + (n : Nat) by omega]; rfl, S4, by rw [cs3]; exact hc, fun q => absurd q cs⟩
    rintro σ H4 ⟨s, g, c, rfl, S4, hc, hc6⟩
    obtain ⟨nd, hnm, hsh, hirr, hN1, hN2, hNl, hc64⟩ := id hc
    have hc1 : 1 ≤ c := by
      cases c with
      | zero =>
        cases s with
        | true =>
          have z : setNames 0 = [Fb.binT 0] ∨ True := .inr trivial
          have := hnm 0 (by decide)
          exact absurd this (by decide +kernel)
        | false => exact absurd hN1 (by decide)
      | succ n => omega
    -- lattice
    refine ⟨fun σ H' => ∃ (p l C dx : Addr) (q1 q2 q3 : Sp), σ = [some (.ref sc), some (.ref st), some (.bl s), some (.bl g), some (.int (c : Nat)), some (.ref p), none, none, none, none, none, none, none, none, none, none, none] ∧
      J H' st p l C dx (labOf s c) (sizeOf s c : Nat) (namesOf s c) ∧ LatM P w K mg base C q1 q2 q3 (irrOf s) ∧ DueOk s q1 q2 q3, ?_, ?_⟩
    · have mk : ∀ (x dx l : Addr) (C : Addr) (H6 : Hp), H4 x = none → (upd (upd H4 dx (.own x)) x (.ins C dx [])) l = none → H6 l = some (.lst ((namesOf s c).map V.str)) → H6 x = some (.ins C dx (LatFs l (labOf s c) (sizeOf s c : Nat))) →
          (∀ b o, (upd (upd H4 dx (.own x)) x (.ins C dx [])) b = some o → b ≠ x → H6 b = some o) → H4 dx = none → J H6 st x l C dx (labOf s c) (sizeOf s c : Nat) (namesOf s c) := by
        intro x dx l C H6 nx nl hl hp hk ndx
        obtain ⟨cc, cs, i, le, m, h1, h2, r⟩ := id S4
        have k0 : ∀ b o, H4 b = some o → H6 b = some o := fun b o e => hk b o (by rw [upd_ne (ne_of_none e nx), upd_ne (ne_of_none e ndx)]; exact e) (ne_of_none e nx)
        have sx : x ≠ st := fun e => by rw [e, h1] at nx; cases nx
        have sl : l ≠ st := fun e => by
          have z : (upd (upd H4 dx (.own x)) x (.ins C dx [])) st = some (.lst [.ref cc, .int i, .int le, .int m]) := by
            rw [upd_ne (Ne.symm sx), upd_ne (ne_of_none h1 ndx)]
            exact h1
          rw [e, z] at nl
          cases nl
        exact ⟨⟨cc, cs, i, le, m, k0 _ _ h1, k0 _ _ h2, r⟩, hp, hl, sx, sl⟩
      refine ⟨_, rfl, _, rfl, ite2 (fun cs => ?_) (fun cs => ?_)⟩
      · subst cs
        have hc6 := hc6 rfl
        refine ⟨_, rfl, fun x dx nx ndx _ => ⟨x, dx, (c : Nat), rfl, upd_same, fun n l H6 en _ _ nl hl hp hk => ⟨rfl, ?_⟩, fun bad => absurd ⟨by omega, by omega⟩ bad⟩⟩
        have en2 : c = n := by omega
        subst en2
        exact ⟨x, l, _, dx, _, _, _, rfl, mk x dx l _ H6 nx nl hl hp hk ndx, m_set Z hP, due_set⟩
      · have cs := Bool.eq_false_iff.mpr cs
        subst cs
        refine ⟨_, rfl, fun x dx nx ndx _ => ⟨x, dx, (c : Nat), rfl, upd_same, fun n l H6 en _ _ nl hl hp hk => ⟨rfl, ?_⟩, fun bad => absurd ⟨by omega, by omega⟩ bad⟩⟩
        have en2 : c = n := by omega
        subst en2
        exact ⟨x, l, _, dx, _, _, _, rfl, mk x dx l _ H6 nx nl hl hp hk ndx, m_chain Z hP, due_chain⟩
    rintro σ H5 ⟨p, l, C, dx, q1, q2, q3, rfl, j5, M, du⟩
    -- size
    refine ⟨fun σ H' => σ = [some (.ref sc), some (.ref st), some (.bl s), some (.bl g), some (.int (c : Nat)), some (.ref p), some (.int (sizeOf s c : Nat)), none, none, none, none, none, none, none, none, none, none] ∧ H' = H5, ?_, ?_⟩
    · refine ⟨_, rfl, _, rfl, ite2 (fun cs => ?_) (fun cs => ?_)⟩
      · subst cs
        refine ⟨_, rfl, _, _, rfl, rfl, ⟨by omega, by omega, by decide⟩, ?_⟩
        refine ⟨?_, rfl⟩
        have e : (1 : Int) * 2 ^ ((c : Nat) : Int).toNat = ((sizeOf true c : Nat) : Int) := by
          show (1 : Int) * 2 ^ ((c : Nat) : Int).toNat = ((2 ^ c : Nat) : Int)
          rw [show ((c : Nat) : Int).toNat = c by omega, Int.one_mul]
          exact (Int.natCast_pow 2 c).symm
        show [some (V.ref sc), some (V.ref st), some (V.bl true), some (V.bl g), some (V.int (c : Nat)), some (V.ref p), some (V.int ((1 : Int) * 2 ^ ((c : Nat) : Int).toNat)), none, none, none, none, none, none, none, none, none, none] = _
        rw [e]
      · have cs := Bool.eq_false_iff.mpr cs
        subst cs
        exact ⟨_, rfl, rfl, rfl⟩
    rintro σ _ ⟨rfl, rfl⟩
    -- label
    have nl := num_len (i := ((c : Nat) : Int)) (log_small (by omega) (by omega))
    refine ⟨(by show 2 ≤ sizeLine; decide), fun q0 n0 => ⟨_, rfl, .inr ⟨s, rfl, _, _, _, .str (if s then Str.ofString "(sets " else Str.ofString "(chain "), rfl, rfl, SqL.of upd_same, (by cases s <;> rfl), _, rfl, _, rfl, log_small (by omega) (by omega), _, _, rfl, rfl, ?_, _, _, rfl, rfl, ?_, ?_⟩⟩⟩
    · have z : (if s then Str.ofString "(sets " else Str.ofString "(chain ").length ≤ 10 := by cases s <;> decide +kernel
      exact small_of (by omega)
    · have z : (if s then Str.ofString "(sets " else Str.ofString "(chain ").length ≤ 10 := by cases s <;> decide +kernel
      have z2 : (Str.ofString ")").length ≤ 10 := by decide +kernel
      rw [app_len]
      exact small_of (by omega)
    have elb : ((if s then Str.ofString "(sets " else Str.ofString "(chain ") ++ ((toString ((c : Nat) : Int) : String) : Str)) ++ Str.ofString ")" = labOf s c := by cases s <;> rfl
    show tSeq _ _ _ [some (V.ref sc), some (V.ref st), some (V.bl s), some (V.bl g), some (V.int (c : Nat)), some (V.ref p), some (V.int (sizeOf s c : Nat)), some (V.str (((if s then Str.ofString "(sets " else Str.ofString "(chain ") ++ ((toString ((c : Nat) : Int) : String) : Str)) ++ Str.ofString ")")), none, none, none, none, none, none, none, none, none] _
    rw [elb]
    have j6 := j5.same (Same.new (o := .lst [.str (Str.ofString "(chain "), .str (Str.ofString "(sets ")]) n0)
    -- found: label, size, bottom, top
    refine ⟨_, rfl, p, C, dx, _, _, rfl, j6.hp, M.lc.cl, M.lc.l, f_lab, _, rfl, p, C, dx, _, _, rfl, j6.hp, M.lc.cl, M.lc.s, f_siz, _, rfl, p, C, dx, _, _, rfl, j6.hp, M.lc.cl, M.lc.b, f_bot, _, rfl, p, C, dx, _, _, rfl, j6.hp, M.lc.cl, M.lc.t, f_topp, (by show 4 ≤ sizeLine; decide), fun fd nf => ?_⟩
    refine ⟨_, rfl, _, rfl, _, rfl, _, rfl, _, _, rfl, rfl, (by show 4 ≤ sizeLine; decide), fun q1 n1 => ?_⟩
    refine ⟨_, _, rfl, lk_list ((Same.new n1) _ _ upd_same) upd_same (by show 4 ≤ 1000; decide) (by intro x hx; simp at hx; rcases hx with rfl | rfl | rfl | rfl <;> rfl), fun H7 s7 => ⟨true, rfl, iteF ?_⟩⟩
    have j7 := (j6.same (Same.new nf)).same ((Same.new n1).trans s7)
    clear j6
    -- pieces
    refine ⟨fun σ H' => ∃ pc : Addr, σ = [some (.ref sc), some (.ref st), some (.bl s), some (.bl g), some (.int (c : Nat)), some (.ref p), some (.int (sizeOf s c : Nat)), some (.str (labOf s c)), some (.ref fd), some (.ref pc), none, none, none, none, none, none, none] ∧
      J H' st p l C dx (labOf s c) (sizeOf s c : Nat) (namesOf s c) ∧ H' pc = some (.lst ((piecesOf s c).map V.int)), ?_, ?_⟩
    · refine ⟨_, rfl, _, rfl, ite2 (fun cs => ?_) (fun cs => ?_)⟩
      · subst cs
        have hc6 := hc6 rfl
        refine ⟨_, rfl, (c : Nat), rfl, by omega, by omega, fun D hD => ?_⟩
        rw [show ((c : Nat) : Int).toNat = c by omega]
        refine lc_range (lo := 0) (n := c) (fun i H2 => Same H7 H2 ∧ H2 D = some (.lst (((List.range i).map fun k => (1 : Int) * 2 ^ k).map V.int))) ⟨Same.new hD, upd_same⟩ ?_ ?_
        · rintro i H2 hi ⟨sm, hd⟩
          refine ⟨rfl, _, rfl, _, _, rfl, rfl, ⟨by omega, by omega, by decide⟩, _, hd, ?_, ?_, ?_⟩
          · rw [List.length_map, List.length_map, List.length_range]
            exact small1000 (by omega)
          · intro b o e
            rw [upd_ne (ne_of_none e hD)]
            exact sm b o e
          · rw [upd_same, List.range_succ, List.map_append, List.map_append]
            have e : ((0 : Int) + (i : Nat)).toNat = i := by omega
            show some (HO.lst (_ ++ [V.int ((1 : Int) * 2 ^ ((0 : Int) + (i : Nat)).toNat)])) = _
            rw [e]
            rfl
        · rintro H2 ⟨sm, hd⟩
          exact ⟨D, rfl, j7.same sm, hd⟩
      · have cs := Bool.eq_false_iff.mpr cs
        subst cs
        refine ⟨_, rfl, _, _, rfl, ⟨by decide, by decide, by omega, by omega⟩, fun D hD => ?_⟩
        rw [show (((sizeOf false c : Nat) : Int) - 1).toNat = c - 1 by show (((c : Nat) : Int) - 1).toNat = c - 1; omega]
        refine lc_range (lo := 1) (n := c - 1) (fun i H2 => Same H7 H2 ∧ H2 D = some (.lst (((List.range i).map fun k => (1 : Int) + (k : Nat)).map V.int))) ⟨Same.new hD, upd_same⟩ ?_ ?_
        · rintro i H2 hi ⟨sm, hd⟩
          refine ⟨rfl, _, rfl, _, hd, ?_, ?_, ?_⟩
          · rw [List.length_map, List.length_map, List.length_range]
            exact small1000 (by omega)
          · intro b o e
            rw [upd_ne (ne_of_none e hD)]
            exact sm b o e
          · rw [upd_same, List.range_succ, List.map_append, List.map_append]
            rfl
        · rintro H2 ⟨sm, hd⟩
          exact ⟨D, rfl, j7.same sm, hd⟩
    rintro σ H8 ⟨pc, rfl, j8, hpc⟩
    -- irreducibles
    obtain ⟨fi, mi⟩ := M.ir
    refine ⟨_, rfl, p, C, dx, _, fi, _, rfl, j8.hp, f_irr, mi, p, C, dx, _, sizeOf s c, rfl, j8.hp, M.lc.cl, M.lc.s, f_siz, hN1, hN2, fun q2 H9 s9 _ hq2 => ?_⟩
    rw [hirr] at hq2
    have hpl : (piecesOf s c).length ≤ 1000 := by
      cases s with
      | true =>
        show ((List.range c).map fun k => (1 : Int) * 2 ^ k).length ≤ 1000
        rw [List.length_map, List.length_range]
        omega
      | false =>
        show ((List.range (c - 1)).map fun i => (1 : Int) + (i : Nat)).length ≤ 1000
        rw [List.length_map, List.length_range]
        omega
    refine ⟨_, rfl, _, _, rfl, lk_list hq2 (s9 _ _ hpc) (by rw [List.length_map]; exact hpl) (ints_flat _), fun H10 s10 => ⟨true, rfl, iteF ?_⟩⟩
    have j10 := (j8.same s9).same s10
    -- the loop
    refine ⟨_, rfl, st, 20, rfl, j10.src, by decide, by decide, fun d4 H11 d40 d41 k11 S11 => ⟨_, _, rfl, rfl, _, rfl, by omega, by omega, ?_⟩⟩
    have j11 := j10.pick k11 S11
    refine for_range (lo := 0) (n := (1 + d4).toNat) (fun i σ H' => ∃ v8 v10 v11 v12 v13 v14 v15 : Option V, σ = [some (.ref sc), some (.ref st), some (.bl s), some (.bl g), some (.int (c : Nat)), some (.ref p), some (.int (sizeOf s c : Nat)), some (.str (labOf s c)), v8, some (.ref pc), v10, v11, v12, v13, v14, v15, none] ∧
      J H' st p l C dx (labOf s c) (sizeOf s c : Nat) (namesOf s c)) ⟨_, _, _, _, _, _, _, rfl, j11⟩ ?_ ?_
    · rintro i σ H12 hi ⟨v8, v10, v11, v12, v13, v14, v15, rfl, j12⟩
      -- a
      refine ⟨_, rfl, _, rfl, st, _, rfl, j12.src, by omega, by omega, fun a H13 a0 a1 k13 S13 => ?_⟩
      have j13 := j12.pick k13 S13
      -- b
      refine ⟨fun σ H' => ∃ b : Int, σ = [some (.ref sc), some (.ref st), some (.bl s), some (.bl g), some (.int (c : Nat)), some (.ref p), some (.int (sizeOf s c : Nat)), some (.str (labOf s c)), v8, some (.ref pc), some (.int (0 + (i : Nat))), some (.int a), some (.int b), v13, v14, v15, none] ∧
        J H' st p l C dx (labOf s c) (sizeOf s c : Nat) (namesOf s c), ?_, ?_⟩
      · refine ⟨_, rfl, st, 6, rfl, j13.src, by decide, by decide, fun d5 H14 d50 d51 k14 S14 => ⟨rfl, _, rfl, ite2 (fun _ => ?_) (fun _ => ?_)⟩⟩
        · exact ⟨_, rfl, a, rfl, j13.pick k14 S14⟩
        · refine ⟨_, rfl, _, rfl, st, _, rfl, S14, by omega, by omega, fun b H15 b0 b1 k15 S15 => ?_⟩
          exact ⟨b, rfl, (j13.pick k14 S14).pick k15 S15⟩
      rintro σ H15 ⟨b, rfl, j15⟩
      -- found: within, join, meet
      obtain ⟨fw, mw⟩ := M.wi
      obtain ⟨fj, mj⟩ := M.jo
      obtain ⟨fm, mm⟩ := M.me
      refine ⟨_, rfl, p, C, dx, _, fw, _, rfl, j15.hp, f_within, mw, _, rfl, _, rfl, du.w _ _ _ _ _ _ ?_⟩
      refine ⟨_, rfl, p, C, dx, _, fj, _, rfl, j15.hp, f_join, mj, _, rfl, _, rfl, du.j _ _ _ _ _ _ ?_⟩
      refine ⟨_, rfl, p, C, dx, _, fm, _, rfl, j15.hp, f_meet, mm, _, rfl, _, rfl, du.m _ _ _ _ _ _ ⟨(by show 3 ≤ sizeLine; decide), fun fe nfe => ?_⟩⟩
      refine ⟨_, rfl, _, rfl, _, rfl, _, rfl, s, a, b, rfl, fun q3 H16 s16 hq3 => ?_⟩
      have j16 := (j15.same (Same.new nfe)).same s16
      have hfe := s16 _ _ upd_same
      rw [← due_is] at hfe
      refine ⟨_, _, rfl, lk_list hfe hq3 (by rw [due_is]; show 3 ≤ 1000; decide) (due_flat s a b), fun H17 s17 => ⟨true, rfl, iteF ?_⟩⟩
      have j17 := j16.same s17
      -- name
      obtain ⟨an, rfl⟩ : ∃ an : Nat, a = an := ⟨a.toNat, by omega⟩
      have han : an < sizeOf s c := by omega
      have hat := hnm an (List.mem_range.mpr han)
      have hshort : short (nameOf s c an) = true := hsh _ (List.mem_of_getElem? hat)
      obtain ⟨hs1, hs2⟩ := ba (show (decide ((nameOf s c an).length ≤ 10) && (nameOf s c an).cps.toList.all fun ch => decide (ch < 1000)) = true from hshort)
      have hs1 := of_decide_eq_true hs1
      have hs2 : ∀ ch ∈ (nameOf s c an).cps.toList, ch < 1000 := fun ch m => of_decide_eq_true (List.all_eq_true.mp hs2 ch m)
      refine ⟨_, rfl, _, rfl, log_small (by omega) (by omega), ?_⟩
      refine ⟨fun σ H' => σ = [some (.ref sc), some (.ref st), some (.bl s), some (.bl g), some (.int (c : Nat)), some (.ref p), some (.int (sizeOf s c : Nat)), some (.str (labOf s c)), some (.ref fe), some (.ref pc), some (.int (0 + (i : Nat))), some (.int (an : Nat)), some (.int b), some (.str (nameOf s c an)), v14, v15, none] ∧
        J H' st p l C dx (labOf s c) (sizeOf s c : Nat) (namesOf s c), ?_, ?_⟩
      · refine ⟨_, rfl, _, rfl, ite2 (fun cs => ?_) (fun cs => ?_)⟩
        · subst cs
          have hc6 := hc6 rfl
          refine ⟨⟨_, rfl⟩, _, rfl, _, rfl, by omega, by omega, fun D hD => ?_⟩
          rw [show ((c : Nat) : Int).toNat = c by omega]
          refine lc_range (lo := 0) (n := c) (fun j H2 => Same H17 H2 ∧ H2 D = some (.lst (((List.range j).map fun j => ((toString (((an : Nat) : Int) / 2 ^ (((c : Nat) : Int) - 1 - ((j : Nat) : Int)).toNat % 2) : String) : Str)).map V.str))) ⟨Same.new hD, upd_same⟩ ?_ ?_
          · rintro j H2 hj ⟨sm, hd⟩
            refine ⟨rfl, _, rfl, _, rfl, _, _, rfl, rfl, _, rfl, _, _, rfl, rfl, _, _, rfl, rfl, by omega, .inl ⟨_, rfl, _, _, rfl, rfl, (by show (0 : Int) < 2; decide), _, rfl, ?_, _, hd, ?_, ?_, ?_⟩⟩
            · have z1 := Int.emod_nonneg (((an : Nat) : Int) / 2 ^ (((c : Nat) : Int) - 1 - (0 + (j : Nat))).toNat) (show (2 : Int) ≠ 0 by decide)
              have z2 := Int.emod_lt_of_pos (((an : Nat) : Int) / 2 ^ (((c : Nat) : Int) - 1 - (0 + (j : Nat))).toNat) (show (0 : Int) < 2 by decide)
              exact log_small z1 (by omega)
            · rw [List.length_map, List.length_map, List.length_range]
              exact small1000 (by omega)
            · intro x o e
              rw [upd_ne (ne_of_none e hD)]
              exact sm x o e
            · rw [upd_same, List.range_succ, List.map_append, List.map_append]
              have e : (0 : Int) + (j : Nat) = (j : Nat) := by omega
              rw [e]
              rfl
          · rintro H2 ⟨sm, hd⟩
            refine ⟨_, _, _, rfl, rfl, .inl (SqL.of hd), ?_, ?_⟩
            · have hz : ∀ n : Nat, n ≤ 6 → ((((List.range n).map fun j => ((toString (((an : Nat) : Int) / 2 ^ (((c : Nat) : Int) - 1 - ((j : Nat) : Int)).toNat % 2) : String) : Str)).map (·.length)).sum ≤ n * 1921) := by
                intro n
                induction n with
                | zero => intro _; exact Nat.le_refl _
                | succ n ih =>
                  intro hn
                  have h2 := ih (by omega)
                  rw [List.range_succ, List.map_append, List.map_append, List.sum_append]
                  have z1 := Int.emod_nonneg (((an : Nat) : Int) / 2 ^ (((c : Nat) : Int) - 1 - ((n : Nat) : Int)).toNat) (show (2 : Int) ≠ 0 by decide)
                  have z2 := Int.emod_lt_of_pos (((an : Nat) : Int) / 2 ^ (((c : Nat) : Int) - 1 - ((n : Nat) : Int)).toNat) (show (0 : Int) < 2 by decide)
                  have z3 := num_len (log_small z1 (by omega))
                  show _ + (((toString (((an : Nat) : Int) / 2 ^ (((c : Nat) : Int) - 1 - ((n : Nat) : Int)).toNat % 2) : String) : Str).length + 0) ≤ _
                  omega
              have h := hz c hc6
              have z0 : (Str.ofString "").length = 0 := by decide +kernel
              rw [z0, Nat.mul_zero]
              omega
            · exact ⟨rfl, j17.same sm⟩
        · have cs := Bool.eq_false_iff.mpr cs
          subst cs
          exact ⟨rfl, j17⟩
      rintro σ H18 ⟨rfl, j18⟩
      -- name_at, at_name
      obtain ⟨fn, mn⟩ := M.na
      obtain ⟨fa, mma⟩ := M.an
      have hrep := short_repr (x := nameOf s c an) (by omega) hs2
      refine ⟨_, rfl, p, C, dx, _, fn, _, rfl, j18.hp, f_name, mn, _, rfl, p, _, C, dx, _, l, namesOf s c, nameOf s c an, rfl, j18.hp, M.lc.cl, M.nn, f_nms, SqL.of j18.hl, by omega, ?_, ?_⟩
      · rw [show ((an : Nat) : Int).toNat = an by omega]
        exact hat
      refine ⟨_, rfl, p, C, dx, _, fa, _, rfl, j18.hp, f_atn, mma, _, rfl, p, nameOf s c an, C, dx, _, l, namesOf s c, rfl, j18.hp, M.lc.cl, M.nn, f_nms, SqL.of j18.hl, nd, by omega, hrep, fun jj hjj => ?_, fun hno => absurd (List.mem_of_getElem? hat) hno⟩
      have ejj : jj = an := nd_ix nd hjj hat
      subst ejj
      refine ⟨(by show 2 ≤ sizeLine; decide), fun q4 n4 => ?_⟩
      refine ⟨_, rfl, _, rfl, (by show 2 ≤ sizeLine; decide), fun q5 n5 => ?_⟩
      refine ⟨_, _, rfl, lk_list ((Same.new n5) _ _ upd_same) upd_same (by show 2 ≤ 1000; decide) (by intro x hx; simp at hx; rcases hx with rfl | rfl <;> rfl), fun H19 s19 => ⟨true, rfl, iteF ?_⟩⟩
      have j19 := j18.same ((Same.new n4).trans ((Same.new n5).trans s19))
      -- words
      have one : ∀ x ∈ ([Str.ofString "0", Str.ofString "1", Str.ofString "_", Str.ofString " ", Str.ofString "+"] : List Str), x.length ≤ 1 := by decide +kernel
      have o0 := one (Str.ofString "0") (by decide +kernel)
      have o1 := one (Str.ofString "1") (by decide +kernel)
      have o2 := one (Str.ofString "_") (by decide +kernel)
      have o3 := one (Str.ofString " ") (by decide +kernel)
      have o4 := one (Str.ofString "+") (by decide +kernel)
      refine ⟨_, rfl, _, _, rfl, rfl, small_of (by omega), ?_⟩
      refine ⟨_, rfl, _, rfl, _, rfl, small_of (by omega), ?_⟩
      refine ⟨_, rfl, _, _, rfl, rfl, small_of (by omega), _, _, rfl, rfl, small_of (by rw [app_len]; omega), ?_⟩
      refine ⟨_, rfl, _, _, rfl, rfl, small_of (by omega), ?_⟩
      refine ⟨_, rfl, _, _, rfl, rfl, small_of (by omega), ?_⟩
      refine ⟨_, rfl, _, _, rfl, rfl, small_of (by omega), (by show 8 ≤ sizeLine; decide), fun q6 n6 => ?_⟩
      have j20 := j19.same (Same.new (o := .lst ((wordsOf (nameOf s c jj)).map V.str)) n6)
      have h20 : upd H19 q6 (.lst ((wordsOf (nameOf s c jj)).map V.str)) q6 = some (.lst ((wordsOf (nameOf s c jj)).map V.str)) := upd_same
      -- word
      obtain ⟨c0, cs0, i0, le0, m0, g1, g2, _⟩ := id j19.src
      have nq6 : q6 ≠ st := fun e => by rw [e, g1] at n6; cases n6
      refine ⟨_, rfl, _, rfl, st, 8, rfl, j20.src, by decide, by decide, fun d6 H21 d60 d61 k21 S21 => ?_⟩
      have j21 := j20.pick k21 S21
      have h21 : H21 q6 = some (.lst ((wordsOf (nameOf s c jj)).map V.str)) := (k21 q6 nq6).trans h20
      have hwl : d6.toNat < (wordsOf (nameOf s c jj)).length := by
        show d6.toNat < 8
        omega
      have hwd : (wordsOf (nameOf s c jj))[d6.toNat]? = some ((wordsOf (nameOf s c jj))[d6.toNat]) := List.getElem?_eq_getElem hwl
      have hnear := near_words hshort _ (List.mem_of_getElem? hwd)
      generalize (wordsOf (nameOf s c jj))[d6.toNat] = wd at hwd hnear
      have hn1 : wd.length ≤ 20 := hnear.1
      refine ⟨_, _, _, _, rfl, rfl, SqL.of h21, at_strs d60 hwd, ?_⟩
      -- the names, the unknown word
      refine ⟨_, rfl, _, rfl, _, rfl, _, rfl, by omega, by omega, fun D hD => ?_⟩
      rw [show ((sizeOf s c : Nat) : Int).toNat = sizeOf s c by omega]
      refine lc_range (lo := 0) (n := sizeOf s c) (fun b H2 => Same H21 H2 ∧ H2 D = some (.lst (((namesOf s c).take b).map V.str))) ⟨Same.new hD, upd_same⟩ ?_ ?_
      · rintro b2 H2 hb2 ⟨sm, hd⟩
        have j22 := j21.same sm
        have hat2 := hnm b2 (List.mem_range.mpr hb2)
        refine ⟨rfl, _, rfl, p, C, dx, _, fn, _, rfl, j22.hp, f_name, mn, _, rfl, p, _, C, dx, _, l, namesOf s c, nameOf s c b2, rfl, j22.hp, M.lc.cl, M.nn, f_nms, SqL.of j22.hl, by omega, ?_, _, hd, ?_, ?_, ?_⟩
        · rw [show ((0 : Int) + (b2 : Nat)).toNat = b2 by omega]
          exact hat2
        · rw [List.length_map, List.length_take]
          exact small1000 (by omega)
        · intro x o e
          rw [upd_ne (ne_of_none e hD)]
          exact sm x o e
        · rw [upd_same, take_more hat2, List.map_append]
          rfl
      · rintro H2 ⟨sm, hd⟩
        have j22 := j21.same sm
        rw [← hNl, List.take_length] at hd
        refine ⟨p, wd, D, C, dx, l, _, _, namesOf s c, _, _, _, _, rfl, j22.hp, j22.hl, M, SqL.of hd, nd, by omega, short_repr (by omega) hnear.2, by omega, fun H23 s23 => ⟨true, rfl, iteF ?_⟩⟩
        exact ⟨_, _, _, _, _, _, _, rfl, j22.same s23⟩
    · rintro σ H12 ⟨v8, v10, v11, v12, v13, v14, v15, rfl, j12⟩
      exact k _
end
end Lk03

set_option maxHeartbeats 0
namespace Lk03
open PySem PySem.Spec PyProof.Rows L2 He HkS Bs
abbrev R : PySem.W.OpenRow := PySem.W.OpenLaw.row PySem.Challenge.rw_latticewish_k03_chains_and_sets
abbrev hk : PySem.W.Hook := hookM 5 PG fal fnl exl more
def ob (s : PySem.W.SharedT) : AlM := obsMG 5 PG fal fnl exl more (HandSHeadRun.getT s)
theorem ob_eq (s : PySem.W.SharedT) : ob s = hk.obs s.abs := obsMG_eq (HandSHeadRun.getT_eq s)
def loose : List PySem.Str := ["__name__", "LatticeError", "BadLattice", "NameMissing", "UnknownValue", "place_of", "Lattice", "_MOST_VALUES", "_MOST_MARKS", "ChainLattice", "SetLattice", "_check_count", "_law_cells", "_law_pick", "_law_like", "_law_due", "_law_unknown"]
theorem run (w : World) : HandSHeadRun.RunEq R (PySem.W.view R.prog [21]) hk ob 8000 loose w := by
  intro os
  kernel_rfl
end Lk03
open PySem PySem.W PySem.Calls PyProof.Rows
theorem PySem.Challenge.cw_latticewish_k03_chains_and_sets_holds : PySem.Challenge.rw_latticewish_k03_chains_and_sets.Holds := by
  w_on; o_law
  refine HandSHeadRun.head_any (r := OpenLaw.row PySem.Challenge.rw_latticewish_k03_chains_and_sets) (q := view (OpenLaw.row PySem.Challenge.rw_latticewish_k03_chains_and_sets).prog [21]) (H := Lk03.hk) (ob := Lk03.ob) (M := 8000) (loose := Lk03.loose) (d := HandSHeadRun.topDef (OpenLaw.row PySem.Challenge.rw_latticewish_k03_chains_and_sets).prog 21) (kwd := []) Lk03.ob_eq
    (by kernel_rfl) (fun s => by kernel_rfl) Lk03.run (by kernel_rfl) (by kernel_rfl) (by kernel_rfl) (by rfl) (by first | assumption | decide +kernel) (by decide +kernel) ⟨rfl, rfl, rfl, rfl, rfl, by decide +kernel⟩ ?hw ?hc
  case hw => w_witness2
  case hc =>
    refine L2.walk_ofE (l := PySem.Challenge.rw_latticewish_k03_chains_and_sets) (n := 63) (k := 9) (x := "script") (CX := L2.CX0) rfl (by decide) (by kernel_rfl) ⟨rfl, by decide, by decide⟩ ?F (fun _ _ _ _ z => z)
    intro w mg fa h Y G hmg0
    obtain ⟨K, KX, c⟩ := Y
    have hmg : mg ("law" : PySem.Str) = some (.ref fa) := by
      have e : (HandSHeadRun.topDef (OpenLaw.row PySem.Challenge.rw_latticewish_k03_chains_and_sets).prog 21).name = ("law" : PySem.Str) := by kernel_rfl
      rw [← e]
      exact hmg0
    have Z := Lk03.ctx_of KX G c
    have e := hmg.symm.trans (Lk03.g_law Z)
    cases e
    obtain ⟨fd0, F0⟩ := Lk03.fd_law Z
    have hb0 := L2.FunD.bindsA (ps := ["script"]) F0 fun _ _ _ _ _ _ us hl => match us, hl with | [_], _ => rfl
    exact Bs.law_end KX F0 (fun s u => hb0 s [u] rfl) (fun base => Lk03.ok_law (P := (PySem.Challenge.rw_latticewish_k03_chains_and_sets).prog) (w := w) (base := base) Z rfl) (fun H a ns hl hS => ⟨a, ns, rfl, hS, hl, fun _ => rfl⟩)


