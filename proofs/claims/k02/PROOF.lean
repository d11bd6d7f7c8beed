import PyProof.Rows.All
import Wide.All
import OpenK.AllK
import Wide.FinOn
import KE.KExcSuper
import KE.KExcRaise
import PyProof.FString
import PyProof.FString4
import HandS.Base
import HandS.Call
import HandS.Exc
import HandS.ForExc
import HandS.ExcField
import HandS.Small
import KE.KStateDown
import HandS.Defaults
import HandS.Head0
import HandS.Head1
import HandS.Head2
import HandS.HeadEnd
import HandS.HeadHook1
import HandS.HeadHook2
import HandS.ForMost
import HandS.Wide
import HandS.WordsExc
import HandS.CallSlots
import HandS.Codes
import HandS.IsInst
import HandS.FStr
import HandS.StrMore
import HandS.ExcIs
import HandS.TryOnly
import HandS.Slots
import HandS.ClsMeth
import HandS.Conv
import HandS.Strs
import HandS.ExcValue
import KE.KExcIs
import PyProof.StrOps2
import HandS.Zip
import HandS.Sort
import KE.OsArith
import PySem.Challenge.RW_latticewish_k02_bad_orders
set_option Elab.async false
set_option linter.all false
set_option maxRecDepth 100000
set_option maxHeartbeats 4000000
namespace ExS
open PySem PySem.W PySem.Calls PyProof.Rows PySem.Spec Builtin Builtin.ObjectAttr
/-- what the written part says of an own exception class at C whose own __init__ (at fI) begins with super().__init__(..) -/
structure ESup (prog : Program) (K : Frag) (C fI : Addr) (B newId initId : String) (bmB : List Value) (qual : Str) (params : Arguments) (body : List Stmt) (scope : Scope) : Prop where
  FB : ExcBaseFacts B newId initId bmB
  SF : StoreFacts B bmB "object.__setattr__" "object"
  KF : KxsFacts B initId
  ei : excInitIn K C bmB newId = true
  eo : excOver K C bmB = true
  hi : findIn K (.ref C) "__init__" = some (some (.ref fI))
  ff : isFn K (.ref fI) = true
  fn : ∃ oc od kV doc pm an ct osl cc cda ccl cdd vs ccs file tf cl cld csl, K.lookup fI = some ⟨oc, od, .func (fnX "__init__" qual params body scope [("__class__", cc)] .none kV doc pm an (.ref cda) ct), osl⟩ ∧ codeIn K (.ref cda) qual = true ∧
    K.lookup cda = some ⟨ccl, cdd, .fields vs, ccs⟩ ∧ vs[2]? = some (.str file tf) ∧ ((prog.main.file : Str) == file) = true ∧ K.lookup cc = some ⟨cl, cld, .cell (some (.ref C)), csl⟩
  mr : mroIn K C (.ref C) = some true
  si : ks_superIn K C C "__init__" = some (some (.builtin initId))
  sB : subIn K (.ref C) (.type B) = some true
  sa : findIn K (.ref C) "__setattr__" = some (some (.builtin "object.__setattr__"))
  th : nsIn K cStatics "thirdparty.any" = some none
/-- the names that stand in every heap here -/
structure BltOk (h : Heap) (prog : Program) : Prop where
  g : ∃ mg, h.Ns mainGlobals mg ∧ mg "super" = none
  b : ∃ mb, h.Ns builtinsNs mb ∧ mb "super" = some (.type "super")
  top : (prog.main.scope.names.lookup ("super" : Str)).isSome = false
theorem BltOk.keeps {h h' : Heap} {prog : Program} (b : BltOk h prog) (k : ∀ a o, h.get? a = some o → h'.get? a = some o) : BltOk h' prog := by
  obtain ⟨⟨mg, h1, h2⟩, ⟨mb, h3, h4⟩, h5⟩ := b
  exact ⟨⟨mg, h1.keeps k, h2⟩, ⟨mb, h3.keeps k, h4⟩, h5⟩
section
variable {prog : Program} {w : World} {A : Around} {E : Value → Shared → Prop} {R : Result → Shared → Prop} {s : Shared} {K : Frag} {C fI : Addr} {B newId initId : String} {bmB : List Value} {qual : Str} {params : Arguments} {body : List Stmt} {scope : Scope}
/-- BaseException.__init__ through the wrapper -/
theorem call_mw {h : Heap} {g : Array GenState} {d : Drawn} {t : Nat} {os : OsState} {u x t0 : Addr} {rest : List Value} {Q : Value → Shared → Prop} (T : ESup prog K C fI B newId initId bmB qual params body scope) (X : K.In h)
    (hx : h.get? x = some (PX.excO C t0)) (hu : h.get? u = some (kxs_mw initId x)) (hz : rest.length ≤ sizeLine)
    (hq : ∀ h' t1, (∀ b o, b ≠ x → h.get? b = some o → h'.get? b = some o) → h'.get? x = some (PX.excO C t1) → Q .none ⟨h', g, d, t, os⟩) :
    wpAny (model prog w) A (call (.ref u) rest) Q E ⟨h, g, d, t, os⟩ := by
  obtain ⟨nm, N', qn, bs, bm, hdct, sn, sub, ab, col, dd, k0, k1, k2, k3, k5, hC, hT⟩ := excInit_of X T.ei
  refine wpAny_call (codeAny_of_tree ?_)
  show wpAny _ A.in1 (callAny (.ref u) ⟨rest, []⟩) _ _ _
  simp only [callAny]
  refine wpAny_bind (wpAny_load hu ?_)
  simp only [kxs_mw, show (Value.type "method-wrapper" == Value.type "method" || Value.type "method-wrapper" == Value.type "builtin_function_or_method" || Value.type "method-wrapper" == Value.type "method-wrapper") = true by decide, if_true]
  refine KFB.if_so (by decide) ?_
  refine wpAny_bind (check_bound_init T.FB.toExcCallFacts hC hx rfl ?_)
  refine wpAny_bind (wpAny_pure (wpAny_pure ?_))
  refine ⟨plainId_quiet T.FB.init.plain _, codeAny_builtin T.FB.initEntry ?_⟩
  exact exc_init_tree (cls := .ref C) (t0 := t0) (dv := none) (c2 := .none) (c3 := .none) (b4 := .bool false) hx hz fun h' k he ht => hq h' _ k he
/-- the first store: the dict is made -/
theorem store_first {h : Heap} {g : Array GenState} {d : Drawn} {t : Nat} {os : OsState} {x t0 : Addr} {f : Str} {v : Value} {Q : Unit → Shared → Prop} (T : ESup prog K C fI B newId initId bmB qual params body scope) (X : K.In h)
    (hh : hasDictIn K C = true) (hno : findIn K (.ref C) f = some none) (hx : h.get? x = some (PX.excO C t0))
    (hq : ∀ h' tk dx, (∀ b o, b ≠ x → h.get? b = some o → h'.get? b = some o) → h.objs.size ≤ dx → dx ≠ x → h'.get? x = some { cls := .ref C, dict := some dx, data := .fields #[.ref t0, .none, .none, .none, .bool false, .none] } →
      h'.Ns1 dx (fun y => if y = f then some v else none) → Q () ⟨h', g, d, tk, os⟩) :
    wpAny (model prog w) A (setAttr (.ref x) f v) Q E ⟨h, g, d, t, os⟩ := by
  refine set_plain X (ox := PX.excO C t0) (od := none) ⟨hx, rfl, rfl, trivial⟩ T.sa ?_
  have I : InstAt h x (PX.excO C t0) C none := ⟨hx, rfl, rfl, trivial⟩
  refine osa_openX T.SF X I T.eo (r := none) (by unfold takerIn; rw [hno]; rfl) fun b => ?_
  obtain ⟨cd, hcd, hd⟩ := any_some hh
  have hxs : x ≠ h.objs.size := Nat.ne_of_lt (Heap.lt_size hx)
  have hcls : Looks (model prog w) h (classData C) cd := looks_clsIn X hcd
  obtain ⟨nm, bs, mro, ns, qn, hd', sn, sb, ab, col, del⟩ := cd
  dsimp only at hd
  subst hd
  show wpAny _ _ (storeInOwnDict (.ref x) (.ref C) (.str f _) f v b) _ _ _
  unfold storeInOwnDict ownDictForStores
  repeat (first | with_reducible refine PX.store_in_new ?_ ?_ | with_reducible refine wpAny_loadPart_at hx ?_ | with_reducible refine hcls.at ?_ | wp_step)
  · exact ⟨_, #[], _, (Heap.get?_update_ne _ _ _ _ hxs.symm).trans (Heap.get?_push_at rfl rfl), rfl, fun e he => absurd he (by simp), fun _ => rfl⟩
  · intro h' tk' hn' hs
    have hx1 : (h.push { cls := .type "dict", data := .dict #[] }).get? x = some (PX.excO C t0) := Heap.get?_push_of_some _ hx
    refine hq h' tk' h.objs.size (fun b o hb ho => ?_) (Nat.le_refl _) hxs.symm ?_ hn'
    · exact (hs.2 b (Nat.ne_of_lt (Heap.lt_size ho))).trans ((Heap.get?_update_ne _ _ _ _ hb).trans (Heap.get?_push_of_some _ ho))
    · exact (hs.2 x hxs).trans (Heap.get?_update_self _ hx1 rfl)
end
end ExS

set_option maxHeartbeats 4000000
namespace ExS
open PySem PySem.W PySem.Calls PyProof.Rows PySem.Spec Builtin Builtin.ObjectAttr
section
variable {prog : Program} {w : World} {A : Around} {E : Value → Shared → Prop} {R : Result → Shared → Prop} {s : Shared} {K : Frag} {C fI : Addr} {B newId initId : String} {bmB : List Value} {qual : Str} {params : Arguments} {body : List Stmt} {scope : Scope}
/-- the statement super().__init__(arg) -/
theorem super_stmt {arg : Expr} {p0 p1 p2 p3 p4 : Pos} {L cc cda x t0 : Addr} {m : Str → Option Value} {ar : Arg} {pl : Sem Bool} {Q : Flow → Shared → Prop} (T : ESup prog K C fI B newId initId bmB qual params body scope) (X : K.In s.heap) (bl : BltOk s.heap prog)
    (hk : scope.kind = .function) (hks : scope.names.lookup ("super" : Str) = some .globalImplicit) (hkc : scope.names.lookup ("__class__" : Str) = some .free) (hka : scope.names.lookup ar.arg = some .local)
    (hp : (params.posonlyargs ++ params.args).head? = some ar) (hn : s.heap.Ns L m) (hm : m ar.arg = some (.ref x)) (hx : s.heap.get? x = some (PX.excO C t0))
    {oc : Value} {od : Option Addr} {kV doc pm ct : Value} {an : Option Addr} {osl : Array (Option Value)} {ccl : Value} {cdd : Option Addr} {vs : Array Value} {ccs : Array (Option Value)} {file : Str} {tf : Tok} {cl : Value} {cld : Option Addr} {csl : Array (Option Value)}
    (hf : K.lookup fI = some ⟨oc, od, .func (fnX "__init__" qual params body scope [("__class__", cc)] .none kV doc pm an (.ref cda) ct), osl⟩)
    (hcode : K.lookup cda = some ⟨ccl, cdd, .fields vs, ccs⟩) (hvs : vs[2]? = some (.str file tf)) (hfile : ((prog.main.file : Str) == file) = true) (hcell : K.lookup cc = some ⟨cl, cld, .cell (some (.ref C)), csl⟩)
    (ha : ∀ s' : Shared, (∀ b o, s.heap.get? b = some o → s'.heap.get? b = some o) → wpAny (model prog w) A (eval arg (ksEnv qual scope L fI (.ref cda) cc)) (fun _ s'' => ∃ tk, s'' = { s' with toks := tk }) E s')
    (hq : ∀ h' tk t1, (∀ b o, b ≠ x → s.heap.get? b = some o → h'.get? b = some o) → h'.get? x = some (PX.excO C t1) → Q .next { s with heap := h', toks := tk })
    (he : starEach (arg :: []) (ksEnv qual scope L fI (.ref cda) cc) = (false, eval arg (ksEnv qual scope L fI (.ref cda) cc)) :: starEach [] (ksEnv qual scope L fI (.ref cda) cc) := by rfl)
    (hee : eval (.Call (.Attribute (.Call (.Name "super" p0) [] [] p1) "__init__" p2) [arg] [] p3) (ksEnv qual scope L fI (.ref cda) cc) = (do
      let ov ← attributeBase (.Call (.Name "super" p0) [] [] p1) "__init__" (ksEnv qual scope L fI (.ref cda) cc) (eval (.Call (.Name "super" p0) [] [] p1) (ksEnv qual scope L fI (.ref cda) cc))
      standAt p2.atName
      let (f, first) ← holding [ov] (getMethod ov "__init__" pl)
      callWith p3 f first (backTo p3 (starEach [arg] (ksEnv qual scope L fI (.ref cda) cc))) []) := by rfl)
    (hi : interactive (ksEnv qual scope L fI (.ref cda) cc) = false := by rfl) (hs : swapsWith (.Call (.Attribute (.Call (.Name "super" p0) [] [] p1) "__init__" p2) [arg] [] p3) none p4.line (ksEnv qual scope L fI (.ref cda) cc) = pure false := by rfl) :
    _root_.PySem.wpAt (model prog w) A (.func body (ksEnv qual scope L fI (.ref cda) cc)) (exec (.Expr (.Call (.Attribute (.Call (.Name "super" p0) [] [] p1) "__init__" p2) [arg] [] p3) p4) (ksEnv qual scope L fI (.ref cda) cc)) Q E s := by
  obtain ⟨hC1, hC2⟩ : (∃ oD, s.heap.get? C = some oD ∧ ∃ cd, oD.data = .cls cd) ∧ ∃ cd, clsIn K C = some cd := by
    have z := T.si
    unfold ks_superIn at z
    cases hc : clsIn K C with
    | none => rw [hc] at z; cases z
    | some cd =>
      refine ⟨?_, cd, rfl⟩
      unfold clsIn at hc
      split at hc
      · rename_i c d cd' sl ho
        exact ⟨_, X _ _ ho, _, rfl⟩
      · cases hc
  obtain ⟨oD, hD1, cdD, hD2⟩ := hC1
  obtain ⟨cd, hcd⟩ := hC2
  have si := T.si
  unfold ks_superIn at si
  rw [hcd] at si
  obtain ⟨⟨mg, hg1, hg2⟩, ⟨mb, hb1, hb2⟩, htop⟩ := bl
  have I0 : InstAt s.heap x (PX.excO C t0) C none := ⟨hx, rfl, rfl, trivial⟩
  have hxC : x ≠ C := ks_ne X I0 hcd
  refine ks_wpAt_Expr_any (ks_wpAt_MethodCall (pl := pl) ?_ hee) hi hs
  refine ks_wpAt_super_base (env := ksEnv qual scope L fI (.ref cda) cc) hks hkc (by decide +kernel) rfl (X _ _ hf) rfl hp rfl (X _ _ hcode) rfl hvs hfile htop ?_
  refine ks_loadName_global hk hks (loadGlobal_builtin (env := ksEnv qual scope L fI (.ref cda) cc) hg1 hg2 hb1 hb2 ⟨rfl, ?_⟩)
  refine wpAny_loadName_free hk hkc rfl ⟨_, X _ _ hcell, rfl⟩ ?_
  refine wpAny_loadName_local hk hka hn hm ?_
  refine ks_wpAny_isType_cls hD1 hD2 ⟨rfl, ?_⟩
  obtain ⟨hh, g, d, t, os⟩ := s
  refine ks_wpAny_call_super hD1 hD2 hx rfl (fun c e => by cases e) (looks_mroIn X T.mr) (fun h1 e1 k1 => ?_)
  have X1 : K.In h1 := X.keeps k1
  have hx1 := k1 _ _ hx
  have I1 : InstAt h1 x (PX.excO C t0) C none := ⟨hx1, rfl, rfl, trivial⟩
  refine kxs_getMethod (l₀ := cd.mro) T.KF e1 (looks_opaque X1 T.th) (fun A Q E s k q => wpAny_bind ((looks_clsIn X1 hcd) A _ E s k (wpAny_pure q))) rfl X1 si (I1.type.andThen (looks_subIn X1 T.sB)) hxC (by decide +kernel) ?_
  have k2 : ∀ b o, hh.get? b = some o → (h1.push (kxs_mw initId x)).get? b = some o := fun b o e => Heap.get?_push_of_some _ (k1 b o e)
  have hu : (h1.push (kxs_mw initId x)).get? h1.objs.size = some (kxs_mw initId x) := Heap.get?_push_at rfl rfl
  show wpAny _ _ (callWith p3 (.ref h1.objs.size) [] (backTo p3 (starEach (arg :: []) (ksEnv qual scope L fI (.ref cda) cc))) []) _ _ _
  rw [he]
  refine kxs_callWith (i := initId) (x := x) rfl ?_
  refine evalArgs_plain ?_
  refine Calls.spliced_cons (wpAny_mono (ha ⟨h1.push (kxs_mw initId x), g, d, t + 1, os⟩ k2) (fun v s2 hv => ?_) fun _ _ z => z)
  obtain ⟨tk, rfl⟩ := hv
  refine Calls.spliced_nil ?_
  refine ⟨hu, ?_⟩
  refine call_mw T (X.keeps k2) (k2 _ _ hx) hu (by rw [sizeLine_eq]; show 1 ≤ 16777216; decide) fun h' t1 k' hx' => ?_
  exact hq h' _ t1 (fun b o hb e => k' b o hb (k2 b o e)) hx'
end
end ExS

set_option maxHeartbeats 4000000
namespace ExS
open PySem PySem.W PySem.Calls PyProof.Rows PySem.Spec Builtin Builtin.ObjectAttr
abbrev a0 (p1 : Pos) : Arguments := { posonlyargs := [], args := [{ arg := "self", annotation := none, pos := p1 }], vararg := none, kwonlyargs := [], kw_defaults := [], kwarg := none, defaults := [] }
abbrev a1 (f : Str) (p1 p2 : Pos) : Arguments := { posonlyargs := [], args := [{ arg := "self", annotation := none, pos := p1 }, { arg := f, annotation := none, pos := p2 }], vararg := none, kwonlyargs := [], kw_defaults := [], kwarg := none, defaults := [] }
abbrev supSt (arg : Expr) (p0 p1 p2 p3 p4 : Pos) : Stmt := .Expr (.Call (.Attribute (.Call (.Name "super" p0) [] [] p1) "__init__" p2) [arg] [] p3) p4
abbrev b0 (arg : Expr) (p0 p1 p2 p3 p4 : Pos) : List Stmt := [supSt arg p0 p1 p2 p3 p4]
abbrev b1 (arg : Expr) (f : Str) (p0 p1 p2 p3 p4 q1 q2 q3 q4 : Pos) : List Stmt := [supSt arg p0 p1 p2 p3 p4, .Assign [.Attribute (.Name "self" q1) f q2] (.Name f q3) q4]
abbrev s0 : Scope := { kind := .function, names := [(PySem.Str.ofString "self", .local), (PySem.Str.ofString "__class__", .free), (PySem.Str.ofString "super", .globalImplicit)], isGenerator := false, isCoroutine := false, more := [] }
abbrev s1 (f : Str) : Scope := { kind := .function, names := [(PySem.Str.ofString "self", .local), (f, .local), (PySem.Str.ofString "__class__", .free), (PySem.Str.ofString "super", .globalImplicit)], isGenerator := false, isCoroutine := false, more := [] }
/-- the argument of super().__init__ is a plain expression -/
structure ArgOk (arg : Expr) (p0 p1 p2 p3 p4 : Pos) : Prop where
  he : ∀ env : Env, starEach (arg :: []) env = (false, eval arg env) :: starEach [] env
  hee : ∃ plf : Env → Sem Bool, ∀ env : Env, eval (.Call (.Attribute (.Call (.Name "super" p0) [] [] p1) "__init__" p2) [arg] [] p3) env = (do
      let ov ← attributeBase (.Call (.Name "super" p0) [] [] p1) "__init__" env (eval (.Call (.Name "super" p0) [] [] p1) env)
      standAt p2.atName
      let (f, first) ← holding [ov] (getMethod ov "__init__" (plf env))
      callWith p3 f first (backTo p3 (starEach [arg] env)) [])
  hs : ∀ env : Env, swapsWith (.Call (.Attribute (.Call (.Name "super" p0) [] [] p1) "__init__" p2) [arg] [] p3) none p4.line env = pure false
section
variable {prog : Program} {w : World} {A : Around} {R : Result → Shared → Prop} {s : Shared} {K : Frag} {C fI : Addr} {B newId initId : String} {bmB : List Value} {qual : Str}
theorem made0 {arg : Expr} {p1 p0 q1 q2 q3 q4 : Pos} (O : ArgOk arg p0 q1 q2 q3 q4) (T : ESup prog K C fI B newId initId bmB qual (a0 p1) (b0 arg p0 q1 q2 q3 q4) s0) (X : K.In s.heap) (bl : BltOk s.heap prog) (hlim : s.heap.NoLimit) (hroom : A.depth + 1 < recursionLimit)
    (ha : ∀ (A' : Around) (E' : Value → Shared → Prop) (s' : Shared) (L cda cc : Addr), wpAny (model prog w) A' (eval arg (ksEnv qual s0 L fI (.ref cda) cc)) (fun _ s'' => ∃ tk, s'' = { s' with toks := tk }) E' s')
    (hq : ∀ h' tk e t1, (∀ b o, s.heap.get? b = some o → h'.get? b = some o) → s.heap.objs.size ≤ e → h'.get? e = some (PX.excO C t1) → R (.ok (.ret (.ref e))) { s with heap := h', toks := tk }) :
    codeAny (model prog w) A (.call (.ref C) ⟨[], []⟩) R s := by
  obtain ⟨nm, N', qn, bs, bm, hdct, sn, sub, ab, col, dd, k0, k1, k2, k3, k5, hC, hT⟩ := excInit_of X T.ei
  obtain ⟨oI, hoI, hcI⟩ : ∃ oI, s.heap.get? fI = some oI ∧ oI.cls = .type "function" := by
    obtain ⟨o, ho, hc⟩ := Option.map_eq_some_iff.mp (show (K.lookup fI).map (·.cls) = some (.type "function") from beq_iff_eq.mp T.ff)
    exact ⟨o, X _ _ ho, hc⟩
  obtain ⟨oc, od, kV, doc, pm, an, ct, osl, cc, cda, ccl, cdd, vs, ccs, file, tf, cl, cld, csl, hf, hcd, hcode, hvs, hfile, hcell⟩ := T.fn
  obtain ⟨plf, plh⟩ := O.hee
  obtain ⟨hp, g, d, tk, os⟩ := s
  refine PX.call_own T.FB hT hC (looks_findIn X T.hi) (fun self => exc_bind hoI hcI self) (by rw [sizeLine_eq]; show 0 ≤ 16777216; decide) ?_
  have kk : ∀ b o, hp.get? b = some o → ((hp.push (kdv_tup [])).push (PX.excO C hp.objs.size)).get? b = some o := fun b o e => Heap.get?_push_of_some _ (Heap.get?_push_of_some _ e)
  have hx : ((hp.push (kdv_tup [])).push (PX.excO C hp.objs.size)).get? (hp.objs.size + 1) = some (PX.excO C hp.objs.size) := by heap_get
  generalize ((hp.push (kdv_tup [])).push (PX.excO C hp.objs.size)) = h1 at kk hx
  have X1 : K.In h1 := X.keeps kk
  refine ks_codeAny_call_defAt (fd := fnX "__init__" qual (a0 p1) (b0 arg p0 q1 q2 q3 q4) s0 [("__class__", cc)] .none kV doc pm an (.ref cda) ct) (body := b0 arg p0 q1 q2 q3 q4) (binds := [("self", .ref (hp.objs.size + 1))]) ?_ (X1 _ _ hf) rfl (hlim.keeps kk) (codeRec_of X1 hcd) rfl (BindsTo.of_eq rfl) (fun x hx => (by decide : ∀ x ∈ s0.names, x.2 ≠ .cell) x hx) (by intro x hx; cases hx with | head => rfl | tail _ h => cases h) (fun h2 hns hk2 => ?_)
  · show A.depth + 1 < recursionLimit
    exact hroom
  · refine ks_wpAt_execs_cons ?_
    have k12 : ∀ b o, hp.get? b = some o → h2.get? b = some o := fun b o e => hk2 b o (kk b o e)
    refine super_stmt (s := ⟨h2, g, d, _, os⟩) (ar := { arg := "self", annotation := none, pos := p1 }) T (X1.keeps hk2) (bl.keeps k12) rfl rfl rfl rfl rfl hns rfl (hk2 _ _ hx) hf hcode hvs hfile hcell (fun s' _ => ha _ _ s' _ _ _) (fun h' tk2 t1 k' hx' => ?_) (O.he _) (plh _) rfl (O.hs _)
    refine wpAt_of_wpAny (wpAny_execs_nil ?_)
    refine ⟨rfl, ?_⟩
    exact hq h' tk2 _ t1 (fun b o e => k' b o (Nat.ne_of_lt (Nat.lt_succ_of_lt (Heap.lt_size e))) (k12 b o e)) (Nat.le_succ _) hx'
theorem made1 {arg : Expr} {f : Str} {p1 p2 p0 q1 q2 q3 q4 r1 r2 r3 r4 : Pos} {v : Value} (O : ArgOk arg p0 q1 q2 q3 q4) (T : ESup prog K C fI B newId initId bmB qual (a1 f p1 p2) (b1 arg f p0 q1 q2 q3 q4 r1 r2 r3 r4) (s1 f)) (hh : hasDictIn K C = true) (hno : findIn K (.ref C) f = some none) (X : K.In s.heap) (bl : BltOk s.heap prog) (hlim : s.heap.NoLimit) (hroom : A.depth + 1 < recursionLimit)
    (hf1 : ¬ f = "self") (hf2 : ¬ f = "__class__") (hf3 : ¬ f = "super") (hf4 : (f == ("__debug__" : Str)) = false)
    (hbd : ∀ (kV doc pm ct : Value) (an : Option Addr) (cc cda : Addr) (u u' : Value), bindArgs (fnX "__init__" qual (a1 f p1 p2) (b1 arg f p0 q1 q2 q3 q4 r1 r2 r3 r4) (s1 f) [("__class__", cc)] .none kV doc pm an (.ref cda) ct) ⟨[u, u'], []⟩ = pure ([(("self" : Str), u), (f, u')] : List (Str × Value)))
    (ha : ∀ (A' : Around) (E' : Value → Shared → Prop) (s' : Shared) (L cda cc : Addr) (m : Str → Option Value), s'.heap.Ns L m → m f = some v → wpAny (model prog w) A' (eval arg (ksEnv qual (s1 f) L fI (.ref cda) cc)) (fun _ s'' => ∃ tk, s'' = { s' with toks := tk }) E' s')
    (hq : ∀ h' tk e t1 dx, (∀ b o, s.heap.get? b = some o → h'.get? b = some o) → s.heap.objs.size ≤ e → s.heap.objs.size ≤ dx → dx ≠ e → h'.get? e = some { cls := .ref C, dict := some dx, data := .fields #[.ref t1, .none, .none, .none, .bool false, .none] } →
      h'.Ns1 dx (fun y => if y = f then some v else none) → R (.ok (.ret (.ref e))) { s with heap := h', toks := tk }) :
    codeAny (model prog w) A (.call (.ref C) ⟨[v], []⟩) R s := by
  obtain ⟨nm, N', qn, bs, bm, hdct, sn, sub, ab, col, dd, k0, k1, k2, k3, k5, hC, hT⟩ := excInit_of X T.ei
  obtain ⟨oI, hoI, hcI⟩ : ∃ oI, s.heap.get? fI = some oI ∧ oI.cls = .type "function" := by
    obtain ⟨o, ho, hc⟩ := Option.map_eq_some_iff.mp (show (K.lookup fI).map (·.cls) = some (.type "function") from beq_iff_eq.mp T.ff)
    exact ⟨o, X _ _ ho, hc⟩
  obtain ⟨oc, od, kV, doc, pm, an, ct, osl, cc, cda, ccl, cdd, vs, ccs, file, tf, cl, cld, csl, hf, hcd, hcode, hvs, hfile, hcell⟩ := T.fn
  have lf : (s1 f).names.lookup f = some .local := by
    show List.lookup f [(PySem.Str.ofString "self", NameKind.local), (f, .local), (PySem.Str.ofString "__class__", .free), (PySem.Str.ofString "super", .globalImplicit)] = _
    simp [List.lookup, show (f == ("self" : Str)) = false by simpa using hf1]
  have lc : (s1 f).names.lookup ("__class__" : Str) = some .free := by
    have e1 : (("__class__" : Str) == f) = false := by simpa using (fun z => hf2 z.symm)
    show List.lookup ("__class__" : Str) [(PySem.Str.ofString "self", NameKind.local), (f, .local), (PySem.Str.ofString "__class__", .free), (PySem.Str.ofString "super", .globalImplicit)] = _
    simp [List.lookup, e1, show (("__class__" : Str) == ("self" : Str)) = false by decide +kernel]
  have ls : (s1 f).names.lookup ("super" : Str) = some .globalImplicit := by
    have e1 : (("super" : Str) == f) = false := by simpa using (fun z => hf3 z.symm)
    show List.lookup ("super" : Str) [(PySem.Str.ofString "self", NameKind.local), (f, .local), (PySem.Str.ofString "__class__", .free), (PySem.Str.ofString "super", .globalImplicit)] = _
    simp [List.lookup, e1, show (("super" : Str) == ("self" : Str)) = false by decide +kernel, show (("super" : Str) == ("__class__" : Str)) = false by decide +kernel]
  obtain ⟨plf, plh⟩ := O.hee
  obtain ⟨hp, g, d, tk, os⟩ := s
  refine PX.call_own T.FB hT hC (looks_findIn X T.hi) (fun self => exc_bind hoI hcI self) (by rw [sizeLine_eq]; show 1 ≤ 16777216; decide) ?_
  have kk : ∀ b o, hp.get? b = some o → ((hp.push (kdv_tup [v])).push (PX.excO C hp.objs.size)).get? b = some o := fun b o e => Heap.get?_push_of_some _ (Heap.get?_push_of_some _ e)
  have hx : ((hp.push (kdv_tup [v])).push (PX.excO C hp.objs.size)).get? (hp.objs.size + 1) = some (PX.excO C hp.objs.size) := by heap_get
  have hz : ((hp.push (kdv_tup [v])).push (PX.excO C hp.objs.size)).objs.size = hp.objs.size + 2 := by rw [Heap.size_push, Heap.size_push]
  generalize ((hp.push (kdv_tup [v])).push (PX.excO C hp.objs.size)) = h1 at kk hx hz
  have X1 : K.In h1 := X.keeps kk
  have hxself : (("self" : Str) == f) = false := by simpa using (fun z => hf1 z.symm)
  refine ks_codeAny_call_defAt (fd := fnX "__init__" qual (a1 f p1 p2) (b1 arg f p0 q1 q2 q3 q4 r1 r2 r3 r4) (s1 f) [("__class__", cc)] .none kV doc pm an (.ref cda) ct) (body := b1 arg f p0 q1 q2 q3 q4 r1 r2 r3 r4) (binds := [("self", .ref (hp.objs.size + 1)), (f, v)]) ?_ (X1 _ _ hf) rfl (hlim.keeps kk) (codeRec_of X1 hcd) rfl (BindsTo.of_eq ?_) (fun y hy => ?_) (fun y hy => ?_) (fun h2 hns hk2 => ?_)
  · show A.depth + 1 < recursionLimit
    exact hroom
  · exact hbd _ _ _ _ _ _ _ _ _
  · cases hy with
    | head => intro z; cases z
    | tail _ hy => cases hy with
      | head => intro z; cases z
      | tail _ hy => cases hy with
        | head => intro z; cases z
        | tail _ hy => cases hy with
          | head => intro z; cases z
          | tail _ hy => cases hy
  · cases hy with
    | head => rfl
    | tail _ hy => cases hy with
      | head => exact lf
      | tail _ hy => cases hy
  · refine ks_wpAt_execs_cons ?_
    have k12 : ∀ b o, hp.get? b = some o → h2.get? b = some o := fun b o e => hk2 b o (kk b o e)
    have mS : ([("self", Value.ref (hp.objs.size + 1)), (f, v)] : List (Str × Value)).reverse.lookup ("self" : Str) = some (.ref (hp.objs.size + 1)) := by
      show List.lookup ("self" : Str) [(f, v), ("self", Value.ref (hp.objs.size + 1))] = _
      simp [List.lookup, hxself]
    have mF : ([("self", Value.ref (hp.objs.size + 1)), (f, v)] : List (Str × Value)).reverse.lookup f = some v := by
      show List.lookup f [(f, v), ("self", Value.ref (hp.objs.size + 1))] = _
      simp [List.lookup]
    refine super_stmt (s := ⟨h2, g, d, _, os⟩) (ar := { arg := "self", annotation := none, pos := p1 }) T (X1.keeps hk2) (bl.keeps k12) rfl ls lc rfl rfl hns mS (hk2 _ _ hx) hf hcode hvs hfile hcell (fun s' ks => ha _ _ s' _ _ _ _ (hns.keeps ks) mF) (fun h3 tk2 t1 k3 hx3 => ?_) (O.he _) (plh _) rfl (O.hs _)
    have hLx : h1.objs.size ≠ hp.objs.size + 1 := by omega
    have hns3 : h3.Ns h1.objs.size (fun y => ([("self", Value.ref (hp.objs.size + 1)), (f, v)] : List (Str × Value)).reverse.lookup y) := by
      obtain ⟨oL, es, ep, hL, r⟩ := hns
      exact ⟨oL, es, ep, k3 _ _ hLx hL, r⟩
    have k13 : ∀ b o, hp.get? b = some o → h3.get? b = some o := fun b o e => k3 b o (Nat.ne_of_lt (Nat.lt_succ_of_lt (Heap.lt_size e))) (k12 b o e)
    have X3 : K.In h3 := X.keeps k13
    refine ks_wpAt_execs_cons (ks_wpAt_Assign_Attr (wpAt_of_wpAny ?_))
    refine wpAny_Name (wpAny_loadName_local rfl lf hns3 mF ?_) hf4
    refine wpAny_Name (wpAny_loadName_local rfl rfl hns3 mS ?_)
    refine store_first T X3 hh hno hx3 fun h4 tk4 dx k4 dn dne hx4 hn4 => ?_
    refine wpAt_of_wpAny (wpAny_execs_nil ?_)
    refine ⟨rfl, ?_⟩
    refine hq h4 tk4 _ t1 dx (fun b o e => k4 b o (Nat.ne_of_lt (Nat.lt_succ_of_lt (Heap.lt_size e))) (k13 b o e)) (Nat.le_succ _) ?_ dne hx4 hn4
    have z1 := Heap.lt_size hx3
    show hp.objs.size ≤ dx
    exact Nat.le_trans (Nat.le_of_lt (Nat.lt_trans (Nat.lt_succ_self _) z1)) dn
end
end ExS

set_option maxHeartbeats 4000000
namespace ExS
open PySem PySem.Spec PyProof.Rows L2
/-- an own exception class without arguments: what a call of it makes -/
structure E0 (P : Program) (K : PySem.W.Frag) (C : Addr) : Prop where
  made : ∀ {w : World} {A : Around} {R : Result → Shared → Prop} {s : Shared}, K.In s.heap → BltOk s.heap P → s.heap.NoLimit → A.depth + 1 < recursionLimit →
    (∀ h' tk e t1, (∀ b o, s.heap.get? b = some o → h'.get? b = some o) → s.heap.objs.size ≤ e → h'.get? e = some (PX.excO C t1) → R (.ok (.ret (.ref e))) { s with heap := h', toks := tk }) →
    codeAny (model P w) A (.call (.ref C) ⟨[], []⟩) R s
  kC : PySem.W.keepIn K (.ref C) = true
  exC : PySem.W.subIn K (.ref C) (.type "BaseException") = some true
  tyC : PySem.W.typeIn K (.ref C) = some (.type "type")
/-- .. with one argument, kept in the field f -/
structure E1 (P : Program) (K : PySem.W.Frag) (C : Addr) (f : Str) (okv : V → Prop) : Prop where
  made : ∀ {w : World} {A : Around} {R : Result → Shared → Prop} {s : Shared} {v : V} {u : Value}, RelV v u → okv v → K.In s.heap → BltOk s.heap P → s.heap.NoLimit → A.depth + 1 < recursionLimit →
    (∀ h' tk e t1 dx, (∀ b o, s.heap.get? b = some o → h'.get? b = some o) → s.heap.objs.size ≤ e → s.heap.objs.size ≤ dx → dx ≠ e → h'.get? e = some { cls := .ref C, dict := some dx, data := .fields #[.ref t1, .none, .none, .none, .bool false, .none] } →
      h'.Ns1 dx (fun y => if y = f then some u else none) → R (.ok (.ret (.ref e))) { s with heap := h', toks := tk }) →
    codeAny (model P w) A (.call (.ref C) ⟨[u], []⟩) R s
  kC : PySem.W.keepIn K (.ref C) = true
  exC : PySem.W.subIn K (.ref C) (.type "BaseException") = some true
  tyC : PySem.W.typeIn K (.ref C) = some (.type "type")
theorem relO1 {v : V} {u : Value} (f : Str) (r : RelV v u) (y : Str) : RelO (List.lookup y [(f, v)]) (if y = f then some u else none) := by
  by_cases hw : y = f
  · subst hw
    rw [if_pos rfl]
    have q : List.lookup y [(y, v)] = some v := by simp [List.lookup]
    rw [q]
    exact r
  · rw [if_neg hw]
    have qw : (y == f) = false := by simpa using hw
    have q2 : List.lookup y [(f, v)] = none := by simp [List.lookup, qw]
    rw [q2]
    trivial
section
variable {X : Cx} {C : Addr} {f : Str} {okv : V → Prop}
theorem blt_of {pins : List (Addr × Obj)} {σ : L2.St} {H : Hp} {s : Shared} (I : Inv X pins σ H s) (hs : X.mg "super" = none) (ht : (X.prog.main.scope.names.lookup ("super" : Str)).isSome = false) : BltOk s.heap X.prog := by
  obtain ⟨mb, h1, h2⟩ := I.mod.blt
  have k := I.bk
  exact ⟨⟨X.mg, I.mod.glob.keeps k, hs⟩, ⟨mb, h1.keeps k, (h2 _ (by decide +kernel)).trans (by first | boot_by_name | rfl | kernel_rfl)⟩, ht⟩
theorem pmk_e0 {x : Str} {p pos : Pos} {k : Nat} (T : E0 X.prog X.K C) (gC : X.mg x = some (.ref C)) (hs : X.mg "super" = none) (ht : (X.prog.main.scope.names.lookup ("super" : Str)).isSome = false) (hr : Room k X.A) (hg : Gl X x := by rfl)
    (hdb : (x == ("__debug__" : Str)) = false := by decide) :
    PMk X (.Call (.Name x p) [] [] pos) (fun _ H Q => Q (.ref C) none H) := by
  intro pins s σ H Q I h
  refine wpAny_Call_Name_kw (ld_glob I hg gC ?_ hdb)
  refine PySem.W.callWith_K0 I.kIn T.kC ?_
  have hlim := I.nolimit
  have bl := blt_of I hs ht
  have X1 := I.kIn
  obtain ⟨hp, g, d, tk, os⟩ := s
  refine wpAny_call (T.made X1 bl hlim (by have := hr.dp; omega) fun h' tk' e t1 k' hn he => ?_)
  show MkP X pins σ Q (.ref e) ⟨h', g, d, tk', os⟩
  refine ⟨e, _, _, ⟨hp, g, d, tk, os⟩, H, .ref C, none, rfl, I, k', ?_, he, ⟨rfl, rfl⟩, rfl, rfl, I.hok.fresh hn, rfl, I.bare, raises_own T.exC T.tyC, h⟩
  exact Heap.get?_none_of_le hn
theorem pmk_e1 {x : Str} {a : Expr} {ta : TA} {p pos : Pos} {k : Nat} (T : E1 X.prog X.K C f okv) (gC : X.mg x = some (.ref C)) (hs : X.mg "super" = none) (ht : (X.prog.main.scope.names.lookup ("super" : Str)).isSome = false) (hr : Room k X.A) (ha : PA X [a] ta) (hg : Gl X x := by rfl)
    (hdb : (x == ("__debug__" : Str)) = false := by decide)
    (he : starEach (a :: []) X.env = (false, eval a X.env) :: starEach [] X.env := by rfl) (hpl : (backTo pos (starEach [] X.env)).any (·.1) = false := by rfl) :
    PMk X (.Call (.Name x p) [a] [] pos) (fun σ H Q => ta σ H fun vs H1 => ∃ v, vs = [v] ∧ okv v ∧ ∀ d, H1 d = none → Q (.ref C) (some d) (upd H1 d (.xd [(f, v)]))) := by
  intro pins s σ H Q I h
  refine wpAny_Call_Name_kw (ld_glob I hg gC ?_ hdb)
  refine PySem.W.callWith_K (h₀ := X.base) I.ok.mod.kin T.kC (thn (ha.run pos pins s σ H _ I h) fun us s1 hh => ?_) he hpl
  obtain ⟨vs, H1, I1, r1, v, ev, ov, q1⟩ := hh
  subst ev
  refine ⟨I1.kIn, ?_⟩
  cases r1 with
  | cons rv rn =>
    rename_i v' us'
    cases rn
    show wpAny _ _ (call (.ref C) [v']) _ _ _
    have hlim := I1.nolimit
    have bl := blt_of I1 hs ht
    have X1 := I1.kIn
    obtain ⟨hp, g, d, tk, os⟩ := s1
    refine wpAny_call (T.made rv ov X1 bl hlim (by have := hr.dp; omega) fun h' tk' e t1 dx k' hn dn dne heo hns => ?_)
    show MkP X pins σ Q (.ref e) ⟨h', g, d, tk', os⟩
    obtain ⟨G', g1, g2⟩ := restrict h' fun b => decide (b ≠ e)
    have gk : ∀ b, b ≠ e → G'.get? b = h'.get? b := fun b hb => g1 b (decide_eq_true hb)
    have ge : G'.get? e = none := g2 e (by simp)
    have old : ∀ b o, hp.get? b = some o → G'.get? b = some o := fun b o q => (gk b (Nat.ne_of_lt (Nat.lt_of_lt_of_le (Heap.lt_size q) hn))).trans (k' b o q)
    have ob : ObjOk X.prog X.w (upd H1 dx (.xd [(f, v)])) G' dx (.xd [(f, v)]) :=
      ⟨_, hns.at (fun o q => (gk dx dne).trans q), fun y => relO1 f rv y⟩
    have J : Inv X pins σ (upd H1 dx (.xd [(f, v)])) ⟨G', g, d, tk', os⟩ := I1.laid (t' := tk') old dn ob
    refine ⟨e, _, _, ⟨G', g, d, tk', os⟩, _, .ref C, some dx, rfl, J, fun b o q => ?_, ge, heo, ⟨rfl, rfl⟩, rfl, rfl, ?_, rfl, I1.bare, raises_own T.exC T.tyC, q1 dx (I1.hok.fresh dn)⟩
    · by_cases hb : b = e
      · have q' : G'.get? b = some o := q
        rw [hb, ge] at q'; cases q'
      · exact (gk b hb).symm.trans q
    · rw [upd_ne (Ne.symm dne)]
      exact I1.hok.fresh hn
end
end ExS

set_option maxHeartbeats 4000000
namespace ExS
open PySem PySem.W PySem.Calls PyProof.Rows PySem.Spec
/-- texts that an error's message takes -/
def ShortV (v : L2.V) : Prop := ∃ y : PySem.Str, v = .str y ∧ (reprText y).length ≤ 100000
def SmallI (v : L2.V) : Prop := ∃ i : Int, v = .int i ∧ i.natAbs.log2 < 1920
section
variable {prog : Program} {w : World} {A : Around} {E : Value → Shared → Prop} {s : Shared} {env : Env} {f : Str} {y : PySem.Str} {t : Tok} {m : Str → Option Value} {L : Addr} {x x2 : Str} {j1 j2 : Nat} {p0 p1 p2 p3 p2' : Pos}
theorem fits (a b : PySem.Str) (ha : a.length ≤ 200000) (hb : b.length ≤ 100000) : (a ++ b).length ≤ 300000 ∧ (a ++ b).length = a.length + b.length := by
  have e : (a ++ b).length = a.length + b.length := by
    show (a.cps ++ b.cps).size = a.cps.size + b.cps.size
    rw [Array.size_append]
  omega
theorem l300 {n : Nat} (h : n ≤ 300000) : n ≤ sizeLine := by rw [sizeLine_eq]; omega
theorem fv_name {Q : Value → Shared → Prop} (hn : s.heap.Ns env.locals m) (hv : m f = some (.str y t)) (hk : env.scope.kind = .function) (hl : env.kindOf f = some .local) (hd : (f == ("__debug__" : Str)) = false) (hz : (reprText y).length ≤ 100000)
    (h : ∀ tk u, Q (.str (reprText y) u) { s with toks := tk }) : wpAny (model prog w) A (eval (.FormattedValue (.Name f p0) 114 none p1) env) Q E s := by
  refine wpAny_FormattedValue_repr (wpAny_Name (wpAny_loadName_local hk hl hn hv ?_) hd)
  have hz2 : (reprText y).length ≤ sizeLine := l300 (by omega)
  exact pyReprObj_str (wpAny_formatField_str (h _ _) (h _ _) hz2) hz2
theorem fv_int {i : Int} {Q : Value → Shared → Prop} (hn : s.heap.Ns env.locals m) (hv : m f = some (.int i t)) (hk : env.scope.kind = .function) (hl : env.kindOf f = some .local) (hd : (f == ("__debug__" : Str)) = false) (hz : i.natAbs.log2 < 1920)
    (h : ∀ tk u, Q (.str (toString i) u) { s with toks := tk }) : wpAny (model prog w) A (eval (.FormattedValue (.Name f p0) (-1) none p1) env) Q E s := by
  refine wpAny_FormattedValue_plain (wpAny_Name (wpAny_loadName_local hk hl hn hv ?_) hd)
  exact wpAny_formatField_int hz (h _ _)
theorem msg_cf {v : Value} (rv : L2.RelV (.str y) v) (hz : (reprText y).length ≤ 100000) (hx : x.length ≤ 1000) (hn : s.heap.Ns env.locals m) (hv : m f = some v) (hk : env.scope.kind = .function) (hl : env.kindOf f = some .local) (hd : (f == ("__debug__" : Str)) = false) :
    wpAny (model prog w) A (eval (.JoinedStr [.Constant (.str x) j1 p2, .FormattedValue (.Name f p0) 114 none p1] p3) env) (fun _ s'' => ∃ tk, s'' = { s with toks := tk }) E s := by
  obtain ⟨t, rfl⟩ := rv
  have h1 := fits Str.empty x (by decide) (by omega)
  have h2 := fits (Str.empty ++ x) (reprText y) (by have : Str.empty.length = 0 := rfl; omega) hz
  refine wpAny_JoinedStr ?_
  refine wpAny_Constant_str ⟨_, _, rfl, l300 h1.1, ?_⟩
  refine fv_name (s := { s with toks := s.toks + 1 }) hn hv hk hl hd hz fun tk u => ⟨_, _, rfl, l300 h2.1, ?_⟩
  exact ⟨l300 h2.1, _, rfl⟩
theorem msg_fc {v : Value} (rv : L2.RelV (.str y) v) (hz : (reprText y).length ≤ 100000) (hx : x.length ≤ 1000) (hn : s.heap.Ns env.locals m) (hv : m f = some v) (hk : env.scope.kind = .function) (hl : env.kindOf f = some .local) (hd : (f == ("__debug__" : Str)) = false) :
    wpAny (model prog w) A (eval (.JoinedStr [.FormattedValue (.Name f p0) 114 none p1, .Constant (.str x) j1 p2] p3) env) (fun _ s'' => ∃ tk, s'' = { s with toks := tk }) E s := by
  obtain ⟨t, rfl⟩ := rv
  have h1 := fits Str.empty (reprText y) (by decide) hz
  have h2 := fits (Str.empty ++ reprText y) x (by have : Str.empty.length = 0 := rfl; omega) (by omega)
  refine wpAny_JoinedStr ?_
  refine fv_name hn hv hk hl hd hz fun tk u => ⟨_, _, rfl, l300 h1.1, ?_⟩
  refine wpAny_Constant_str ⟨_, _, rfl, l300 h2.1, ?_⟩
  exact ⟨l300 h2.1, _, rfl⟩
theorem msg_cfc {v : Value} (rv : L2.RelV (.str y) v) (hz : (reprText y).length ≤ 100000) (hx : x.length ≤ 1000) (hx2 : x2.length ≤ 1000) (hn : s.heap.Ns env.locals m) (hv : m f = some v) (hk : env.scope.kind = .function) (hl : env.kindOf f = some .local) (hd : (f == ("__debug__" : Str)) = false) :
    wpAny (model prog w) A (eval (.JoinedStr [.Constant (.str x) j1 p2, .FormattedValue (.Name f p0) 114 none p1, .Constant (.str x2) j2 p2'] p3) env) (fun _ s'' => ∃ tk, s'' = { s with toks := tk }) E s := by
  obtain ⟨t, rfl⟩ := rv
  have h1 := fits Str.empty x (by decide) (by omega)
  have h2 := fits (Str.empty ++ x) (reprText y) (by have : Str.empty.length = 0 := rfl; omega) hz
  have h3 := fits (Str.empty ++ x ++ reprText y) x2 (by have : Str.empty.length = 0 := rfl; omega) (by omega)
  refine wpAny_JoinedStr ?_
  refine wpAny_Constant_str ⟨_, _, rfl, l300 h1.1, ?_⟩
  refine fv_name (s := { s with toks := s.toks + 1 }) hn hv hk hl hd hz fun tk u => ⟨_, _, rfl, l300 h2.1, ?_⟩
  refine wpAny_Constant_str ⟨_, _, rfl, l300 h3.1, ?_⟩
  exact ⟨l300 h3.1, _, rfl⟩
theorem msg_ci {i : Int} {v : Value} (rv : L2.RelV (.int i) v) (hz : i.natAbs.log2 < 1920) (hx : x.length ≤ 1000) (hn : s.heap.Ns env.locals m) (hv : m f = some v) (hk : env.scope.kind = .function) (hl : env.kindOf f = some .local) (hd : (f == ("__debug__" : Str)) = false) :
    wpAny (model prog w) A (eval (.JoinedStr [.Constant (.str x) j1 p2, .FormattedValue (.Name f p0) (-1) none p1] p3) env) (fun _ s'' => ∃ tk, s'' = { s with toks := tk }) E s := by
  obtain ⟨t, rfl⟩ := rv
  have h1 := fits Str.empty x (by decide) (by omega)
  have hs : (PySem.Str.ofString (toString i)).length ≤ 100000 := by
    have h := PyProof.Rows.int_text_len_1921 hz
    omega
  have h2 := fits (Str.empty ++ x) (toString i) (by have : Str.empty.length = 0 := rfl; omega) hs
  refine wpAny_JoinedStr ?_
  refine wpAny_Constant_str ⟨_, _, rfl, l300 h1.1, ?_⟩
  refine fv_int (s := { s with toks := s.toks + 1 }) hn hv hk hl hd hz fun tk u => ⟨_, _, rfl, l300 h2.1, ?_⟩
  exact ⟨l300 h2.1, _, rfl⟩
end
end ExS

set_option maxHeartbeats 4000000
namespace HkS
open PySem PySem.Spec PyProof.Rows L2 He
/-! ### own exceptions, read off the head -/
abbrev FnY : Type := Option (Str × Str × Arguments × FuncBody × Scope × Addr × Addr)
def fnY (K : PySem.W.Frag) (a : Addr) : FnY := match K.lookup a with
  | some ⟨_, _, .func fd, _⟩ => some (fd.name, fd.qualname, fd.params, fd.body, fd.scope, fd.globals, fd.builtins)
  | _ => none
/-- an exception class: its name, its built-in base, its __init__ -/
structure ExD where
  x : Str
  B : String
  mro : List Value
  st : Stmt
  qual : Str
def iAd (K : PySem.W.Frag) (x : Str) : Addr := ma K (ga K x) "__init__"
def cloB (P : Program) (K : PySem.W.Frag) (a C : Addr) (qual : Str) : Bool := match K.lookup a with
  | some ⟨_, _, .func fd, _⟩ => (match fd.closure, fd.code, fd.defaults with
    | [(n, cc)], .ref cda, .none => decide (n = "__class__") && (PySem.W.codeIn K (.ref cda) qual && ((match K.lookup cda with
        | some ⟨_, _, .fields vs, _⟩ => (match (vs[2]? : Option Value) with
          | some (Value.str file _) => ((P.main.file : Str) == file)
          | _ => false)
        | _ => false) && (match K.lookup cc with
        | some ⟨_, _, .cell (some (.ref D)), _⟩ => decide (D = C)
        | _ => false)))
    | _, _, _ => false)
  | _ => false
def exB (P : Program) (K : PySem.W.Frag) (d : ExD) : Bool :=
  PySem.W.excInitIn K (ga K d.x) d.mro (d.B ++ ".__new__") && (PySem.W.excOver K (ga K d.x) d.mro && (eqO (PySem.W.findIn K (.ref (ga K d.x)) "__init__") (some (some (.ref (iAd K d.x)))) && (PySem.W.isFn K (.ref (iAd K d.x)) &&
  (decide (PySem.W.mroIn K (ga K d.x) (.ref (ga K d.x)) = some true) && (eqO (PySem.W.ks_superIn K (ga K d.x) (ga K d.x) "__init__") (some (some (.builtin (d.B ++ ".__init__")))) && (decide (PySem.W.subIn K (.ref (ga K d.x)) (.type d.B) = some true) &&
  (eqO (PySem.W.findIn K (.ref (ga K d.x)) "__setattr__") (some (some (.builtin "object.__setattr__"))) && (eqO (PySem.W.nsIn K cStatics "thirdparty.any") (some none) && (PySem.W.keepIn K (.ref (ga K d.x)) &&
  (decide (PySem.W.subIn K (.ref (ga K d.x)) (.type "BaseException") = some true) && (decide (PySem.W.typeIn K (.ref (ga K d.x)) = some (.type "type")) && (PySem.W.hasDictIn K (ga K d.x) && cloB P K (iAd K d.x) (ga K d.x) d.qual))))))))))))
/-- a built-in base's own facts -/
structure BaseOk (B : String) (bmB : List Value) : Prop where
  FB : ExcBaseFacts B (B ++ ".__new__") (B ++ ".__init__") bmB
  SF : StoreFacts B bmB "object.__setattr__" "object"
  KF : PySem.W.KxsFacts B (B ++ ".__init__")
theorem base_VE : BaseOk "ValueError" [.type "ValueError", .type "Exception", .type "BaseException", .type "object"] := ⟨F.excBase_ValueError, F.store_ValueError, PySem.W.kxs_ValueError⟩
theorem base_LE : BaseOk "LookupError" [.type "LookupError", .type "Exception", .type "BaseException", .type "object"] := ⟨F.excBase_LookupError, F.store_LookupError, PySem.W.kxs_LookupError⟩
def ExD.val (d : ExD) : FnY := some ("__init__", d.qual, defArgs d.st, .stmts (defBody d.st), defScope d.st, mainGlobals, builtinsNs)
theorem ex_ok {P : Program} {K : PySem.W.Frag} {d : ExD} (b : BaseOk d.B d.mro) (e : fnY K (iAd K d.x) = d.val) (c : exB P K d = true) :
    ExS.ESup P K (ga K d.x) (iAd K d.x) d.B (d.B ++ ".__new__") (d.B ++ ".__init__") d.mro d.qual (defArgs d.st) (defBody d.st) (defScope d.st) ∧ PySem.W.keepIn K (.ref (ga K d.x)) = true ∧ PySem.W.subIn K (.ref (ga K d.x)) (.type "BaseException") = some true ∧
    PySem.W.typeIn K (.ref (ga K d.x)) = some (.type "type") ∧ PySem.W.hasDictIn K (ga K d.x) = true := by
  obtain ⟨c1, c⟩ := ba c
  obtain ⟨c2, c⟩ := ba c
  obtain ⟨c3, c⟩ := ba c
  obtain ⟨c4, c⟩ := ba c
  obtain ⟨c5, c⟩ := ba c
  obtain ⟨c6, c⟩ := ba c
  obtain ⟨c7, c⟩ := ba c
  obtain ⟨c8, c⟩ := ba c
  obtain ⟨c9, c⟩ := ba c
  obtain ⟨c10, c⟩ := ba c
  obtain ⟨c11, c⟩ := ba c
  obtain ⟨c12, c⟩ := ba c
  obtain ⟨c13, c14⟩ := ba c
  refine ⟨⟨b.FB, b.SF, b.KF, c1, c2, eqO_ok c3, c4, ?_, of_decide_eq_true c5, eqO_ok c6, of_decide_eq_true c7, eqO_ok c8, eqO_ok c9⟩, c10, of_decide_eq_true c11, of_decide_eq_true c12, c13⟩
  unfold cloB at c14
  unfold fnY at e
  split at c14
  · rename_i oc od fd osl lk
    rw [lk] at e
    split at c14
    · rename_i n cc cda hcl hcd hdf
      obtain ⟨d1, d2⟩ := ba c14
      obtain ⟨d2, d3⟩ := ba d2
      obtain ⟨d3, d4⟩ := ba d3
      split at d3
      · rename_i ccl cdd vs ccs lk2
        split at d3
        · rename_i file tf hv
          split at d4
          · rename_i cl cld D csl lk3
            obtain ⟨n1, n2, n3, n4, n5, n6, n7, n8, n9, n10, n11, n12, n13, n14, n15⟩ := fd
            have e2 : (some (n1, n2, n3, n4, n5, n6, n15) : FnY) = (some (("__init__" : Str), d.qual, defArgs d.st, FuncBody.stmts (defBody d.st), defScope d.st, mainGlobals, builtinsNs) : FnY) := e
            simp only [Option.some.injEq, Prod.mk.injEq] at e2
            obtain ⟨h1, h2, h3, h4, h5, h6, h7⟩ := e2
            have h8 : n7 = [(n, cc)] := hcl
            have h9 : n13 = .ref cda := hcd
            have h10 : n8 = .none := hdf
            have h11 : n = "__class__" := of_decide_eq_true d1
            have h12 : D = ga K d.x := of_decide_eq_true d4
            subst h1 h2 h3 h4 h5 h6 h7 h8 h9 h10 h11 h12
            exact ⟨oc, od, n9, n10, n11, n12, n14, osl, cc, cda, ccl, cdd, vs, ccs, file, tf, cl, cld, csl, lk, d2, lk2, hv, d3, lk3⟩
          · cases d4
        · cases d3
      · cases d3
    · cases c14
  · cases c14
end HkS
namespace HkS
open PySem PySem.Spec PyProof.Rows L2 He
/-! ### the Hook -/
abbrev AlM : Type := Bool × List FnW × List FnY
def asM (g : Addr → Option Obj) (n : Nat) : List Addr := asD g n ++ [cStatics]
def obsM (P : Program) (fa : List Fa) (fn : List DefD) (ex : List ExD) (more : PySem.W.Frag → Bool) (K : PySem.W.Frag) : AlM :=
  ((fa.all fun f => f.ok K) && ((fn.all fun d => d.ok K) && ((ex.all fun d => exB P K d) && more K)), fn.map (fun d => fnW K d.at_), ex.map fun d => fnY K (iAd K d.x))
def valM (fn : List DefD) (ex : List ExD) : AlM := (true, fn.map DefD.val, ex.map ExD.val)
def SaysM (P : Program) (fa : List Fa) (fn : List DefD) (ex : List ExD) (more : PySem.W.Frag → Bool) (K : PySem.W.Frag) : Prop := obsM P fa fn ex more K = valM fn ex
def obsMG (n : Nat) (P : Program) (fa : List Fa) (fn : List DefD) (ex : List ExD) (more : PySem.W.Frag → Bool) (g : Addr → Option Obj) : AlM := obsM P fa fn ex more (frG g (asM g n))
def hookM (n : Nat) (P : Program) (fa : List Fa) (fn : List DefD) (ex : List ExD) (more : PySem.W.Frag → Bool) : PySem.W.Hook where
  α := AlM
  obs := fun s => obsMG n P fa fn ex more s.heap.get?
  val := fun _ => valM fn ex
  says := fun _ h => ∃ K : PySem.W.Frag, K.In h ∧ SaysM P fa fn ex more K
  of := fun _ _ e => ⟨_, frG_in, e⟩
  keeps := fun _ _ _ ⟨K, hK, c⟩ k => ⟨K, PySem.W.Frag.In.keeps hK k, c⟩
theorem obsMG_eq {n : Nat} {P : Program} {fa : List Fa} {fn : List DefD} {ex : List ExD} {more : PySem.W.Frag → Bool} {g : Addr → Option Obj} {s : Shared} (h : ∀ a, g a = s.heap.get? a) : obsMG n P fa fn ex more g = (hookM n P fa fn ex more).obs s := by
  have e : g = s.heap.get? := funext h
  rw [e] <;> rfl
section
variable {P : Program} {fa : List Fa} {fn : List DefD} {ex : List ExD} {more : PySem.W.Frag → Bool} {K : PySem.W.Frag}
theorem SaysM.bools (c : SaysM P fa fn ex more K) : (∀ f ∈ fa, f.ok K = true) ∧ (∀ d ∈ fn, d.ok K = true) ∧ (∀ d ∈ ex, exB P K d = true) ∧ more K = true := by
  have c1 : ((fa.all fun f => f.ok K) && ((fn.all fun d => d.ok K) && ((ex.all fun d => exB P K d) && more K))) = true := congrArg (fun z : AlM => z.1) c
  obtain ⟨h1, c1⟩ := ba c1
  obtain ⟨h2, c1⟩ := ba c1
  obtain ⟨h3, h4⟩ := ba c1
  exact ⟨List.all_eq_true.mp h1, List.all_eq_true.mp h2, List.all_eq_true.mp h3, h4⟩
theorem SaysM.moreB (c : SaysM P fa fn ex more K) : more K = true := c.bools.2.2.2
theorem SaysM.fact (c : SaysM P fa fn ex more K) (i : Nat) {f : Fa} (h : fa[i]? = some f := by rfl) : f.ok K = true := c.bools.1 f (List.mem_of_getElem? h)
theorem SaysM.def_ (c : SaysM P fa fn ex more K) (i : Nat) {d : DefD} (h : fn[i]? = some d := by rfl) : ∃ fd, FunD K d.name d.qual d.params d.body d.scope (d.dvs K) (d.kws K) (fAd K d.at_) fd := by
  have e : fn.map (fun d => fnW K d.at_) = fn.map DefD.val := congrArg (fun z : AlM => z.2.1) c
  have e2 : (fn.map fun d => fnW K d.at_)[i]? = (fn.map DefD.val)[i]? := by rw [e]
  rw [List.getElem?_map, List.getElem?_map, h] at e2
  exact DefD.funD (Option.some.inj e2) (c.bools.2.1 d (List.mem_of_getElem? h))
theorem SaysM.exn (c : SaysM P fa fn ex more K) (i : Nat) {d : ExD} (b : BaseOk d.B d.mro) (h : ex[i]? = some d := by rfl) :
    ExS.ESup P K (ga K d.x) (iAd K d.x) d.B (d.B ++ ".__new__") (d.B ++ ".__init__") d.mro d.qual (defArgs d.st) (defBody d.st) (defScope d.st) ∧ PySem.W.keepIn K (.ref (ga K d.x)) = true ∧ PySem.W.subIn K (.ref (ga K d.x)) (.type "BaseException") = some true ∧
    PySem.W.typeIn K (.ref (ga K d.x)) = some (.type "type") ∧ PySem.W.hasDictIn K (ga K d.x) = true := by
  have e : ex.map (fun d => fnY K (iAd K d.x)) = ex.map ExD.val := congrArg (fun z : AlM => z.2.2) c
  have e2 : (ex.map fun d => fnY K (iAd K d.x))[i]? = (ex.map ExD.val)[i]? := by rw [e]
  rw [List.getElem?_map, List.getElem?_map, h] at e2
  exact ex_ok b (Option.some.inj e2) (c.bools.2.2.1 d (List.mem_of_getElem? h))
end
end HkS

set_option maxHeartbeats 4000000
/-! short words of my own -/
namespace Bs
open PySem PySem.Spec PyProof.Rows L2 He HkS
/-- a def at f keeps its promise, and may be called by position -/
structure Ok (P : Program) (w : World) (K : PySem.W.Frag) (mg : Str → Option Value) (base : Heap) (k : Nat) (f : Addr) (ps : List Str) (sp : Sp) : Prop where
  ex : ∃ fd, FnOk P w K mg base (L2.CX P w) k f fd ps sp ∧ Binds K fd ps [] ∧ ∃ oc od sl, K.lookup f = some ⟨oc, od, .func fd, sl⟩
  kp : PySem.W.keepIn K (.ref f) = true
theorem Ok.mono {P : Program} {w : World} {K : PySem.W.Frag} {mg : Str → Option Value} {base : Heap} {j k : Nat} {f : Addr} {ps : List Str} {sp : Sp} (O : Ok P w K mg base j f ps sp) (h : j ≤ k) : Ok P w K mg base k f ps sp := by
  obtain ⟨fd, F, b, lkf⟩ := O.ex
  exact ⟨⟨fd, F.mono h, b, lkf⟩, O.kp⟩
theorem Ok.imp {P : Program} {w : World} {K : PySem.W.Frag} {mg : Str → Option Value} {base : Heap} {k : Nat} {f : Addr} {ps : List Str} {sp sp' : Sp} (O : Ok P w K mg base k f ps sp) (h : ∀ vs H Q E, sp' vs H Q E → sp vs H Q E) : Ok P w K mg base k f ps sp' := by
  obtain ⟨fd, F, b, lkf⟩ := O.ex
  exact ⟨⟨fd, F.imp h, b, lkf⟩, O.kp⟩
section
variable {X : Cx} {k : Nat} {f C fI : Addr} {ps : List Str} {sp : Sp} {E : XK} {x m : Str} {p pos apos : Pos} {e o : Expr} {es : List Expr} {ta : TE} {t : TA}
theorem pe_cO (O : Ok X.prog X.w X.K X.mg X.base k f ps sp) (hr : Room k X.A) (hm : X.mg x = some (.ref f)) (hx : Passes (L2.CX X.prog X.w) X E) (ha : PA X (e :: es) t) (hg : Gl X x := by rfl) (hdb : (x == ("__debug__" : Str)) = false := by decide)
    (he : starEach (e :: es) X.env = (false, eval e X.env) :: starEach es X.env := by rfl) (hpl : (backTo pos (starEach es X.env)).any (·.1) = false := by rfl) : PE X (.Call (.Name x p) (e :: es) [] pos) (tCall sp [] E t) := by
  obtain ⟨fd, F, b, lkf⟩ := O.ex
  exact pe_call F hr hg hm O.kp b .nil hx ha hdb he hpl
theorem pe_cO0 (O : Ok X.prog X.w X.K X.mg X.base k f ps sp) (hr : Room k X.A) (hm : X.mg x = some (.ref f)) (hx : Passes (L2.CX X.prog X.w) X E) (hg : Gl X x := by rfl) (hdb : (x == ("__debug__" : Str)) = false := by decide) : PE X (.Call (.Name x p) [] [] pos) (tCall sp [] E tNil) := by
  obtain ⟨fd, F, b, lkf⟩ := O.ex
  exact pe_call0 F hr hg hm O.kp b .nil hx hdb
theorem pe_mO {pl : Sem Bool} (he : PE X o ta) (c : Cls X.K C) (hm : Meth X.K C m f) (O : Ok X.prog X.w X.K X.mg X.base k f ps sp) (hr : Room k X.A) (hx : Passes (L2.CX X.prog X.w) X E) (ha : PA X (e :: es) t)
    (hst : starEach (e :: es) X.env = (false, eval e X.env) :: starEach es X.env := by rfl) (hpl : (backTo pos (starEach es X.env)).any (·.1) = false := by rfl)
    (ht : eval (.Call (.Attribute o m apos) (e :: es) [] pos) X.env = (do
      let ov ← eval o X.env
      standAt apos.atName
      let (f, first) ← holding [ov] (getMethod ov m pl)
      callWith pos f first (backTo pos (starEach (e :: es) X.env)) (backToKw pos (keywordEach [] X.env))) := by rfl) :
    PE X (.Call (.Attribute o m apos) (e :: es) [] pos) (tMeth C m sp [] E ta t) := by
  obtain ⟨fd, F, b, lkf⟩ := O.ex
  exact pe_meth he c hm F hr b .nil hx ha hst hpl ht
theorem pe_mO0 {pl : Sem Bool} (he : PE X o ta) (c : Cls X.K C) (hm : Meth X.K C m f) (O : Ok X.prog X.w X.K X.mg X.base k f ps sp) (hr : Room k X.A) (hx : Passes (L2.CX X.prog X.w) X E)
    (ht : eval (.Call (.Attribute o m apos) [] [] pos) X.env = (do
      let ov ← eval o X.env
      standAt apos.atName
      let (f, first) ← holding [ov] (getMethod ov m pl)
      callWith pos f first (backTo pos (starEach [] X.env)) (backToKw pos (keywordEach [] X.env))) := by rfl) :
    PE X (.Call (.Attribute o m apos) [] [] pos) (tMeth C m sp [] E ta tNil) := by
  obtain ⟨fd, F, b, lkf⟩ := O.ex
  exact pe_meth0 he c hm F hr b .nil hx ht
theorem pe_kO (M : Mk X.K C fI) (O : Ok X.prog X.w X.K X.mg X.base k fI ps sp) (hr : Room (k + 1) X.A) (hm : X.mg x = some (.ref C)) (hx : Passes (L2.CX X.prog X.w) X E) (ha : PA X (e :: es) t) (hg : Gl X x := by rfl) (hdb : (x == ("__debug__" : Str)) = false := by decide)
    (he : starEach (e :: es) X.env = (false, eval e X.env) :: starEach es X.env := by rfl) (hpl : (backTo pos (starEach es X.env)).any (·.1) = false := by rfl) : PE X (.Call (.Name x p) (e :: es) [] pos) (tMake C sp [] E t) := by
  obtain ⟨fd, F, b, lkf⟩ := O.ex
  exact pe_make M F hr hg hm b .nil hx ha hdb he hpl
/-- x = e -/
theorem ps_s (i : Nat) {y : Str} {p' : Pos} {te : TE} (nd : X.N.Nodup) (he : PE X e te) (hN : X.N[i]? = some y := by rfl) (hl : Loc X.env.scope y := by first | exact Or.inl rfl | exact Or.inr rfl) (hs : swapsWith e (some (.Name y p')) pos.line X.env = pure false := by rfl) (hf : X.fn y = true ∨ X.env.scope.names.lookup y = some .local := by first | exact .inl rfl | exact .inr rfl | assumption) : PS X (.Assign [.Name y p'] e pos) (tAsg te (gName i)) :=
  ps_set (i := i) nd hN hl he hs hf
theorem pg_n (i : Nat) {y : Str} {p' : Pos} (nd : X.N.Nodup) (hN : X.N[i]? = some y := by rfl) (hl : Loc X.env.scope y := by first | exact Or.inl rfl | exact Or.inr rfl) (hf : X.fn y = true ∨ X.env.scope.names.lookup y = some .local := by first | exact .inl rfl | exact .inr rfl | assumption) : PG X (.Name y p') (gName i) := pg_name nd hN hl hf
end
/-- THE RULE for a def of the text -/
theorem ok_of {P : Program} {w : World} {K : PySem.W.Frag} {mg : Str → Option Value} {base : Heap} {x qual : Str} {params : Arguments} {body : List Stmt} {scope : Scope} {f : Addr} {N ps : List Str} {k : Nat} {sp : Sp}
    (F : ∃ fd, FunD K x qual params body scope [] [] f fd) (S : FnScope N ps scope) (len : ∀ vs H Q E, sp vs H Q E → vs.length = ps.length)
    (hb : ∀ (kV doc pm : Value) (an : Option Addr) (cdv ct : Value) (us : List Value), us.length = ps.length → bindArgs (PySem.W.fnOf x qual params body scope .none kV doc pm an cdv ct) ⟨us, []⟩ = pure (ps.zip us))
    (hbody : ∀ (cdv : Value) (A : Around) (outer : List Env) (s : Shared) (H : Hp) (vs : List V) (Q : VK) (E : XK), Room k (A.deeper (envOfC qual scope s.heap.objs.size f cdv)) → sp vs H Q E →
      ∃ t, PSs (cxOf (L2.CX P w) P w K mg base N qual scope f cdv A outer s H E) body t ∧ t { nx := fun _ H' => Q .non H', rt := Q } (start N vs) H) : Ok P w K mg base (k + 1) f ps sp := by
  obtain ⟨fd, F⟩ := F
  obtain ⟨oc, od, dV, kV, doc, pm, an, cdv, ct, osl, rfl, lk, _⟩ := id F.ex
  exact ⟨⟨_, F.ok S len hbody, F.bindsN hb, oc, od, osl, lk⟩, F.kp⟩
/-! ### the same rules with K written out (within a comprehension) -/
section
variable {X : Cx} {K : PySem.W.Frag}
theorem ixL (h : X.K = K := by rfl) : IxR X (rIxL K) := by subst h; exact ix_list
theorem ixT (h : X.K = K := by rfl) : IxR X (rIxT K) := by subst h; exact ix_tup
theorem ixQ (h : X.K = K := by rfl) : IxR X (rIx K) := by subst h; exact ix_seq
theorem inQ (h : X.K = K := by rfl) : OpR X (compareOp .In) (rIn K false) := by subst h; exact op_in_seq
theorem ninQ (h : X.K = K := by rfl) : OpR X (compareOp .NotIn) (rIn K true) := by subst h; exact op_notIn_seq
theorem slL (h : X.K = K := by rfl) : SlR X (rSlL K) := by subst h; exact sl_list
def rLenQ (K : PySem.W.Frag) : List V → Hp → VK → Prop := fun xs H Q => ∃ p ys, xs = [.ref p] ∧ (SqL K H p ys ∨ SqT K H p ys) ∧ Q (.int ys.length) H
theorem lenQ (h : X.K = K := by rfl) : CallR X (.builtin "len") (rLenQ K) := by subst h; exact call_len_seq
def rListQ (K : PySem.W.Frag) : List V → Hp → VK → Prop := fun xs H Q => ∃ p ys, xs = [.ref p] ∧ (SqL K H p ys ∨ SqT K H p ys) ∧ ∀ l, H l = none → Q (.ref l) (upd H l (.lst ys))
theorem listQ (h : X.K = K := by rfl) : CallR X (.type "list") (rListQ K) := by subst h; exact call_list_of
theorem sumQ (hc : X.calm = true) (h : X.K = K := by rfl) : CallR X (.builtin "sum") (rSum K) := by subst h; exact cr_sum hc
theorem anyQ (hc : X.calm = true) (h : X.K = K := by rfl) : CallR X (.builtin "any") (rAny K) := by subst h; exact cr_any hc
theorem allQ (hc : X.calm = true) (h : X.K = K := by rfl) : CallR X (.builtin "all") (rAll K) := by subst h; exact cr_all hc
theorem isiQ (h : X.K = K := by rfl) : CallR X (.builtin "isinstance") (rIsi K) := by subst h; exact call_isi
theorem isiTQ (h : X.K = K := by rfl) : CallR X (.builtin "isinstance") (rIsiT K) := by subst h; exact call_isiT
theorem fldQ {e : Expr} {ta : TE} {f : Str} {pos : Pos} (he : PE X e ta) (hb : attributeBase e f X.env (eval e X.env) = eval e X.env := by rfl) (h : X.K = K := by rfl) : PE X (.Attribute e f pos) (tFld K ta f) := by subst h; exact pe_fld he hb
theorem listI {tg l : Expr} {tl : TE} (h : PE X l tl) (hk : X.K = K := by rfl) : PI X tg l (iList K tl) := by subst hk; exact pi_list h
theorem mtIx (h : X.K = K := by rfl) : MtR X "list.index" (rIndex K) := by subst h; exact mt_index
theorem eqDQ (hu : X.A.units + 64 < cLine) (h : X.K = K := by rfl) : OpR X (compareOp .Eq) (rEqD K) := by subst h; exact op_eqD hu
theorem neDQ (hu : X.A.units + 64 < cLine) (h : X.K = K := by rfl) : OpR X (compareOp .NotEq) (rNeD K) := by subst h; exact op_neD hu
end
/-! ### a base class's method, called through the class -/
def clsB (K : PySem.W.Frag) (C : Addr) (m : Str) : Bool := PySem.W.readsIn K C (.type "type") && (decide (PySem.W.specialIn K (.ref C) "__getattribute__" = some (some (.builtin "type.__getattribute__"))) && (match PySem.W.findCls K (.ref C) (.type "type") m with
  | some (.val (.ref a)) => decide (a = ma K C m)
  | _ => false))
structure ClsM (K : PySem.W.Frag) (C : Addr) (m : Str) : Prop where
  rd : ClX.CRead K C (.type "type")
  at_ : PySem.W.findCls K (.ref C) (.type "type") m = some (.val (.ref (ma K C m)))
theorem clsB_ok {K : PySem.W.Frag} {C : Addr} {m : Str} (h : clsB K C m = true) : ClsM K C m := by
  obtain ⟨h1, h⟩ := ba h
  obtain ⟨h2, h3⟩ := ba h
  refine ⟨⟨h1, of_decide_eq_true h2⟩, ?_⟩
  split at h3
  · rename_i a e
    rw [e, of_decide_eq_true h3]
  · cases h3
section
variable {X : Cx} {k : Nat} {f C : Addr} {ps : List Str} {sp : Sp} {E : XK} {x m : Str} {p pos apos : Pos} {e : Expr} {es : List Expr} {t : TA}
theorem pe_clsO {pl : Sem Bool} (c : ClsM X.K C m) (hm : X.mg x = some (.ref C)) (O : Ok X.prog X.w X.K X.mg X.base k (ma X.K C m) ps sp) (hr : Room k X.A) (hx : Passes (L2.CX X.prog X.w) X E) (ha : PA X (e :: es) t) (hg : Gl X x := by rfl) (hdb : (x == ("__debug__" : Str)) = false := by decide)
    (hst : starEach (e :: es) X.env = (false, eval e X.env) :: starEach es X.env := by rfl) (hpl : (backTo pos (starEach es X.env)).any (·.1) = false := by rfl)
    (ht : eval (.Call (.Attribute (.Name x p) m apos) (e :: es) [] pos) X.env = (do
      let ov ← eval (.Name x p) X.env
      standAt apos.atName
      let (f, first) ← holding [ov] (getMethod ov m pl)
      callWith pos f first (backTo pos (starEach (e :: es) X.env)) (backToKw pos (keywordEach [] X.env))) := by rfl) :
    PE X (.Call (.Attribute (.Name x p) m apos) (e :: es) [] pos) (tCall sp [] E t) := by
  obtain ⟨fd, F, b, lkf⟩ := O.ex
  have hn : PE X (.Name x p) (tC (.ref C)) := pe_glob hg hm rfl hdb
  refine ⟨fun pins s σ H Q I h => ?_⟩
  refine PySem.W.methodCall_KW (pl := pl) (thn (hn.run pins s σ H (fun v H1 => v = .ref C ∧ H1 = H) I ⟨rfl, rfl⟩) fun u s1 ⟨x, H1, I1, rx, ex, eH⟩ => ?_) ht
  subst ex
  subst eH
  obtain rfl : u = Value.ref C := rx
  refine PySem.W.method_cls I1.kIn c.rd.ga (PySem.W.cls_value I1.kIn c.rd.rd c.at_ (handed_of (v := .ref (ma X.K C m)) rfl) ?_)
  refine PySem.W.callWith_K (first := []) (h₀ := X.base) I1.ok.mod.kin O.kp (thn (ha.run pos pins _ σ H1 _ (I1.tok _) h) fun us s2 ⟨vs, H2, I2, r, q2⟩ => ⟨I2.kIn, ?_⟩) hst hpl
  exact run_fn F hr b .nil hx I2 r q2
end
/-! ### a method by the object's class as it is met; calls within a try -/
/-- the class at C has the method m, its def at f keeps sp -/
def MD (P : Program) (w : World) (K : PySem.W.Frag) (mg : Str → Option Value) (base : Heap) (k : Nat) (m : Str) (C f : Addr) (sp : Sp) : Prop := Cls K C ∧ Meth K C m f ∧ ∃ ps, Ok P w K mg base k f ps sp
def tMethD (D : Addr → Addr → Sp → Prop) (m : Str) (E : L2.St → XK) (ta : TE) (t : TA) : TE := fun σ H Q => ta σ H fun x H1 => ∃ (a C dx : Addr) (fs : List (Str × V)) (f : Addr) (sp : Sp), x = .ref a ∧ H1 a = some (.ins C dx fs) ∧ fs.lookup m = none ∧ D C f sp ∧ t σ H1 fun vs H2 => sp (x :: vs) H2 Q (E σ)
section
variable {X : Cx} {k : Nat} {f C fI : Addr} {ps : List Str} {sp : Sp} {E : L2.St → XK} {x m : Str} {p pos apos : Pos} {e o : Expr} {es : List Expr} {ta : TE} {t : TA} {D : Addr → Addr → Sp → Prop}
theorem pe_mD {pl : Sem Bool} (he : PE X o ta) (hD : ∀ C f sp, D C f sp → MD X.prog X.w X.K X.mg X.base k m C f sp) (hr : Room k X.A) (hx : ∀ σ, PassesAt (L2.CX X.prog X.w) X σ (E σ)) (ha : PA X (e :: es) t)
    (hst : starEach (e :: es) X.env = (false, eval e X.env) :: starEach es X.env := by rfl) (hpl : (backTo pos (starEach es X.env)).any (·.1) = false := by rfl)
    (ht : eval (.Call (.Attribute o m apos) (e :: es) [] pos) X.env = (do
      let ov ← eval o X.env
      standAt apos.atName
      let (f, first) ← holding [ov] (getMethod ov m pl)
      callWith pos f first (backTo pos (starEach (e :: es) X.env)) (backToKw pos (keywordEach [] X.env))) := by rfl) :
    PE X (.Call (.Attribute o m apos) (e :: es) [] pos) (tMethD D m E ta t) := by
  refine ⟨fun pins s σ H Q I h => ?_⟩
  refine PySem.W.methodCall_KW (pl := pl) (thn (he.run pins s σ H _ I h) fun u s1 ⟨x, H1, I1, rx, a, C, dx, fs, f, sp, ex, ea, l, d, q⟩ => ?_) ht
  obtain ⟨c, hm, ps, O⟩ := hD _ _ _ d
  obtain ⟨fd, F, b, lkf⟩ := O.ex
  subst ex
  obtain rfl : u = Value.ref a := rx
  refine getmeth_ok I1 ea c hm l ?_
  refine PySem.W.callWith_K (first := [.ref a]) (h₀ := X.base) I.ok.mod.kin hm.kp (thn (ha.run pos pins s1 σ H1 _ I1 q) fun us s2 ⟨vs, H2, I2, r, q2⟩ => ⟨I2.kIn, ?_⟩) hst hpl
  exact run_fnS (E := E) (us := .ref a :: us) (vs := .ref a :: vs) F hr b (hx σ) I2 (.cons rfl r) q2
theorem pe_mD0 {pl : Sem Bool} (he : PE X o ta) (hD : ∀ C f sp, D C f sp → MD X.prog X.w X.K X.mg X.base k m C f sp) (hr : Room k X.A) (hx : ∀ σ, PassesAt (L2.CX X.prog X.w) X σ (E σ))
    (ht : eval (.Call (.Attribute o m apos) [] [] pos) X.env = (do
      let ov ← eval o X.env
      standAt apos.atName
      let (f, first) ← holding [ov] (getMethod ov m pl)
      callWith pos f first (backTo pos (starEach [] X.env)) (backToKw pos (keywordEach [] X.env))) := by rfl) :
    PE X (.Call (.Attribute o m apos) [] [] pos) (tMethD D m E ta tNil) := by
  refine ⟨fun pins s σ H Q I h => ?_⟩
  refine PySem.W.methodCall_KW (pl := pl) (thn (he.run pins s σ H _ I h) fun u s1 ⟨x, H1, I1, rx, a, C, dx, fs, f, sp, ex, ea, l, d, q⟩ => ?_) ht
  obtain ⟨c, hm, ps, O⟩ := hD _ _ _ d
  obtain ⟨fd, F, b, lkf⟩ := O.ex
  subst ex
  obtain rfl : u = Value.ref a := rx
  refine getmeth_ok I1 ea c hm l ?_
  exact PySem.W.callWith_K0 (first := [.ref a]) I1.kIn hm.kp (run_fnS (E := E) (us := [.ref a]) (vs := [.ref a]) F hr b (hx σ) I1 (.cons rfl .nil) q)
theorem pe_cOS (O : Ok X.prog X.w X.K X.mg X.base k f ps sp) (hr : Room k X.A) (hm : X.mg x = some (.ref f)) (hx : ∀ σ, PassesAt (L2.CX X.prog X.w) X σ (E σ)) (ha : PA X (e :: es) t) (hg : Gl X x := by rfl) (hdb : (x == ("__debug__" : Str)) = false := by decide)
    (he : starEach (e :: es) X.env = (false, eval e X.env) :: starEach es X.env := by rfl) (hpl : (backTo pos (starEach es X.env)).any (·.1) = false := by rfl) : PE X (.Call (.Name x p) (e :: es) [] pos) (tCallS sp E t) := by
  obtain ⟨fd, F, b, lkf⟩ := O.ex
  exact pe_callS F hr hg hm O.kp b hx ha hdb he hpl
def tMakeS (C : Addr) (sp : Sp) (E : L2.St → XK) (t : TA) : TE := fun σ H Q => t σ H fun vs H1 => ∀ x dx, H1 x = none → H1 dx = none → dx ≠ x → sp (.ref x :: vs) (upd (upd H1 dx (.own x)) x (.ins C dx [])) (fun v H2 => v = .non ∧ Q (.ref x) H2) (E σ)
theorem run_makeS {pins : List (Addr × Obj)} {σ : L2.St} {H : Hp} {s : Shared} {Q : VK} {us : List Value} {vs : List V} {fd : FuncData} (M : Mk X.K C f) (F : FnOk X.prog X.w X.K X.mg X.base (L2.CX X.prog X.w) k f fd ps sp) (hr : Room (k + 1) X.A) (hb : Binds X.K fd ps [])
    (tk : ∀ (H' : Hp) (s' : Shared) (e : Value) (s'' : Shared), Inv X pins σ H' s' → L2.CX X.prog X.w X.stack H' s' (E σ) e s'' → X.xe e s'') (I : Inv X pins σ H s) (r : Vals vs us)
    (h : ∀ x dx, H x = none → H dx = none → dx ≠ x → sp (.ref x :: vs) (upd (upd H dx (.own x)) x (.ins C dx [])) (fun v H2 => v = .non ∧ Q (.ref x) H2) (E σ)) :
    wpAny (model X.prog X.w) X.A (call (.ref C) us) (EP X pins σ Q) X.xe s := by
  have hq := h (s.heap.objs.size + 1) s.heap.objs.size (I.hok.fresh (Nat.le_succ _)) (I.hok.fresh (Nat.le_refl _)) (Nat.ne_of_lt (Nat.lt_succ_self _))
  have I2 := Inv.made (C := C) I
  have r2 : Vals (V.ref (s.heap.objs.size + 1) :: vs) (Value.ref (s.heap.objs.size + 1) :: us) := .cons rfl r
  have hl : (Value.ref (s.heap.objs.size + 1) :: us).length = ps.length := by
    have e := r2.length
    rw [F.len _ _ _ _ hq] at e
    exact e.symm
  have hb2 := hb _ (Value.ref (s.heap.objs.size + 1) :: us) I2.kIn (by rw [List.append_nil]; exact hl)
  rw [List.append_nil] at hb2
  refine wpAny_call (make_map (f := f) I.kIn M.makes M.init (beq_iff_eq.mp M.fn) (codeAny_mono (F.run _ X.stack _ _ ⟨Value.ref (s.heap.objs.size + 1) :: us, []⟩ (Value.ref (s.heap.objs.size + 1) :: us) _ _ (E σ) (hr.make C us [])
    (I2.env0.make C us []) hb2 r2 hq) fun r s' hq' => ?_))
  cases r with
  | error e => exact tk _ _ e s' I2 hq'
  | ok fl =>
    cases fl with
    | ret u =>
      obtain ⟨v, H', I3, rv, ev, q3⟩ := I2.after hq'
      subst ev
      exact ⟨rv, ⟨V.ref (s.heap.objs.size + 1), H', I3, rfl, q3⟩⟩
    | next => exact False.elim hq'
    | brk => exact False.elim hq'
    | cont => exact False.elim hq'
theorem pe_kOS (M : Mk X.K C fI) (O : Ok X.prog X.w X.K X.mg X.base k fI ps sp) (hr : Room (k + 1) X.A) (hm : X.mg x = some (.ref C)) (hx : ∀ σ, PassesAt (L2.CX X.prog X.w) X σ (E σ)) (ha : PA X (e :: es) t) (hg : Gl X x := by rfl) (hdb : (x == ("__debug__" : Str)) = false := by decide)
    (he : starEach (e :: es) X.env = (false, eval e X.env) :: starEach es X.env := by rfl) (hpl : (backTo pos (starEach es X.env)).any (·.1) = false := by rfl) : PE X (.Call (.Name x p) (e :: es) [] pos) (tMakeS C sp E t) := by
  obtain ⟨fd, F, b, lkf⟩ := O.ex
  refine ⟨fun pins s σ H Q I h => ?_⟩
  refine wpAny_Call_Name_kw (ld_glob I hg hm ?_ hdb)
  refine PySem.W.callWith_K (h₀ := X.base) I.ok.mod.kin M.kp (thn (ha.run pos pins s σ H _ I h) fun us s1 ⟨vs, H1, I1, r, q⟩ => ⟨I1.kIn, ?_⟩) he hpl
  exact run_makeS (E := E) M F hr b (fun H' s' e s'' I' c => hx σ pins H' s' e s'' I' c) I1 r q
end
/-- nothing is let out here -/
theorem passLS {X : Cx} (σ : L2.St) : PassesAt (L2.CX X.prog X.w) X σ (fun _ _ _ => False) := fun _ _ _ _ _ _ h => by
  obtain ⟨_, _, _, _, _, _, _, _, _, _, _, _, z⟩ := h
  exact z.elim
/-- what the def itself may let out -/
theorem passOS {X : Cx} {E : XK} (tk : Takes X (fun cls d _ H => E cls d H)) (σ : L2.St) : PassesAt (L2.CX X.prog X.w) X σ E := fun _ _ _ e s' I c => tk e s' (XE.of_call I (fun _ _ _ h => h) c)
section
variable {X : Cx} {K : PySem.W.Frag} {T id : String} {name : Str} {r : V → List V → Hp → VK → Prop} {o e : Expr} {es : List Expr} {to : TE} {t : TA} {apos cpos : Pos}
theorem bmQ (pa : PlainAttrs T) (slot : Slot T name id) (hty : typeOf (.builtin id) = pure (.type "method_descriptor")) (hm : MtR X id r) (ho : PE X o to) (ha : PA X (e :: es) t)
    (hbase : attributeBase o name X.env (eval o X.env) = eval o X.env := by rfl)
    (hfew : ((backTo cpos (starEach (e :: es) X.env)).all (fun x => !x.1) && (backToKw cpos (keywordEach [] X.env)).all (fun x => x.1.isSome) && decide ((e :: es).length + ([] : List Keyword).length + (if ([] : List Keyword).isEmpty then 0 else 1) < 30)) = true := by rfl)
    (hline : (apos.endLine == cpos.line) = true := by rfl) (hs : starEach (e :: es) X.env = (false, eval e X.env) :: starEach es X.env := by rfl) (hplain : (backTo cpos (starEach es X.env)).any (·.1) = false := by rfl) (hk : X.K = K := by rfl) :
    PE X (.Call (.Attribute o name apos) (e :: es) [] cpos) (tBM K T r to t) := by
  subst hk
  exact pe_bm pa slot hty hm ho ha hbase hfew hline hs hplain
theorem bmQ0 (pa : PlainAttrs T) (slot : Slot T name id) (hty : typeOf (.builtin id) = pure (.type "method_descriptor")) (hm : MtR X id r) (ho : PE X o to)
    (hbase : attributeBase o name X.env (eval o X.env) = eval o X.env := by rfl) (hline : (apos.endLine == cpos.line) = true := by rfl) (hk : X.K = K := by rfl) : PE X (.Call (.Attribute o name apos) [] [] cpos) (tBM0 K T r to) := by
  subst hk
  exact pe_bm0 pa slot hty hm ho hbase hline
def rJoinQ (K : PySem.W.Frag) : V → List V → Hp → VK → Prop := fun x xs H Q => ∃ a p, ∃ ys : List Str, x = .str a ∧ xs = [.ref p] ∧ (SqL K H p (ys.map V.str) ∨ SqT K H p (ys.map V.str)) ∧ (ys.map (·.length)).sum + ys.length * a.length ≤ 16777216 ∧ Q (.str (Txt.join a ys)) H
theorem joinQ {te : TE} (ho : PE X o to) (he : PE X e te) (hs : starEach [e] X.env = [(false, eval e X.env)] := by rfl) (hbase : attributeBase o "join" X.env (eval o X.env) = eval o X.env := by rfl) (hline : (apos.endLine == cpos.line) = true := by rfl) (hk : X.K = K := by rfl) :
    PE X (.Call (.Attribute o "join" apos) [e] [] cpos) (tM1 (rJoinQ K) to te) := by
  subst hk
  exact pe_join ho he hs hbase hline
end
/-! ### the law's end -/
theorem cx0_of {P : Program} {w : World} {K : PySem.W.Frag} {mg : Str → Option Value} {base : Heap} {k : Nat} {f : Addr} {fd : FuncData} {ps : List Str} {sp : Sp} (F : FnOk P w K mg base (L2.CX P w) k f fd ps sp) :
    FnOk P w K mg base CX0 k f fd ps (fun vs H Q _ => sp vs H Q fun _ _ _ => False) := by
  refine ⟨fun vs H Q E h => F.len vs H Q _ h, fun A outer s H args us vs Q E hr he hb hv hs => codeAny_mono (F.run A outer s H args us vs Q _ hr he hb hv hs) fun r s' hq => ?_⟩
  cases r with
  | error e =>
    obtain ⟨_, _, _, _, _, _, _, _, _, _, _, _, z⟩ := hq
    exact z.elim
  | ok fl => cases fl <;> exact hq
theorem fd_same {K : PySem.W.Frag} {f : Addr} {fd fd0 : FuncData} (h1 : ∃ oc od sl, K.lookup f = some ⟨oc, od, .func fd, sl⟩) (h2 : ∃ oc od sl, K.lookup f = some ⟨oc, od, .func fd0, sl⟩) : fd = fd0 := by
  obtain ⟨_, _, _, e1⟩ := h1
  obtain ⟨_, _, _, e2⟩ := h2
  have e := e1.symm.trans e2
  cases e
  rfl
theorem law_end {P : Program} {w : World} {K : PySem.W.Frag} {mg : Str → Option Value} {h : Heap} {x qual : Str} {params : Arguments} {body : List Stmt} {scope : Scope} {f : Addr} {fd0 : FuncData} {k : Nat} {p : Str} {sp : Sp} {n : Nat} (KX : K.In h)
    (F0 : FunD K x qual params body scope [] [] f fd0) (hb : ∀ (s : Shared) (u : Value), BindsTo s fd0 ⟨[u], []⟩ [(p, u)]) (O : ∀ base : Heap, Ok P w K mg base k f [p] sp)
    (hsp : ∀ (H : Hp) (a : Addr) (ns : List Int), ns.length ≤ n → SqL K H a (ns.map V.int) → sp [.ref a] H (fun v _ => v = .bl true) fun _ _ _ => False) :
    ∃ (K : PySem.W.Frag) (fd : FuncData) (sp : Sp), K.In h ∧ (∀ (s : Shared) (u : Value), BindsTo s fd ⟨[u], []⟩ [(p, u)]) ∧
      (∀ (H : Hp) (a : Addr) (ns : List Int), ns.length ≤ n → Only H → SqL K H a (ns.map V.int) → sp [.ref a] H (fun v _ => v = .bl true) fun _ _ _ => False) ∧
      ∀ base : Heap, K.In base → base.Ns mainGlobals mg → FnOk P w K mg base CX0 k f fd [p] sp := by
  refine ⟨K, fd0, fun vs H Q _ => sp vs H Q fun _ _ _ => False, KX, hb, fun H a ns hl _ hS => hsp H a ns hl hS, fun base _ _ => ?_⟩
  obtain ⟨fd, F, b, lkf⟩ := (O base).ex
  obtain ⟨oc, od, dV, kV, doc, pm, an, cdv, ct, osl, e0, lk, _⟩ := F0.ex
  have e : fd = fd0 := fd_same lkf ⟨oc, od, osl, lk⟩
  subst e
  exact cx0_of F
end Bs

set_option maxHeartbeats 4000000
/-! own exceptions with their own __init__, held as values; isinstance and fields of them; text times a number -/
namespace ExV
open PySem PySem.Spec PyProof.Rows L2 He HkS Bs
/-- an exception object of the class at C with the dict d at a -/
def ExT (C : Addr) (d : Option Addr) (a : Addr) : HO := .ext fun h => ∃ (oe : Obj) (vs : Array Value), h.get? a = some oe ∧ Zc (.ref C) d oe ∧ oe.data = .fields vs
theorem exT_ok {P : Program} {w : World} {H : Hp} {h : Heap} {a C : Addr} {d : Option Addr} {oe : Obj} {vs : Array Value} (e : h.get? a = some oe) (z : Zc (.ref C) d oe) (hd : oe.data = .fields vs) : ObjOk P w H h a (ExT C d a) :=
  ⟨⟨oe, vs, e, z, hd⟩, ⟨oe, e⟩, fun _ _ ⟨o, v, q, r⟩ k => ⟨o, v, k o q, r⟩⟩
section
variable {X : Cx} {C : Addr} {f : Str} {okv : V → Prop}
theorem pe_e0 {x : Str} {p pos : Pos} {k : Nat} (T : ExS.E0 X.prog X.K C) (gC : X.mg x = some (.ref C)) (hs : X.mg "super" = none) (ht : (X.prog.main.scope.names.lookup ("super" : Str)).isSome = false) (hr : Room k X.A) (hg : Gl X x := by rfl)
    (hdb : (x == ("__debug__" : Str)) = false := by decide) :
    PE X (.Call (.Name x p) [] [] pos) (fun _ H Q => ∀ a, H a = none → Q (.ref a) (upd H a (ExT C none a))) := by
  refine ⟨fun pins s σ H Q I h => ?_⟩
  refine wpAny_Call_Name_kw (ld_glob I hg gC ?_ hdb)
  refine PySem.W.callWith_K0 I.kIn T.kC ?_
  have hlim := I.nolimit
  have bl := ExS.blt_of I hs ht
  have X1 := I.kIn
  refine wpAny_call (T.made X1 bl hlim (by have := hr.dp; omega) fun h' tk' e t1 k' hn he => ?_)
  exact ⟨.ref e, upd H e (ExT C none e), I.laid (t' := tk') k' hn (exT_ok he ⟨rfl, rfl⟩ rfl), rfl, h e (I.hok.fresh hn)⟩
theorem pe_e1 {x : Str} {a : Expr} {ta : TA} {p pos : Pos} {k : Nat} (T : ExS.E1 X.prog X.K C f okv) (gC : X.mg x = some (.ref C)) (hs : X.mg "super" = none) (ht : (X.prog.main.scope.names.lookup ("super" : Str)).isSome = false) (hr : Room k X.A) (ha : PA X [a] ta) (hg : Gl X x := by rfl)
    (hdb : (x == ("__debug__" : Str)) = false := by decide)
    (he : starEach (a :: []) X.env = (false, eval a X.env) :: starEach [] X.env := by rfl) (hpl : (backTo pos (starEach [] X.env)).any (·.1) = false := by rfl) :
    PE X (.Call (.Name x p) [a] [] pos) (fun σ H Q => ta σ H fun vs H1 => ∃ v, vs = [v] ∧ okv v ∧ ∀ d e, H1 d = none → H1 e = none → e ≠ d → Q (.ref e) (upd (upd H1 d (.xd [(f, v)])) e (ExT C (some d) e))) := by
  refine ⟨fun pins s σ H Q I h => ?_⟩
  refine wpAny_Call_Name_kw (ld_glob I hg gC ?_ hdb)
  refine PySem.W.callWith_K (h₀ := X.base) I.ok.mod.kin T.kC (thn (ha.run pos pins s σ H _ I h) fun us s1 hh => ?_) he hpl
  obtain ⟨vs, H1, I1, r1, v, ev, ov, q1⟩ := hh
  subst ev
  refine ⟨I1.kIn, ?_⟩
  cases r1 with
  | cons rv rn =>
    rename_i v' us'
    cases rn
    show wpAny _ _ (call (.ref C) [v']) _ _ _
    have hlim := I1.nolimit
    have bl := ExS.blt_of I1 hs ht
    have X1 := I1.kIn
    refine wpAny_call (T.made rv ov X1 bl hlim (by have := hr.dp; omega) fun h' tk' e t1 dx k' hn dn dne heo hns => ?_)
    obtain ⟨G', g1, g2⟩ := restrict h' fun b => decide (b ≠ e)
    have gk : ∀ b, b ≠ e → G'.get? b = h'.get? b := fun b hb => g1 b (decide_eq_true hb)
    have ge : G'.get? e = none := g2 e (by simp)
    have old : ∀ b o, s1.heap.get? b = some o → G'.get? b = some o := fun b o q => (gk b (Nat.ne_of_lt (Nat.lt_of_lt_of_le (Heap.lt_size q) hn))).trans (k' b o q)
    have ob : ObjOk X.prog X.w (upd H1 dx (.xd [(f, v)])) G' dx (.xd [(f, v)]) :=
      ⟨_, hns.at (fun o q => (gk dx dne).trans q), fun y => ExS.relO1 f rv y⟩
    have J : Inv X pins σ (upd H1 dx (.xd [(f, v)])) { s1 with heap := G', toks := tk' } := I1.laid (t' := tk') old dn ob
    have kk : ∀ b o, G'.get? b = some o → h'.get? b = some o := fun b o q => by
      by_cases hb : b = e
      · rw [hb, ge] at q; cases q
      · exact (gk b hb).symm.trans q
    have hne : (upd H1 dx (.xd [(f, v)])) e = none := by
      rw [upd_ne (Ne.symm dne)]
      exact I1.hok.fresh hn
    have J2 := J.laidN (h' := h') (a := e) (o := ExT C (some dx) e) (t' := tk') kk ge hne (exT_ok heo ⟨rfl, rfl⟩ rfl)
    exact ⟨.ref e, _, J2, rfl, q1 dx e (I1.hok.fresh dn) (I1.hok.fresh hn) (Ne.symm dne)⟩
end
/-! ### isinstance -/
def rIsX (K : PySem.W.Frag) : List V → Hp → VK → Prop := fun xs H Q => ∃ (a C : Addr) (d : Option Addr) (c : V) (cv : Value) (b : Bool), xs = [.ref a, c] ∧ H a = some (ExT C d a) ∧ (d = none ∨ ∃ dd fs, d = some dd ∧ H dd = some (.xd fs)) ∧ ExcC K C ∧ (∀ u, RelV c u → u = cv) ∧ PySem.W.kitOne K (.ref C) cv = some b ∧ Q (.bl b) H
theorem isXQ {X : Cx} {K : PySem.W.Frag} (hk : X.K = K := by rfl) : CallR X (.builtin "isinstance") (rIsX K) := by
  subst hk
  intro pins s σ H xs us Q I r h
  obtain ⟨a, C, d, c, cv, b, rfl, ha, hd, T, hcv, e, q⟩ := h
  cases r with
  | cons rx rr =>
    cases rr with
    | cons rt rr =>
      cases rr
      cases rx
      have ec := hcv _ rt
      subst ec
      obtain ⟨⟨oe, vs, ho, hz, hdt⟩, _, _⟩ := I.hok a _ ha
      obtain ⟨cd, hcd, _⟩ := PySem.W.any_some T.hd
      have hcl : (PySem.W.clsIn X.K C).isSome = true := by rw [hcd]; rfl
      have fin : ∀ od : Option Obj, PySem.W.InstAt s.heap a oe C od → wpAny (model X.prog X.w) X.A (call (.builtin "isinstance") [.ref a, _]) (EP X pins σ Q) X.xe s := fun od J =>
        PySem.W.kia_one (PySem.W.kitx_exc hcl T.hg T.hk T.hs T.ha T.hn T.ht T.hm) I.kIn J e (fun z => nomatch z) fun tk => ⟨.bl b, H, I.kept (t' := tk) fun _ _ z => z, rfl, q⟩
      rcases hd with rfl | ⟨dd, fs, rfl, hx⟩
      · refine fin none ⟨ho, hz.1, by unfold PySem.W.notCls; rw [hdt] <;> rfl, ?_⟩
        rw [hz.2]
        trivial
      · have hx2 : ObjOk X.prog X.w H s.heap dd (.xd fs) := I.hok dd _ hx
        obtain ⟨mA, hns, hr⟩ := hx2
        obtain ⟨od, ho2, hl⟩ := lookIn_ns hns
        exact fin (some od) ⟨ho, hz.1, by unfold PySem.W.notCls; rw [hdt] <;> rfl, by rw [hz.2]; exact ho2⟩
/-! ### fields -/
def tXfV (K : PySem.W.Frag) (f : Str) (te : TE) : TE := fun σ H Q => te σ H fun x H1 => ∃ (a C dd : Addr) (fs : List (Str × V)) (v : V), x = .ref a ∧ H1 a = some (ExT C (some dd) a) ∧ H1 dd = some (.xd fs) ∧ XfC K C ∧ PySem.W.findIn K (.ref C) f = some none ∧ fs.lookup f = some v ∧ Q v H1
theorem pe_xfV {X : Cx} {K : PySem.W.Frag} {e : Expr} {te : TE} {pos : Pos} {n : Str} (he : PE X e te) (hb : attributeBase e n X.env (eval e X.env) = eval e X.env := by rfl) (hk : X.K = K := by rfl) :
    PE X (.Attribute e n pos) (tXfV K n te) := by
  subst hk
  refine ⟨fun pins s σ H Q I h => ?_⟩
  refine attr_of hb (thn (he.run pins s σ H _ I h) fun u s1 hh => ?_)
  obtain ⟨x, H1, I1, rx, a, C, dd, fs, v, ex, ha, ea, T, hno, l, q⟩ := hh
  subst ex
  obtain rfl : u = Value.ref a := rx
  obtain ⟨⟨oe, vs, ho, hz, hdt⟩, _, _⟩ := I1.hok a _ ha
  have hx : ObjOk X.prog X.w H1 s1.heap dd (.xd fs) := I1.hok dd _ ea
  obtain ⟨mA, hns, hr⟩ := hx
  obtain ⟨od, ho2, hl⟩ := lookIn_ns hns
  obtain ⟨u, hu, ru⟩ := RelO.some_of (v := v) (o := mA n) (by rw [← l]; exact hr n)
  have J : PySem.W.InstAt s1.heap a oe C (some od) := ⟨ho, hz.1, by unfold PySem.W.notCls; rw [hdt] <;> rfl, by rw [hz.2]; exact ho2⟩
  exact HandSPX.exc_get I1.kIn J T.ga T.gg T.exC (PySem.W.findObj_own T.hdC hno rfl (by rw [hl, hu])) (handed_of ru) ⟨v, H1, I1.tok _, ru, q⟩
/-! ### a text times a number -/
def rMulS : R2 := fun x y H Q => ∃ (i : Str) (n : Int), x = .str i ∧ y = .int n ∧ (decide (n < -(2 ^ 63 : Int)) || decide (n ≥ 2 ^ 63)) = false ∧ ¬ ((i.length : Int) > (2 ^ 63 - 1) / n) ∧ Builtin.Str.tooLong (i.length * n.toNat) = false ∧ ¬ n < 1 ∧ (n == 1 || i.length == 0) = false ∧
  (⟨(List.replicate n.toNat i.cps).foldl (· ++ ·) #[]⟩ : Str).length ≤ sizeLine ∧ Q (.str ⟨(List.replicate n.toNat i.cps).foldl (· ++ ·) #[]⟩) H
theorem op_mulS {X : Cx} : OpR X (binaryOp .Mult) rMulS := by
  intro pins s σ H x y v u Q I rx ry h
  obtain ⟨i, n, rfl, rfl, h1, h2, h3, h4, h5, h6, q⟩ := h
  obtain ⟨t, rfl⟩ := rx
  obtain ⟨t', rfl⟩ := ry
  refine PySem.P.mul_str h1 (fun _ _ => h2) (fun _ _ => h3) ?_
  rw [if_neg h4, h5, if_neg Bool.false_ne_true]
  exact ⟨h6, ⟨.str _, H, I.tok _, ⟨_, rfl⟩, q⟩⟩
/-! ### what the head says of the classes -/
def exCB (K : PySem.W.Frag) (C : Addr) : Bool :=
  decide (PySem.W.findIn K (.ref C) "__getattribute__" = some (some (.builtin "BaseException.__getattribute__"))) && (decide (PySem.W.findIn K (.ref C) "__getattr__" = some none) && (decide (PySem.W.subIn K (.ref C) (.type "BaseException") = some true) && (PySem.W.hasDictIn K C &&
  (decide (PySem.W.findIn K (.ref C) "__class__" = some (some (.builtin "object.__class__"))) && (decide (PySem.W.specialIn K (.builtin "object.__class__") "__get__" = some (some (.builtin "getset_descriptor.__get__"))) && (decide (PySem.W.takesIn K (.builtin "object.__class__") = some true) && decide (PySem.W.mroIn K C (.type "object") = some true)))))))
theorem exCB_ok {K : PySem.W.Frag} {C : Addr} (h : exCB K C = true) : ExcC K C := by
  obtain ⟨h1, h⟩ := ba h
  obtain ⟨h2, h⟩ := ba h
  obtain ⟨h3, h⟩ := ba h
  obtain ⟨h4, h⟩ := ba h
  obtain ⟨h5, h⟩ := ba h
  obtain ⟨h6, h⟩ := ba h
  obtain ⟨h7, h8⟩ := ba h
  exact ⟨of_decide_eq_true h1, of_decide_eq_true h2, of_decide_eq_true h3, h4, of_decide_eq_true h5, of_decide_eq_true h6, of_decide_eq_true h7, of_decide_eq_true h8⟩
end ExV

/-! len(set(xs)) for keys of any one kind, with repeats -/
namespace SetS
open PySem PySem.Spec PyProof.Rows
section
variable {T : Type} [DecidableEq T]
/-- what a set made of these holds, in the order of their first coming -/
def grow (l : List T) (x : T) : List T := if x ∈ l then l else l ++ [x]
def met (xs : List T) : List T := xs.foldl grow []
theorem met_snoc (xs : List T) (x : T) : met (xs ++ [x]) = grow (met xs) x := by
  unfold met
  rw [List.foldl_append]
  rfl
theorem mem_grow {l : List T} {x y : T} : y ∈ grow l x ↔ y ∈ l ∨ y = x := by
  unfold grow
  split
  · rename_i h
    constructor
    · exact .inl
    · rintro (q | rfl)
      · exact q
      · exact h
  · rw [List.mem_append, List.mem_singleton]
theorem rev_ind {p : List T → Prop} (h0 : p []) (h1 : ∀ l x, p l → p (l ++ [x])) (l : List T) : p l := by
  have h : ∀ n (l : List T), l.length = n → p l := by
    intro n
    induction n with
    | zero =>
      intro l e
      rw [List.length_eq_zero_iff.mp e]
      exact h0
    | succ n ih =>
      intro l e
      have hne : l ≠ [] := fun z => by rw [z] at e; simp at e
      rw [← List.dropLast_concat_getLast hne]
      exact h1 _ _ (ih _ (by rw [List.length_dropLast, e]; rfl))
  exact h _ l rfl
theorem mem_met {xs : List T} {y : T} : y ∈ met xs ↔ y ∈ xs := by
  induction xs using rev_ind with
  | h0 => exact Iff.rfl
  | h1 l x ih => rw [met_snoc, mem_grow, ih, List.mem_append, List.mem_singleton]
theorem met_le (xs : List T) : (met xs).length ≤ xs.length := by
  induction xs using rev_ind with
  | h0 => exact Nat.le_refl _
  | h1 l x ih =>
    rw [met_snoc, List.length_append, List.length_singleton]
    unfold grow
    split
    · omega
    · rw [List.length_append, List.length_singleton]
      omega
theorem met_nodup (xs : List T) : (met xs).length = xs.length ↔ xs.Nodup := by
  induction xs using rev_ind with
  | h0 => exact ⟨fun _ => List.nodup_nil, fun _ => rfl⟩
  | h1 l x ih =>
    have le := met_le l
    rw [met_snoc, List.length_append, List.length_singleton, List.nodup_append]
    unfold grow
    by_cases h : x ∈ l
    · rw [if_pos (mem_met.mpr h)]
      constructor
      · intro z
        omega
      · rintro ⟨_, _, z⟩
        exact absurd rfl (z x h x (List.mem_singleton.mpr rfl))
    · rw [if_neg (fun z => h (mem_met.mp z)), List.length_append, List.length_singleton]
      constructor
      · intro z
        refine ⟨ih.mp (by omega), by simp, fun a ha b hb => ?_⟩
        rw [List.mem_singleton] at hb
        subst hb
        intro q
        subst q
        exact h ha
      · rintro ⟨z, _, _⟩
        rw [ih.mpr z]
end
section
variable {T : Type} [DecidableEq T] [BEq T] [LawfulBEq T] {prog : Program} {w : World} (knd : KeyKind prog w T)
theorem grow_has {l : List T} {x k : T} : (l.any (· == k) || decide (k = x)) = (grow l x).any (· == k) := by
  have e : ∀ m : List T, m.any (· == k) = decide (k ∈ m) := fun m => by
    by_cases h : k ∈ m
    · rw [decide_eq_true h]
      exact List.any_eq_true.mpr ⟨k, h, beq_self_eq_true k⟩
    · rw [decide_eq_false h]
      refine Bool.eq_false_iff.mpr fun z => h ?_
      obtain ⟨y, hy, q⟩ := List.any_eq_true.mp z
      rw [← eq_of_beq q]
      exact hy
  rw [e, e, ← Bool.decide_or]
  exact decide_eq_decide.mpr mem_grow.symm
theorem grow_len {l : List T} {x : T} : (if l.any (· == x) = true then l.length else l.length + 1) = (grow l x).length := by
  unfold grow
  by_cases h : x ∈ l
  · have q : l.any (· == x) = true := List.any_eq_true.mpr ⟨x, h, beq_self_eq_true x⟩
    rw [if_pos h, if_pos q]
  · have q : ¬ l.any (· == x) = true := fun z => by
      obtain ⟨y, hy, q⟩ := List.any_eq_true.mp z
      exact h (eq_of_beq q ▸ hy)
    rw [if_neg h, if_neg q, List.length_append, List.length_singleton]
variable {A : Around} {R : Result → Shared → Prop} {I : Addr} {fp wr : List Addr} {G : Array GenState → Array GenState → Prop} {n : Nat} {P : Nat → Value → Prop} {St : Nat → Shared → Prop}
theorem add_all (W : WalksS prog w A.in1 I fp wr G n P St) (S : Addr) (hSf : S ∉ fp) (xs : List T) (hn : xs.length = n) (hb : n + 1 < scanBound)
    (hval : ∀ i v, P i v → ∃ x, xs[i]? = some x ∧ knd.is x v = true ∧ v.scannable = true) :
    ∀ (k i : Nat) (s : Shared), n - i = k → i ≤ n → St i s → s.heap.SetOf knd S (fun k' => (met (xs.take i)).any (· == k')) (met (xs.take i)).length →
      (∀ s', Moved (S :: wr) G s s' → s'.heap.SetOf knd S (fun k' => (met xs).any (· == k')) (met xs).length → R (.ok (.ret .none)) s') →
      codeAny (model prog w) A (.builtin "set.update.loop" ⟨[.ref S, .ref I], []⟩) R s := by
  have nw : S ∉ wr := fun h => hSf (W.sub _ h)
  have up : ∀ b ∈ wr, b ∈ S :: wr := fun b hb => List.mem_cons_of_mem _ hb
  have stays : ∀ {h h' : Heap} {S1 : T → Bool} {m : Nat}, (∀ o, h.get? S = some o → h'.get? S = some o) → h.SetOf knd S S1 m → h'.SetOf knd S S1 m := fun k ⟨o, es, ep, t, ho, r⟩ => ⟨o, es, ep, t, k o ho, r⟩
  intro k
  induction k with
  | zero =>
    intro i s hk hi hst hS hR
    obtain rfl : i = n := by omega
    rw [List.take_of_length_le (Nat.le_of_eq hn)] at hS
    refine codeAny_builtin F.entry_set_update_loop ?_
    rw [Around.under_plainId F.plain_set_update_loop _]
    show wpAny _ A.in1 (pyNext (.ref I) >>= _) _ _ s
    exact wpAny_bind (W.done s _ _ hst fun s' hm => wpAny_pure (hR s' (hm.mono up) (stays (fun o => hm.heap S o nw) hS)))
  | succ k ih =>
    intro i s hk hi hst hS hR
    have lt : i < n := by omega
    refine codeAny_builtin F.entry_set_update_loop ?_
    rw [Around.under_plainId F.plain_set_update_loop _]
    show wpAny _ A.in1 (pyNext (.ref I) >>= _) _ _ s
    refine wpAny_bind (W.item i s _ _ lt hst fun v s' hP hst' hm => ?_)
    obtain ⟨x, hx, hkey, hsc⟩ := hval i v hP
    have hS1 := stays (fun o => hm.heap S o nw) hS
    have lm := met_le (xs.take i)
    rw [List.length_take] at lm
    show wpAny _ A.in1 (holding [v] (setAdd S v) >>= _) _ _ s'
    refine wpAny_bind (wpAny_holding ?_)
    unfold setAdd
    refine wpAny_holding (wpAny_bind (knd.pyHash hkey ?_))
    refine wpAny_setAddHashed_of (knd := knd) (s := { s' with toks := s'.toks + 1 }) hkey hsc hS1 (by omega) fun h' sb hS2 => ?_
    have et : xs.take (i + 1) = xs.take i ++ [x] := by
      rw [List.take_succ, hx]
      rfl
    have hS3 : h'.SetOf knd S (fun k' => (met (xs.take (i + 1))).any (· == k')) (met (xs.take (i + 1))).length :=
      SetOf_congr hS2 (fun k' => by rw [et, met_snoc]; exact grow_has) (by rw [et, met_snoc]; exact grow_len)
    refine wpAny_pure ⟨plainId_quiet F.plain_set_update_loop _, ih (i + 1) _ (by omega) lt (W.frame _ s' _ _ hst' (Nat.le_succ _) fun b hb o e => ?_) hS3 fun s2 hm2 hS4 => ?_⟩
    · rw [sb.2 b (fun z => hSf (z ▸ hb))]
      exact e
    · refine hR s2 (Moved.trans W.gtrans ((hm.mono up).then_heap (Nat.le_succ _) fun b o hb e => ?_) hm2) hS4
      rw [sb.2 b (fun z => hb (z ▸ List.mem_cons_self))]
      exact e
end
section
variable {T : Type} [DecidableEq T] [BEq T] [LawfulBEq T] {prog : Program} {w : World} (knd : KeyKind prog w T) {A : Around} {E : Value → Shared → Prop} {s : Shared}
def setNew (led : Bool) : Obj := { cls := .type "set", dict := none, data := .set #[] 0 (.fresh 0 0 led) }
/-- what set.__init__ leaves -/
def Left (h0 : Heap) (xs : List T) (h' : Heap) : Prop := h'.SetOf knd h0.objs.size (fun k' => (met xs).any (· == k')) (met xs).length ∧ ∀ b o, b < h0.objs.size → h0.get? b = some o → h'.get? b = some o
set_option maxHeartbeats 3200000 in
theorem call_set {l : Addr} {items : Array Value} {xs : List T} {Q : Value → Shared → Prop} (hh : A.handled = none) (hl : s.heap.IsList l items) (hsz : xs.length = items.size) (hb : items.size + 1 < scanBound)
    (hval : ∀ (i : Nat) (v : Value), items[i]? = some v → ∃ x, xs[i]? = some x ∧ knd.is x v = true ∧ v.scannable = true)
    (h : ∀ (h' : Heap) (tk : Nat), Left knd s.heap xs h' → Q (.ref s.heap.objs.size) { s with heap := h', toks := tk }) : wpAny (model prog w) A (call (.type "set") [.ref l]) Q E s := by
  obtain ⟨c, tl, hmro⟩ := PySem.F.called_set.mro
  have m1 := PySem.F.called_set.made
  have m2 := PySem.F.called_set.sub
  have m3 := PySem.F.called_set.notType
  have m4 := PySem.F.called_set.canCreate
  have m5 := PySem.F.typeCall_set_1 (.ref l)
  refine wpAny_call (codeAny_of_tree ?_)
  show wpAny _ _ (callAny (.type "set") _) _ _ _
  refine wpAny_pure ⟨Code.quiet_builtin _ (by decide +kernel), codeAny_builtin PySem.F.entry_type_call ?_⟩
  rw [Around.under_plain (weight_type_call_type "set" [.ref l] []) rfl]
  repeat (any_goals (first | assumption | wp_step))
  refine codeAny_mono (code_set_new_1 (.ref l) (E := E) (Q₁ := fun o s₁ => ∃ led : Bool, o = .ref s.heap.objs.size ∧ s₁ = { s with heap := s.heap.push (setNew led) }) fun led => ⟨led, rfl, rfl⟩) fun r s₁ hr => ?_
  have fin : ∀ led : Bool, codeAny (model prog w) A.in1 (.call (.builtin "set.__init__") ⟨[.ref s.heap.objs.size, .ref l], []⟩) (wants (fun r s₂ => r = .none ∧ ∃ h' tk, s₂ = { s with heap := h', toks := tk } ∧ Left knd s.heap xs h') E) { s with heap := s.heap.push (setNew led) } := by
    intro led
    have hS : (s.heap.push (setNew led)).get? s.heap.objs.size = some (setNew led) := Heap.get?_push_size _ rfl
    have hT : Shared.TypeIs { s with heap := s.heap.push (setNew led) } (.ref s.heap.objs.size) "set" := ⟨_, hS, rfl⟩
    refine codeAny_call_builtin PySem.F.called_set.init.plain PySem.F.entry_set_init (check_set_init_1 hT ?_)
    obtain ⟨ol, hol, hcl, nl, hdl⟩ := hl
    obtain ⟨oc, od, oda, osl⟩ := ol
    simp only at hcl hdl
    subst hcl hdl
    have hol2 : (s.heap.push (setNew led)).get? l = some { cls := .type "list", dict := od, data := .seq items nl, slots := osl } := Heap.get?_push_of_some _ hol
    have hl2 : (s.heap.push (setNew led)).IsList l items := ⟨_, hol2, rfl, nl, rfl⟩
    have p1 := PySem.F.sub_list_set
    have p2 := PySem.F.sub_list_frozenset
    have p3 : (Value.type "list" == Value.type "dict") = false := by decide
    have lt : l < s.heap.objs.size := Heap.lt_size hol
    have z1 : (s.heap.push (setNew led)).objs.size = s.heap.objs.size + 1 := Heap.size_push ..
    unfold Builtin.«set.__init__» noKeywords Builtin.Frozenset.updateFrom
    generalize hPI : pyIter = PI
    wp_walk
    subst hPI
    refine wpAny_pyIter_list hl2 (wpAny_bind (wpAny_runValue ?_))
    refine add_all knd ((Walks.list (by simp [hh]) _ l (by rw [z1]; exact Nat.ne_of_lt (Nat.lt_succ_of_lt lt)) items).toS) s.heap.objs.size (by rw [z1]; simp only [List.mem_cons, List.not_mem_nil, or_false, not_or]; exact ⟨Nat.ne_of_lt (Nat.lt_succ_self _), Nat.ne_of_gt lt⟩) xs hsz hb hval (items.size - 0) 0 _ (by omega) (Nat.zero_le _)
      ⟨⟨_, Heap.get?_push_size _ rfl, rfl, rfl⟩, (hl2.push _)⟩ ?_ ?_
    · exact SetOf_congr ((setObjOf_fresh (knd := knd) led).setOf (Heap.get?_push_of_some _ hS) (by unfold scanBound; omega)) (fun _ => rfl) rfl
    · intro s' hm hS'
      obtain ⟨h', g', d', tk', os'⟩ := s'
      have eg : g' = s.gens := hm.gens
      have ed : d' = s.drawn := hm.drawn
      have eo : os' = s.os := hm.os
      subst eg ed eo
      refine wpAny_pure (wpAny_pure ⟨rfl, h', tk', rfl, hS', fun b o hb e => ?_⟩)
      exact hm.heap b o (by rw [z1]; simp only [List.mem_cons, List.not_mem_nil, or_false, not_or]; exact ⟨Nat.ne_of_lt hb, Nat.ne_of_lt (Nat.lt_succ_of_lt hb)⟩) (Heap.get?_push_of_some _ (Heap.get?_push_of_some _ e))
  cases r with
  | error e => exact hr
  | ok fl =>
    cases fl with
    | ret obj =>
      obtain ⟨led, rfl, rfl⟩ := hr
      have hS : (s.heap.push (setNew led)).get? s.heap.objs.size = some (setNew led) := Heap.get?_push_size _ rfl
      have hT : Shared.TypeIs { s with heap := s.heap.push (setNew led) } (.ref s.heap.objs.size) "set" := ⟨_, hS, rfl⟩
      have l1 := PySem.F.called_set.init.lookup
      have l2 := PySem.F.called_set.init.bind (.ref s.heap.objs.size)
      repeat (any_goals (first | assumption | wp_step))
      refine codeAny_mono (fin led) fun r₂ s₂ hr₂ => ?_
      cases r₂ with
      | error e => exact hr₂
      | ok fl₂ =>
        cases fl₂ with
        | ret r =>
          obtain ⟨rfl, h', tk, rfl, hS'⟩ := hr₂
          repeat (any_goals (first | assumption | wp_step))
          exact h _ _ hS'
        | _ => exact hr₂.elim
    | _ => exact hr.elim
end
end SetS
namespace SetS
open PySem PySem.Spec PyProof.Rows L2 He HkS Bs
section
variable {X : Cx} {K : PySem.W.Frag}
/-- len(set(xs)), xs a list of texts, or of ints -/
def tLenSetS (K : PySem.W.Frag) (ta : TE) : TE := fun σ H Q => ta σ H fun x H1 => ∃ (l : Addr) (xs : List Str), x = .ref l ∧ SqL K H1 l (xs.map V.str) ∧ xs.length ≤ 4000 ∧ Q (.int ((met xs).length : Nat)) H1
def tLenSetN (K : PySem.W.Frag) (ta : TE) : TE := fun σ H Q => ta σ H fun x H1 => ∃ (l : Addr) (xs : List Int), x = .ref l ∧ SqL K H1 l (xs.map V.int) ∧ xs.length ≤ 4000 ∧ Q (.int ((met xs).length : Nat)) H1
theorem vals_at {α : Type} {f : α → V} : ∀ {xs : List α} {us : List Value}, Vals (xs.map f) us → ∀ (i : Nat) (v : Value), us[i]? = some v → ∃ x, xs[i]? = some x ∧ RelV (f x) v
  | [], _, .nil, i, v, h => by simp at h
  | x :: xs, _, .cons r t, 0, v, h => by
    simp at h
    subst h
    exact ⟨x, rfl, r⟩
  | x :: xs, _, .cons r t, i + 1, v, h => by
    simp only [List.getElem?_cons_succ] at h ⊢
    exact vals_at t i v h
theorem len_set {T : Type} [DecidableEq T] [BEq T] [LawfulBEq T] (knd : KeyKind X.prog X.w T) (f : T → V) (hf : ∀ x v, RelV (f x) v → knd.is x v = true ∧ v.scannable = true) {a : Expr} {ta : TE} {p p2 q pos : Pos} (hc : X.calm = true) (hg : Gl X "len") (hm : X.mg "len" = none) (hg2 : Gl X "set") (hm2 : X.mg "set" = none) (ha : PE X a ta)
    (na : starEach [a] X.env = (false, eval a X.env) :: starEach [] X.env) :
    PE X (.Call (.Name "len" p) [.Call (.Name "set" p2) [a] [] q] [] pos) (fun σ H Q => ta σ H fun x H1 => ∃ (l : Addr) (xs : List T), x = .ref l ∧ SqL X.K H1 l (xs.map f) ∧ xs.length ≤ 4000 ∧ Q (.int ((met xs).length : Nat)) H1) := by
  refine ⟨fun pins s σ H Q I h => ?_⟩
  refine Call_ (ld_blt I hg hm boot_len (callWith_builtin1 (args_cons (Call_ (ld_blt I hg2 hm2 boot_set (callWith_type1 (args_cons (thn (ha.run pins s σ H _ I h) fun v s1 ⟨x, H1, I1, r1, q1⟩ => args_nil ?_) na) na rfl))) rfl) rfl rfl))
  obtain ⟨l, xs, rfl, hq, hz, q2⟩ := q1
  cases r1
  obtain ⟨its, r, pl, _⟩ := I1.list hq
  have hl : xs.length = its.toArray.size := by rw [List.size_toArray, ← r.length, List.length_map]
  refine call_set knd (I1.ok.hd hc) pl.isList hl (by rw [← hl]; unfold scanBound; omega) (fun i v hv => ?_) fun h' tk ⟨hS, hk⟩ => args_nil ?_
  · obtain ⟨x, e, rv⟩ := vals_at r i v (by simpa using hv)
    exact ⟨x, e, hf x v rv⟩
  · obtain ⟨o, es, ep, t, ho, hex, hd, _, _, _, hfit, hn⟩ := hS
    have I2 : Inv X pins σ H1 { s1 with heap := h', toks := tk } := I1.kept fun b o e => hk b o (Heap.lt_size e) e
    have le := met_le xs
    exact call_len_set ho hex hd hfit (by rw [hn]; omega) ⟨.int ((met xs).length : Nat), H1, I2.tok _, ⟨_, by rw [hn]⟩, q2⟩
theorem pe_lenSetS {a : Expr} {ta : TE} {p p2 q pos : Pos} (hc : X.calm = true) (hg : Gl X "len") (hm : X.mg "len" = none) (hg2 : Gl X "set") (hm2 : X.mg "set" = none) (ha : PE X a ta)
    (na : starEach [a] X.env = (false, eval a X.env) :: starEach [] X.env := by rfl) (hk : X.K = K := by rfl) : PE X (.Call (.Name "len" p) [.Call (.Name "set" p2) [a] [] q] [] pos) (tLenSetS K ta) := by
  subst hk
  exact len_set (PySem.strKind X.prog X.w) V.str (fun x v ⟨t, e⟩ => by subst e; exact ⟨strKind_is _ _ _ _, rfl⟩) hc hg hm hg2 hm2 ha na
theorem pe_lenSetN {a : Expr} {ta : TE} {p p2 q pos : Pos} (hc : X.calm = true) (hg : Gl X "len") (hm : X.mg "len" = none) (hg2 : Gl X "set") (hm2 : X.mg "set" = none) (ha : PE X a ta)
    (na : starEach [a] X.env = (false, eval a X.env) :: starEach [] X.env := by rfl) (hk : X.K = K := by rfl) : PE X (.Call (.Name "len" p) [.Call (.Name "set" p2) [a] [] q] [] pos) (tLenSetN K ta) := by
  subst hk
  exact len_set (PySem.intKind X.prog X.w) V.int (fun x v ⟨t, e⟩ => by subst e; exact ⟨intKind_is _ _ _ _, rfl⟩) hc hg hm hg2 hm2 ha na
end
end SetS

set_option maxHeartbeats 2000000
/-! xs[i] |= e; a range object kept in a name and walked -/
namespace Au
open PySem PySem.Spec PyProof.Rows L2 He HkS Bs
section
variable {X : Cx} {K : PySem.W.Frag}
def gIx (K : PySem.W.Frag) : V → V → Hp → VK → Prop := fun x y H Q => ∃ p xs i v, x = .ref p ∧ y = .int i ∧ 0 ≤ i ∧ i < 2 ^ 62 ∧ SqL K H p xs ∧ xs[i.toNat]? = some v ∧ Q v H
theorem get_ix (hk : X.K = K := by rfl) : PGet X (gIx K) := by
  subst hk
  intro pins s σ H x y v u Q I rx ry h
  obtain ⟨p, xs, i, z, rfl, rfl, h0, h1, hq, he, q⟩ := h
  cases rx
  obtain ⟨t, rfl⟩ := ry
  obtain ⟨its, r, pl, hz⟩ := I.list hq
  obtain ⟨w, ew, rw'⟩ := r.get he
  exact wpAny_getItem_list pl.isList h0 (by omega) (by simpa using ew) ⟨z, H, I, rw', q⟩
theorem ip_or : PIp X .BitOr (rI0 fun i j => .int (Builtin.bitOr i j)) := iop_or
/-- range(n) as a value -/
def rRg1 : List V → Hp → VK → Prop := fun vs H Q => ∃ j : Int, vs = [V.int j] ∧ ∀ p, H p = none → Q (.ref p) (upd H p (.rng 0 j))
theorem cr_rg1 : CallR X (.type "range") rRg1 := by
  intro pins s σ H vs us Q I r h
  obtain ⟨j, rfl, q⟩ := h
  cases r with
  | cons r rr =>
    cases rr
    obtain ⟨t, rfl⟩ := r
    refine call_range_1 ⟨.ref s.heap.objs.size, upd H s.heap.objs.size (.rng 0 j), I.laid (t' := s.toks + 1 + 1) (fun b o e => Heap.get?_push_of_some _ e) (Nat.le_refl _) ?_, rfl, q _ (I.hok.fresh (Nat.le_refl _))⟩
    exact ⟨s.toks, t, s.toks + 1, Heap.get?_push_size _ rfl⟩
/-- for x in r, r a range object -/
def iRgV (te : TE) : TI := fun σ H R => te σ H fun x H1 => ∃ (p : Addr) (lo hi : Int), x = .ref p ∧ H1 p = some (.rng lo hi) ∧ (-(2 ^ 62) ≤ lo ∧ lo < 2 ^ 62 ∧ -(2 ^ 62) ≤ hi ∧ hi < 2 ^ 62) ∧ R (Itr lo (hi - lo).toNat) H1
theorem pi_rgV {tg e : Expr} {te : TE} (he : PE X e te) : PI X tg e (iRgV te) := by
  refine ⟨fun pins s σ H R I h => ?_⟩
  refine thn (he.run pins s σ H _ I h) fun v s1 ⟨x, H1, I1, r1, p, lo, hi, ex, hp, ⟨q1, q2, q3, q4⟩, q⟩ => ?_
  subst ex
  cases r1
  have ob : ObjOk X.prog X.w H1 s1.heap p (.rng lo hi) := I1.hok p _ hp
  obtain ⟨t, u, v, ho⟩ := ob
  refine wpAny_pyIter_range (show IsRange s1.heap p lo hi 1 t u v from ho) (small_one q1 q2 q3 q4) ?_
  have I2 : ∀ tk, Inv X pins σ H1 { s1 with heap := s1.heap.push { cls := .type "range_iterator", data := .fields #[rawInt lo, rawInt (Builtin.Range.rangeSize lo hi 1), rawInt 1] }, toks := tk } := fun tk => I1.kept (t' := tk) fun b o e => Heap.get?_push_of_some _ e
  refine ⟨s1.heap.objs.size, [s1.heap.objs.size], _, _, H1, rfl, I2 _, turn_range _ lo (hi - lo).toNat, ?_, fun b hb => ?_, q⟩
  · have e1 : lo + ((0 : Nat) : Int) * 1 = lo := by simp
    have e2 : (((hi - lo).toNat : Nat) : Int) - ((0 : Nat) : Int) = Builtin.Range.rangeSize lo hi 1 := by rw [rangeSize_one]; split <;> omega
    show IsRangeIter _ _ (lo + ((0 : Nat) : Int) * 1) ((((hi - lo).toNat : Nat) : Int) - ((0 : Nat) : Int)) 1
    rw [e1, e2]
    exact Heap.get?_push_size _ rfl
  · have e : b = s1.heap.objs.size := by simpa using hb
    subst e
    exact I1.fpOk (Nat.le_refl _) (I1.hok.fresh (Nat.le_refl _))
end
end Au

/-! masks, and the closure of a relation on places -/
namespace Clo
open PySem PySem.Spec PyProof.Rows L2
def bits : Nat → (Nat → Bool) → Nat
  | 0, _ => 0
  | n + 1, f => bits n f + if f n = true then 2 ^ n else 0
theorem bits_lt (f : Nat → Bool) : ∀ n, bits n f < 2 ^ n
  | 0 => Nat.one_pos
  | n + 1 => by
    have h := bits_lt f n
    unfold bits
    rw [Nat.pow_succ]
    split <;> omega
theorem bits_test (f : Nat → Bool) (i : Nat) : ∀ n, (bits n f).testBit i = (decide (i < n) && f i)
  | 0 => by
    unfold bits
    rw [Nat.zero_testBit]
    rfl
  | n + 1 => by
    have ih := bits_test f i n
    have lt := bits_lt f n
    unfold bits
    by_cases hf : f n = true
    · rw [if_pos hf, Nat.add_comm]
      rcases Nat.lt_trichotomy i n with h | h | h
      · rw [Nat.testBit_two_pow_add_gt h, ih, decide_eq_true h, decide_eq_true (by omega)]
      · subst h
        rw [Nat.testBit_two_pow_add_eq, ih, hf]
        simp
      · have l2 : 2 ^ n + bits n f < 2 ^ i := by
          have : 2 ^ (n + 1) ≤ 2 ^ i := Nat.pow_le_pow_right (by decide) h
          rw [Nat.pow_succ] at this
          omega
        rw [Nat.testBit_lt_two_pow l2, decide_eq_false (by omega)]
        rfl
    · rw [if_neg hf, Nat.add_zero, ih]
      by_cases h : i = n
      · subst h
        rw [Bool.eq_false_iff.mpr hf]
        simp
      · by_cases h2 : i < n
        · rw [decide_eq_true h2, decide_eq_true (by omega)]
        · rw [decide_eq_false h2, decide_eq_false (by omega)]
theorem bits_congr {n : Nat} {f g : Nat → Bool} (h : ∀ i, i < n → f i = g i) : bits n f = bits n g := by
  apply Nat.eq_of_testBit_eq
  intro i
  rw [bits_test, bits_test]
  by_cases hi : i < n
  · rw [h i hi]
  · rw [decide_eq_false hi]
    rfl
theorem bits_inj {n : Nat} {f g : Nat → Bool} (h : bits n f = bits n g) {i : Nat} (hi : i < n) : f i = g i := by
  have e := congrArg (fun m => Nat.testBit m i) h
  simp only [bits_test, decide_eq_true hi, Bool.true_and] at e
  exact e
theorem bits_or (n : Nat) (f g : Nat → Bool) : bits n f ||| bits n g = bits n fun i => f i || g i := by
  apply Nat.eq_of_testBit_eq
  intro i
  rw [Nat.testBit_or, bits_test, bits_test, bits_test]
  cases decide (i < n) <;> rfl
theorem bits_and (n : Nat) (f g : Nat → Bool) : bits n f &&& bits n g = bits n fun i => f i && g i := by
  apply Nat.eq_of_testBit_eq
  intro i
  rw [Nat.testBit_and, bits_test, bits_test, bits_test]
  cases decide (i < n) <;> simp
theorem bits_one {n j : Nat} (h : j < n) : bits n (fun i => decide (i = j)) = 2 ^ j := by
  apply Nat.eq_of_testBit_eq
  intro i
  rw [bits_test, Nat.testBit_two_pow]
  by_cases e : i = j
  · subst e
    rw [decide_eq_true h, decide_eq_true rfl]
    rfl
  · have e2 : ¬ j = i := fun z => e z.symm
    rw [decide_eq_false e, decide_eq_false e2, Bool.and_false]
theorem bits_all (n : Nat) : bits n (fun _ => true) = 2 ^ n - 1 := by
  induction n with
  | zero => rfl
  | succ n ih =>
    unfold bits
    rw [ih, if_pos rfl, Nat.pow_succ]
    have := Nat.two_pow_pos n
    omega
theorem band (a b : Nat) : Builtin.bitAnd (a : Int) (b : Int) = ((a &&& b : Nat) : Int) := by
  unfold Builtin.bitAnd
  rw [decide_eq_true (Int.natCast_nonneg a), decide_eq_true (Int.natCast_nonneg b)]
  rfl
theorem bor (a b : Nat) : Builtin.bitOr (a : Int) (b : Int) = ((a ||| b : Nat) : Int) := by
  have e : ∀ n : Nat, Builtin.bitNot (n : Int) = -((n : Int) + 1) := fun n => by unfold Builtin.bitNot; omega
  have e2 : ∀ n : Nat, Builtin.bitNot (-((n : Int) + 1)) = (n : Int) := fun n => by unfold Builtin.bitNot; omega
  unfold Builtin.bitOr Builtin.bitAnd
  rw [e, e, decide_eq_false (by omega), decide_eq_false (by omega)]
  show Builtin.bitNot (Builtin.bitNot _) = _
  rw [e2, e2, e, e2]
  rfl
theorem shl1 (j : Nat) : (1 : Int) * 2 ^ ((j : Nat) : Int).toNat = ((2 ^ j : Nat) : Int) := by
  rw [Int.one_mul, Int.toNat_natCast]
  norm_cast
theorem has (m p : Nat) : decide (V.int (Builtin.bitAnd (((m : Nat) : Int) / 2 ^ ((p : Nat) : Int).toNat) 1) = V.int 1) = m.testBit p := by
  have e1 : ((m : Nat) : Int) / 2 ^ ((p : Nat) : Int).toNat = ((m / 2 ^ p : Nat) : Int) := by
    rw [Int.toNat_natCast]
    norm_cast
  rw [e1, show (1 : Int) = ((1 : Nat) : Int) from rfl, band, Nat.and_one_is_mod, Nat.testBit_eq_decide_div_mod_eq]
  by_cases h : m / 2 ^ p % 2 = 1
  · rw [decide_eq_true h, h]
    exact decide_eq_true rfl
  · rw [decide_eq_false h]
    exact decide_eq_false fun z => h (by injection z with z; omega)
/-! ### the closure -/
def base (ws : List (Nat × Nat)) (a b : Nat) : Bool := decide (a = b) || decide ((a, b) ∈ ws)
/-- after the middles below c -/
def clo (ws : List (Nat × Nat)) : Nat → Nat → Nat → Bool
  | 0, a, b => base ws a b
  | c + 1, a, b => clo ws c a b || (clo ws c a c && clo ws c c b)
section
variable {ws : List (Nat × Nat)}
theorem clo_refl (a : Nat) : ∀ c, clo ws c a a = true
  | 0 => by
    unfold clo base
    rw [decide_eq_true rfl]
    rfl
  | c + 1 => by
    unfold clo
    rw [clo_refl a c]
    rfl
theorem clo_col (c a : Nat) : clo ws (c + 1) a c = clo ws c a c := by
  show (clo ws c a c || (clo ws c a c && clo ws c c c)) = _
  cases clo ws c a c <;> simp
theorem clo_row (c b : Nat) : clo ws (c + 1) c b = clo ws c c b := by
  show (clo ws c c b || (clo ws c c c && clo ws c c b)) = _
  rw [clo_refl]
  simp
theorem clo_step {c a b : Nat} : clo ws (c + 1) a b = true ↔ clo ws c a b = true ∨ (clo ws c a c = true ∧ clo ws c c b = true) := by
  show (clo ws c a b || (clo ws c a c && clo ws c c b)) = true ↔ _
  rw [Bool.or_eq_true, Bool.and_eq_true]
theorem clo_tr : ∀ (c i a b : Nat), i < c → clo ws c a i = true → clo ws c i b = true → clo ws c a b = true
  | 0, _, _, _, h, _, _ => absurd h (Nat.not_lt_zero _)
  | c + 1, i, a, b, h, h1, h2 => by
    by_cases e : i = c
    · subst e
      rw [clo_col] at h1
      rw [clo_row] at h2
      exact clo_step.mpr (.inr ⟨h1, h2⟩)
    · have lt : i < c := by omega
      rcases clo_step.mp h1 with p | ⟨p1, p2⟩
      · rcases clo_step.mp h2 with q | ⟨q1, q2⟩
        · exact clo_step.mpr (.inl (clo_tr c i a b lt p q))
        · exact clo_step.mpr (.inr ⟨clo_tr c i a c lt p q1, q2⟩)
      · rcases clo_step.mp h2 with q | ⟨q1, q2⟩
        · exact clo_step.mpr (.inr ⟨p1, clo_tr c i c b lt p2 q⟩)
        · exact clo_step.mpr (.inr ⟨p1, q2⟩)
end
/-- the masks of what lies below each place, after the middles below c -/
def bel (n : Nat) (ws : List (Nat × Nat)) (c b : Nat) : Nat := bits n fun a => clo ws c a b
theorem bel_has {n : Nat} {ws : List (Nat × Nat)} {c a b : Nat} (h : a < n) : (bel n ws c b).testBit a = clo ws c a b := by
  unfold bel
  rw [bits_test, decide_eq_true h]
  rfl
theorem bel_step {n : Nat} {ws : List (Nat × Nat)} {c b : Nat} (h : clo ws c c b = true) : bel n ws c b ||| bel n ws c c = bel n ws (c + 1) b := by
  unfold bel
  rw [bits_or]
  refine bits_congr fun i _ => ?_
  show _ = (clo ws c i b || (clo ws c i c && clo ws c c b))
  rw [h]
  cases clo ws c i c <;> simp
theorem bel_same {n : Nat} {ws : List (Nat × Nat)} {c b : Nat} (h : clo ws c c b = false) : bel n ws c b = bel n ws (c + 1) b := by
  unfold bel
  refine bits_congr fun i _ => ?_
  show _ = (clo ws c i b || (clo ws c i c && clo ws c c b))
  rw [h]
  cases clo ws c i b <;> simp
theorem bel_mid {n : Nat} {ws : List (Nat × Nat)} {c : Nat} : bel n ws (c + 1) c = bel n ws c c := bits_congr fun i _ => clo_col c i
theorem bel_put {n : Nat} {ws : List (Nat × Nat)} {l u : Nat} (h : l < n) (b : Nat) : (if b = u then bel n ws 0 b ||| 2 ^ l else bel n ws 0 b) = bel n (ws ++ [(l, u)]) 0 b := by
  have e : ∀ a, clo (ws ++ [(l, u)]) 0 a b = (clo ws 0 a b || (decide (a = l) && decide (b = u))) := fun a => by
    show (decide (a = b) || decide ((a, b) ∈ ws ++ [(l, u)])) = ((decide (a = b) || decide ((a, b) ∈ ws)) || _)
    have e2 : decide ((a, b) ∈ ws ++ [(l, u)]) = (decide ((a, b) ∈ ws) || (decide (a = l) && decide (b = u))) := by
      rw [← Bool.decide_and, ← Bool.decide_or]
      refine decide_eq_decide.mpr ?_
      rw [List.mem_append, List.mem_singleton, Prod.mk.injEq]
    rw [e2, Bool.or_assoc]
  unfold bel
  by_cases hb : b = u
  · rw [if_pos hb, ← bits_one h, bits_or]
    refine bits_congr fun a _ => ?_
    rw [e, decide_eq_true hb, Bool.and_true]
  · rw [if_neg hb]
    refine bits_congr fun a _ => ?_
    rw [e, decide_eq_false hb, Bool.and_false, Bool.or_false]
theorem bel_zero {n b : Nat} (h : b < n) : bel n [] 0 b = 2 ^ b := by
  unfold bel
  rw [← bits_one h]
  refine bits_congr fun a _ => ?_
  show (decide (a = b) || decide ((a, b) ∈ ([] : List (Nat × Nat)))) = _
  simp
/-! ### lists by places -/
def rgl (n : Nat) (f : Nat → V) : List V := (List.range n).map f
theorem rgl_len (n : Nat) (f : Nat → V) : (rgl n f).length = n := by
  unfold rgl
  rw [List.length_map, List.length_range]
theorem rgl_at {n : Nat} {f : Nat → V} {i : Nat} (h : i < n) : (rgl n f)[i]? = some (f i) := by
  unfold rgl
  rw [List.getElem?_map, List.getElem?_range h]
  rfl
theorem rgl_atI {n : Nat} {f : Nat → V} {i : Nat} (h : i < n) : atI (rgl n f) ((i : Nat) : Int) = some (f i) := at_of (j := i) (by omega) (rgl_at h)
theorem rgl_congr {n : Nat} {f g : Nat → V} (h : ∀ i, i < n → f i = g i) : rgl n f = rgl n g := List.map_congr_left fun i hi => h i (List.mem_range.mp hi)
theorem rgl_succ (n : Nat) (f : Nat → V) : rgl (n + 1) f = rgl n f ++ [f n] := by
  unfold rgl
  rw [List.range_succ, List.map_append]
  rfl
theorem rgl_set {n j : Nat} (f : Nat → V) (v : V) : (rgl n f).set j v = rgl n fun i => if i = j then v else f i := by
  apply List.ext_getElem?
  intro i
  by_cases hi : i < n
  · rw [rgl_at hi, List.getElem?_set]
    by_cases e : j = i
    · subst e
      rw [if_pos rfl, rgl_len, if_pos hi, if_pos rfl]
    · rw [if_neg e, rgl_at hi, if_neg (fun z => e z.symm)]
  · rw [List.getElem?_eq_none (by rw [List.length_set, rgl_len]; omega), List.getElem?_eq_none (by rw [rgl_len]; omega)]
end Clo

/-! walks for comprehensions with two fors, and more with K written out -/
namespace Lc2
open PySem PySem.Spec PyProof.Rows L2 He HkS Bs
theorem walk_l {K : PySem.W.Frag} {a : Addr} {xs : List V} {B : (Hp → Prop) → V → Hp → Prop} {Qd : Hp → Prop} {h0 : Hp} (Pv : Nat → Hp → Prop) (p0 : Pv 0 h0) (hl : ∀ i H, i ≤ xs.length → Pv i H → SqL K H a xs) (hs : ∀ i x H, xs[i]? = some x → Pv i H → B (Pv (i + 1)) x H) (hd : ∀ H, Pv xs.length H → Qd H) :
    ∃ W : Nat → Nat → Hp → Prop, (∃ m, W 0 m h0) ∧ ∀ i m H, W i m H → ((Itl K a).stop i H ∧ Qd H) ∨ ((Itl K a).go i H ∧ ∃ Nx : Hp → Prop, (∀ H', Nx H' → ∃ m', m' < m ∧ W (i + 1) m' H') ∧ ∀ x H', (Itl K a).yld i H x H' → B Nx x H') := by
  refine ⟨fun i m H => m = xs.length - i ∧ i ≤ xs.length ∧ Pv i H, ⟨xs.length, rfl, Nat.zero_le _, p0⟩, ?_⟩
  rintro i m H ⟨rfl, hi, p⟩
  have q := hl i H hi p
  rcases Nat.lt_or_ge i xs.length with h | h
  · exact .inr ⟨⟨xs, xs[i], q, List.getElem?_eq_getElem h⟩, Pv (i + 1), fun H' p' => ⟨xs.length - (i + 1), by omega, rfl, h, p'⟩, fun x H' ⟨e, y⟩ => by
      subst e
      exact hs i x _ (y xs q) p⟩
  · obtain rfl : i = xs.length := by omega
    exact .inl ⟨⟨xs, q, Nat.le_refl _⟩, hd H p⟩
theorem walk_t {K : PySem.W.Frag} {a : Addr} {xs : List V} {B : (Hp → Prop) → V → Hp → Prop} {Qd : Hp → Prop} {h0 : Hp} (Pv : Nat → Hp → Prop) (p0 : Pv 0 h0) (hl : ∀ i H, i ≤ xs.length → Pv i H → SqT K H a xs) (hs : ∀ i x H, xs[i]? = some x → Pv i H → B (Pv (i + 1)) x H) (hd : ∀ H, Pv xs.length H → Qd H) :
    ∃ W : Nat → Nat → Hp → Prop, (∃ m, W 0 m h0) ∧ ∀ i m H, W i m H → ((Itt K a).stop i H ∧ Qd H) ∨ ((Itt K a).go i H ∧ ∃ Nx : Hp → Prop, (∀ H', Nx H' → ∃ m', m' < m ∧ W (i + 1) m' H') ∧ ∀ x H', (Itt K a).yld i H x H' → B Nx x H') := by
  refine ⟨fun i m H => m = xs.length - i ∧ i ≤ xs.length ∧ Pv i H, ⟨xs.length, rfl, Nat.zero_le _, p0⟩, ?_⟩
  rintro i m H ⟨rfl, hi, p⟩
  have q := hl i H hi p
  rcases Nat.lt_or_ge i xs.length with h | h
  · exact .inr ⟨⟨xs, xs[i], q, List.getElem?_eq_getElem h⟩, Pv (i + 1), fun H' p' => ⟨xs.length - (i + 1), by omega, rfl, h, p'⟩, fun x H' ⟨e, y⟩ => by
      subst e
      exact hs i x _ (y xs q) p⟩
  · obtain rfl : i = xs.length := by omega
    exact .inl ⟨⟨xs, q, Nat.le_refl _⟩, hd H p⟩
section
variable {X : Cx} {K : PySem.W.Frag}
theorem tupI {tg l : Expr} {tl : TE} (h : PE X l tl) (hk : X.K = K := by rfl) : PI X tg l (iTup K tl) := by subst hk; exact pi_tup h
theorem tupG {es : List Expr} {k : Nat} {pos : Pos} {t : TGs} {n : Nat} (hc : X.calm = true) (h : PGs X es t) (hn : (assignEach es X.env).length = n := by rfl) (hst : (assignEach es X.env).findIdx? (·.1) = none := by rfl) (hk : X.K = K := by rfl) : PG X (.Tuple es k pos) (gTup K n t) := by subst hk; exact pg_tup hc h hn hst
end
theorem _root_.L2.Same.tup {K : PySem.W.Frag} {H H' : Hp} {a : Addr} {xs : List V} (e : Same H H') (h : SqT K H a xs) : SqT K H' a xs := by
  rcases h with (h | ⟨o, h⟩) | h
  · exact .inl (.inl (e _ _ h))
  · exact .inl (.inr ⟨o, e _ _ h⟩)
  · exact .inr h
theorem walk_s {x : Str} {B : (Hp → Prop) → V → Hp → Prop} {Qd : Hp → Prop} {h0 : Hp} (Pv : Nat → Hp → Prop) (p0 : Pv 0 h0) (hs : ∀ i c H, x.cps[i]? = some c → Pv i H → B (Pv (i + 1)) (.str ⟨#[c]⟩) H) (hd : ∀ H, Pv x.cps.size H → Qd H) :
    ∃ W : Nat → Nat → Hp → Prop, (∃ m, W 0 m h0) ∧ ∀ i m H, W i m H → ((Its x).stop i H ∧ Qd H) ∨ ((Its x).go i H ∧ ∃ Nx : Hp → Prop, (∀ H', Nx H' → ∃ m', m' < m ∧ W (i + 1) m' H') ∧ ∀ v H', (Its x).yld i H v H' → B Nx v H') := by
  refine ⟨fun i m H => m = x.cps.size - i ∧ i ≤ x.cps.size ∧ Pv i H, ⟨x.cps.size, rfl, Nat.zero_le _, p0⟩, ?_⟩
  rintro i m H ⟨rfl, hi, p⟩
  rcases Nat.lt_or_ge i x.cps.size with h | h
  · exact .inr ⟨h, Pv (i + 1), fun H' p' => ⟨x.cps.size - (i + 1), by omega, rfl, h, p'⟩, fun v H' ⟨e, c, hc, ev⟩ => by
      subst e ev
      exact hs i c _ hc p⟩
  · obtain rfl : i = x.cps.size := by omega
    exact .inl ⟨Nat.le_refl _, hd H p⟩
theorem walk_r {lo : Int} {n : Nat} {B : (Hp → Prop) → V → Hp → Prop} {Qd : Hp → Prop} {h0 : Hp} (Pv : Nat → Hp → Prop) (p0 : Pv 0 h0) (hs : ∀ (i : Nat) H, i < n → Pv i H → B (Pv (i + 1)) (.int (lo + i)) H) (hd : ∀ H, Pv n H → Qd H) :
    ∃ W : Nat → Nat → Hp → Prop, (∃ m, W 0 m h0) ∧ ∀ i m H, W i m H → ((Itr lo n).stop i H ∧ Qd H) ∨ ((Itr lo n).go i H ∧ ∃ Nx : Hp → Prop, (∀ H', Nx H' → ∃ m', m' < m ∧ W (i + 1) m' H') ∧ ∀ v H', (Itr lo n).yld i H v H' → B Nx v H') := by
  refine ⟨fun i m H => m = n - i ∧ i ≤ n ∧ Pv i H, ⟨n, rfl, Nat.zero_le _, p0⟩, ?_⟩
  rintro i m H ⟨rfl, hi, p⟩
  rcases Nat.lt_or_ge i n with h | h
  · exact .inr ⟨h, Pv (i + 1), fun H' p' => ⟨n - (i + 1), by omega, rfl, h, p'⟩, fun v H' ⟨e, ev⟩ => by
      subst e ev
      exact hs i _ h p⟩
  · obtain rfl : i = n := by omega
    exact .inl ⟨Nat.le_refl _, hd H p⟩
theorem sn {H : Hp} {p : Addr} {o : HO} (h : H p = none) : Same H (upd H p o) := fun b u e => by
  rw [upd_ne (ne_of_none e h)]
  exact e
theorem sput {H H' : Hp} {p : Addr} {o : HO} (s : Same H H') (h : H p = none) : Same H (upd H' p o) := fun b u e => by
  rw [upd_ne (ne_of_none e h)]
  exact s b u e
end Lc2

set_option maxHeartbeats 4000000
namespace Lk02
open PySem PySem.Spec PyProof.Rows L2 He HkS Bs
abbrev PG : Program := PySem.Challenge.pw_latticewish_k02_bad_orders
def top (i : Nat) : Stmt := PySem.Challenge.pw_latticewish_k02_bad_orders.main.body.getD i (.Pass ⟨0, 0, 0, 0⟩)
abbrev s__wall : Stmt := top 0
abbrev s_BadLattice___init__ : Stmt := inClass (top 3) 0
abbrev s_MixedLattices___init__ : Stmt := inClass (top 4) 0
abbrev s_is_told_rightly : Stmt := top 8
abbrev s_check_order : Stmt := top 9
abbrev s_masks_below : Stmt := top 10
abbrev s_masks_above : Stmt := top 11
abbrev s_has_place : Stmt := top 12
abbrev s_order_label : Stmt := top 13
abbrev s_Lattice___init__ : Stmt := inClass (top 16) 0
abbrev s_Lattice_within_at : Stmt := inClass (top 16) 1
abbrev s_Lattice_join_at : Stmt := inClass (top 16) 2
abbrev s_Lattice_meet_at : Stmt := inClass (top 16) 3
abbrev s_Lattice_name_at : Stmt := inClass (top 16) 4
abbrev s_Lattice_at_name : Stmt := inClass (top 16) 5
abbrev s_Lattice_irreducibles : Stmt := inClass (top 16) 6
abbrev s_OrderLattice___init__ : Stmt := inClass (top 17) 0
abbrev s_OrderLattice_within_at : Stmt := inClass (top 17) 1
abbrev s_OrderLattice_join_at : Stmt := inClass (top 17) 2
abbrev s_OrderLattice_meet_at : Stmt := inClass (top 17) 3
abbrev s_OrderLattice_name_at : Stmt := inClass (top 17) 4
abbrev s_OrderLattice_at_name : Stmt := inClass (top 17) 5
abbrev s_OrderLattice_irreducibles : Stmt := inClass (top 17) 6
abbrev s_OrderLattice__is_joined : Stmt := inClass (top 17) 7
abbrev s__first_place : Stmt := top 18
abbrev s_DownLattice___init__ : Stmt := inClass (top 21) 0
abbrev s_DownLattice_within_at : Stmt := inClass (top 21) 1
abbrev s_DownLattice_join_at : Stmt := inClass (top 21) 2
abbrev s_DownLattice_meet_at : Stmt := inClass (top 21) 3
abbrev s_DownLattice_name_at : Stmt := inClass (top 21) 4
abbrev s_DownLattice_at_name : Stmt := inClass (top 21) 5
abbrev s_DownLattice_irreducibles : Stmt := inClass (top 21) 6
abbrev s__is_down : Stmt := top 22
abbrev s__set_name : Stmt := top 23
abbrev s__law_cells : Stmt := top 25
abbrev s__law_pick : Stmt := top 26
abbrev s__law_words : Stmt := top 27
abbrev s__law_closed : Stmt := top 28
abbrev s__law_odd : Stmt := top 29
abbrev s__law_right_name : Stmt := top 30
abbrev s__law_size : Stmt := top 31
abbrev s_law : Stmt := top 32
def d__wall : DefD := ⟨("_wall", none), "_wall", "_wall", defArgs s__wall, defBody s__wall, defScope s__wall, [], []⟩
def d_is_told_rightly : DefD := ⟨("is_told_rightly", none), "is_told_rightly", "is_told_rightly", defArgs s_is_told_rightly, defBody s_is_told_rightly, defScope s_is_told_rightly, [], []⟩
def d_check_order : DefD := ⟨("check_order", none), "check_order", "check_order", defArgs s_check_order, defBody s_check_order, defScope s_check_order, [], []⟩
def d_masks_below : DefD := ⟨("masks_below", none), "masks_below", "masks_below", defArgs s_masks_below, defBody s_masks_below, defScope s_masks_below, [], []⟩
def d_masks_above : DefD := ⟨("masks_above", none), "masks_above", "masks_above", defArgs s_masks_above, defBody s_masks_above, defScope s_masks_above, [], []⟩
def d_has_place : DefD := ⟨("has_place", none), "has_place", "has_place", defArgs s_has_place, defBody s_has_place, defScope s_has_place, [], []⟩
def d_order_label : DefD := ⟨("order_label", none), "order_label", "order_label", defArgs s_order_label, defBody s_order_label, defScope s_order_label, [], []⟩
def d_Lattice___init__ : DefD := ⟨("Lattice", some "__init__"), "__init__", "Lattice.__init__", defArgs s_Lattice___init__, defBody s_Lattice___init__, defScope s_Lattice___init__, [], []⟩
def d_Lattice_within_at : DefD := ⟨("Lattice", some "within_at"), "within_at", "Lattice.within_at", defArgs s_Lattice_within_at, defBody s_Lattice_within_at, defScope s_Lattice_within_at, [], []⟩
def d_Lattice_join_at : DefD := ⟨("Lattice", some "join_at"), "join_at", "Lattice.join_at", defArgs s_Lattice_join_at, defBody s_Lattice_join_at, defScope s_Lattice_join_at, [], []⟩
def d_Lattice_meet_at : DefD := ⟨("Lattice", some "meet_at"), "meet_at", "Lattice.meet_at", defArgs s_Lattice_meet_at, defBody s_Lattice_meet_at, defScope s_Lattice_meet_at, [], []⟩
def d_Lattice_name_at : DefD := ⟨("Lattice", some "name_at"), "name_at", "Lattice.name_at", defArgs s_Lattice_name_at, defBody s_Lattice_name_at, defScope s_Lattice_name_at, [], []⟩
def d_Lattice_at_name : DefD := ⟨("Lattice", some "at_name"), "at_name", "Lattice.at_name", defArgs s_Lattice_at_name, defBody s_Lattice_at_name, defScope s_Lattice_at_name, [], []⟩
def d_Lattice_irreducibles : DefD := ⟨("Lattice", some "irreducibles"), "irreducibles", "Lattice.irreducibles", defArgs s_Lattice_irreducibles, defBody s_Lattice_irreducibles, defScope s_Lattice_irreducibles, [], []⟩
def d_OrderLattice___init__ : DefD := ⟨("OrderLattice", some "__init__"), "__init__", "OrderLattice.__init__", defArgs s_OrderLattice___init__, defBody s_OrderLattice___init__, defScope s_OrderLattice___init__, [], []⟩
def d_OrderLattice_within_at : DefD := ⟨("OrderLattice", some "within_at"), "within_at", "OrderLattice.within_at", defArgs s_OrderLattice_within_at, defBody s_OrderLattice_within_at, defScope s_OrderLattice_within_at, [], []⟩
def d_OrderLattice_join_at : DefD := ⟨("OrderLattice", some "join_at"), "join_at", "OrderLattice.join_at", defArgs s_OrderLattice_join_at, defBody s_OrderLattice_join_at, defScope s_OrderLattice_join_at, [], []⟩
def d_OrderLattice_meet_at : DefD := ⟨("OrderLattice", some "meet_at"), "meet_at", "OrderLattice.meet_at", defArgs s_OrderLattice_meet_at, defBody s_OrderLattice_meet_at, defScope s_OrderLattice_meet_at, [], []⟩
def d_OrderLattice_name_at : DefD := ⟨("OrderLattice", some "name_at"), "name_at", "OrderLattice.name_at", defArgs s_OrderLattice_name_at, defBody s_OrderLattice_name_at, defScope s_OrderLattice_name_at, [], []⟩
def d_OrderLattice_at_name : DefD := ⟨("OrderLattice", some "at_name"), "at_name", "OrderLattice.at_name", defArgs s_OrderLattice_at_name, defBody s_OrderLattice_at_name, defScope s_OrderLattice_at_name, [], []⟩
def d_OrderLattice_irreducibles : DefD := ⟨("OrderLattice", some "irreducibles"), "irreducibles", "OrderLattice.irreducibles", defArgs s_OrderLattice_irreducibles, defBody s_OrderLattice_irreducibles, defScope s_OrderLattice_irreducibles, [], []⟩
def d_OrderLattice__is_joined : DefD := ⟨("OrderLattice", some "_is_joined"), "_is_joined", "OrderLattice._is_joined", defArgs s_OrderLattice__is_joined, defBody s_OrderLattice__is_joined, defScope s_OrderLattice__is_joined, [], []⟩
def d__first_place : DefD := ⟨("_first_place", none), "_first_place", "_first_place", defArgs s__first_place, defBody s__first_place, defScope s__first_place, [], []⟩
def d_DownLattice___init__ : DefD := ⟨("DownLattice", some "__init__"), "__init__", "DownLattice.__init__", defArgs s_DownLattice___init__, defBody s_DownLattice___init__, defScope s_DownLattice___init__, [], []⟩
def d_DownLattice_within_at : DefD := ⟨("DownLattice", some "within_at"), "within_at", "DownLattice.within_at", defArgs s_DownLattice_within_at, defBody s_DownLattice_within_at, defScope s_DownLattice_within_at, [], []⟩
def d_DownLattice_join_at : DefD := ⟨("DownLattice", some "join_at"), "join_at", "DownLattice.join_at", defArgs s_DownLattice_join_at, defBody s_DownLattice_join_at, defScope s_DownLattice_join_at, [], []⟩
def d_DownLattice_meet_at : DefD := ⟨("DownLattice", some "meet_at"), "meet_at", "DownLattice.meet_at", defArgs s_DownLattice_meet_at, defBody s_DownLattice_meet_at, defScope s_DownLattice_meet_at, [], []⟩
def d_DownLattice_name_at : DefD := ⟨("DownLattice", some "name_at"), "name_at", "DownLattice.name_at", defArgs s_DownLattice_name_at, defBody s_DownLattice_name_at, defScope s_DownLattice_name_at, [], []⟩
def d_DownLattice_at_name : DefD := ⟨("DownLattice", some "at_name"), "at_name", "DownLattice.at_name", defArgs s_DownLattice_at_name, defBody s_DownLattice_at_name, defScope s_DownLattice_at_name, [], []⟩
def d_DownLattice_irreducibles : DefD := ⟨("DownLattice", some "irreducibles"), "irreducibles", "DownLattice.irreducibles", defArgs s_DownLattice_irreducibles, defBody s_DownLattice_irreducibles, defScope s_DownLattice_irreducibles, [], []⟩
def d__is_down : DefD := ⟨("_is_down", none), "_is_down", "_is_down", defArgs s__is_down, defBody s__is_down, defScope s__is_down, [], []⟩
def d__set_name : DefD := ⟨("_set_name", none), "_set_name", "_set_name", defArgs s__set_name, defBody s__set_name, defScope s__set_name, [], []⟩
def d__law_cells : DefD := ⟨("_law_cells", none), "_law_cells", "_law_cells", defArgs s__law_cells, defBody s__law_cells, defScope s__law_cells, [], []⟩
def d__law_pick : DefD := ⟨("_law_pick", none), "_law_pick", "_law_pick", defArgs s__law_pick, defBody s__law_pick, defScope s__law_pick, [], []⟩
def d__law_words : DefD := ⟨("_law_words", none), "_law_words", "_law_words", defArgs s__law_words, defBody s__law_words, defScope s__law_words, [], []⟩
def d__law_closed : DefD := ⟨("_law_closed", none), "_law_closed", "_law_closed", defArgs s__law_closed, defBody s__law_closed, defScope s__law_closed, [], []⟩
def d__law_odd : DefD := ⟨("_law_odd", none), "_law_odd", "_law_odd", defArgs s__law_odd, defBody s__law_odd, defScope s__law_odd, [], []⟩
def d__law_right_name : DefD := ⟨("_law_right_name", none), "_law_right_name", "_law_right_name", defArgs s__law_right_name, defBody s__law_right_name, defScope s__law_right_name, [], []⟩
def d__law_size : DefD := ⟨("_law_size", none), "_law_size", "_law_size", defArgs s__law_size, defBody s__law_size, defScope s__law_size, [], []⟩
def d_law : DefD := ⟨("law", none), "law", "law", defArgs s_law, defBody s_law, defScope s_law, [], []⟩
def fnl : List DefD := [d__wall, d_is_told_rightly, d_check_order, d_masks_below, d_masks_above, d_has_place, d_order_label, d_Lattice___init__, d_Lattice_within_at, d_Lattice_join_at, d_Lattice_meet_at, d_Lattice_name_at, d_Lattice_at_name, d_Lattice_irreducibles, d_OrderLattice___init__, d_OrderLattice_within_at, d_OrderLattice_join_at, d_OrderLattice_meet_at, d_OrderLattice_name_at, d_OrderLattice_at_name, d_OrderLattice_irreducibles, d_OrderLattice__is_joined, d__first_place, d_DownLattice___init__, d_DownLattice_within_at, d_DownLattice_join_at, d_DownLattice_meet_at, d_DownLattice_name_at, d_DownLattice_at_name, d_DownLattice_irreducibles, d__is_down, d__set_name, d__law_cells, d__law_pick, d__law_words, d__law_closed, d__law_odd, d__law_right_name, d__law_size, d_law]
def x_BadLattice : ExD := ⟨"BadLattice", "ValueError", [.type "ValueError", .type "Exception", .type "BaseException", .type "object"], s_BadLattice___init__, "BadLattice.__init__"⟩
def x_MixedLattices : ExD := ⟨"MixedLattices", "ValueError", [.type "ValueError", .type "Exception", .type "BaseException", .type "object"], s_MixedLattices___init__, "MixedLattices.__init__"⟩
def exl : List ExD := [x_BadLattice, x_MixedLattices]
def fal : List Fa := [.glo "_wall",
  .glo "is_told_rightly",
  .glo "check_order",
  .glo "masks_below",
  .glo "masks_above",
  .glo "has_place",
  .glo "order_label",
  .glo "_first_place",
  .glo "_is_down",
  .glo "_set_name",
  .glo "_law_cells",
  .glo "_law_pick",
  .glo "_law_words",
  .glo "_law_closed",
  .glo "_law_odd",
  .glo "_law_right_name",
  .glo "_law_size",
  .glo "law",
  .glo "LatticeError",
  .glo "BadLattice",
  .glo "MixedLattices",
  .glo "Lattice",
  .glo "OrderLattice",
  .glo "DownLattice",
  .free "ValueError",
  .free "abs",
  .free "all",
  .free "int",
  .free "isinstance",
  .free "len",
  .free "list",
  .free "max",
  .free "min",
  .free "range",
  .free "set",
  .free "sum",
  .free "super",
  .str "_SIGNS" "abcdefghijklmnopqrstuvwxyz0123456789",
  .int "_LONGEST" 12,
  .int "_MOST_NAMES" 16,
  .int "_MOST_MARKS" 6,
  .cls "Lattice",
  .mkr "Lattice",
  .noat "Lattice" "label",
  .noat "Lattice" "size",
  .noat "Lattice" "bottom_at",
  .noat "Lattice" "top_at",
  .meth "Lattice" "within_at",
  .meth "Lattice" "join_at",
  .meth "Lattice" "meet_at",
  .meth "Lattice" "name_at",
  .meth "Lattice" "at_name",
  .meth "Lattice" "irreducibles",
  .cls "OrderLattice",
  .mkr "OrderLattice",
  .noat "OrderLattice" "_names",
  .noat "OrderLattice" "_below",
  .noat "OrderLattice" "_above",
  .noat "OrderLattice" "label",
  .noat "OrderLattice" "size",
  .noat "OrderLattice" "bottom_at",
  .noat "OrderLattice" "top_at",
  .meth "OrderLattice" "within_at",
  .meth "OrderLattice" "join_at",
  .meth "OrderLattice" "meet_at",
  .meth "OrderLattice" "name_at",
  .meth "OrderLattice" "at_name",
  .meth "OrderLattice" "irreducibles",
  .meth "OrderLattice" "_is_joined",
  .cls "DownLattice",
  .mkr "DownLattice",
  .noat "DownLattice" "_below",
  .noat "DownLattice" "_masks",
  .noat "DownLattice" "_names",
  .noat "DownLattice" "label",
  .noat "DownLattice" "size",
  .noat "DownLattice" "bottom_at",
  .noat "DownLattice" "top_at",
  .meth "DownLattice" "within_at",
  .meth "DownLattice" "join_at",
  .meth "DownLattice" "meet_at",
  .meth "DownLattice" "name_at",
  .meth "DownLattice" "at_name",
  .meth "DownLattice" "irreducibles",
  .exm "BadLattice" "BadLattice" true,
  .exm "MixedLattices" "BadLattice" false]
def extra (K : PySem.W.Frag) : Bool := ExV.exCB K (ga K "BadLattice") && (decide (PySem.W.kitOne K (.ref (ga K "BadLattice")) (.ref (ga K "LatticeError")) = some true) && (decide (PySem.W.kitOne K (.ref (ga K "BadLattice")) (.type "ValueError") = some true) && decide (PySem.W.kitOne K (.ref (ga K "BadLattice")) (.ref (ga K "MixedLattices")) = some false)))

def more (K : PySem.W.Frag) : Bool := true && clsB K (ga K "Lattice") "__init__" && extra K
theorem top_super : (PG.main.scope.names.lookup ("super" : Str)).isSome = false := by decide +kernel
structure Ctx (K : PySem.W.Frag) (mg : Str → Option Value) : Prop where
  s : SaysM PG fal fnl exl more K
  g : ∀ x, (Fa.glo x).ok K = true → mg x = some (.ref (ga K x))
  f : ∀ x, (Fa.free x).ok K = true → mg x = none
  i : ∀ x j, (Fa.int x j).ok K = true → ∃ t, mg x = some (.int j t)
  t : ∀ x j, (Fa.str x j).ok K = true → ∃ t, mg x = some (.str j t)
theorem ctx_of {K : PySem.W.Frag} {h : Heap} {mg : Str → Option Value} (X : K.In h) (G : h.Ns mainGlobals mg) (c : SaysM PG fal fnl exl more K) : Ctx K mg :=
  ⟨c, fun _ q => glo_ok X G q, fun _ q => free_ok X G q, fun _ _ q => int_ok X G q, fun _ _ q => str_ok X G q⟩
section
variable {K : PySem.W.Frag} {mg : Str → Option Value}
theorem g__wall (Z : Ctx K mg) : mg "_wall" = some (.ref (ga K "_wall")) := Z.g _ (Z.s.fact 0)
theorem g_is_told_rightly (Z : Ctx K mg) : mg "is_told_rightly" = some (.ref (ga K "is_told_rightly")) := Z.g _ (Z.s.fact 1)
theorem g_check_order (Z : Ctx K mg) : mg "check_order" = some (.ref (ga K "check_order")) := Z.g _ (Z.s.fact 2)
theorem g_masks_below (Z : Ctx K mg) : mg "masks_below" = some (.ref (ga K "masks_below")) := Z.g _ (Z.s.fact 3)
theorem g_masks_above (Z : Ctx K mg) : mg "masks_above" = some (.ref (ga K "masks_above")) := Z.g _ (Z.s.fact 4)
theorem g_has_place (Z : Ctx K mg) : mg "has_place" = some (.ref (ga K "has_place")) := Z.g _ (Z.s.fact 5)
theorem g_order_label (Z : Ctx K mg) : mg "order_label" = some (.ref (ga K "order_label")) := Z.g _ (Z.s.fact 6)
theorem g__first_place (Z : Ctx K mg) : mg "_first_place" = some (.ref (ga K "_first_place")) := Z.g _ (Z.s.fact 7)
theorem g__is_down (Z : Ctx K mg) : mg "_is_down" = some (.ref (ga K "_is_down")) := Z.g _ (Z.s.fact 8)
theorem g__set_name (Z : Ctx K mg) : mg "_set_name" = some (.ref (ga K "_set_name")) := Z.g _ (Z.s.fact 9)
theorem g__law_cells (Z : Ctx K mg) : mg "_law_cells" = some (.ref (ga K "_law_cells")) := Z.g _ (Z.s.fact 10)
theorem g__law_pick (Z : Ctx K mg) : mg "_law_pick" = some (.ref (ga K "_law_pick")) := Z.g _ (Z.s.fact 11)
theorem g__law_words (Z : Ctx K mg) : mg "_law_words" = some (.ref (ga K "_law_words")) := Z.g _ (Z.s.fact 12)
theorem g__law_closed (Z : Ctx K mg) : mg "_law_closed" = some (.ref (ga K "_law_closed")) := Z.g _ (Z.s.fact 13)
theorem g__law_odd (Z : Ctx K mg) : mg "_law_odd" = some (.ref (ga K "_law_odd")) := Z.g _ (Z.s.fact 14)
theorem g__law_right_name (Z : Ctx K mg) : mg "_law_right_name" = some (.ref (ga K "_law_right_name")) := Z.g _ (Z.s.fact 15)
theorem g__law_size (Z : Ctx K mg) : mg "_law_size" = some (.ref (ga K "_law_size")) := Z.g _ (Z.s.fact 16)
theorem g_law (Z : Ctx K mg) : mg "law" = some (.ref (ga K "law")) := Z.g _ (Z.s.fact 17)
theorem g_LatticeError (Z : Ctx K mg) : mg "LatticeError" = some (.ref (ga K "LatticeError")) := Z.g _ (Z.s.fact 18)
theorem g_BadLattice (Z : Ctx K mg) : mg "BadLattice" = some (.ref (ga K "BadLattice")) := Z.g _ (Z.s.fact 19)
theorem g_MixedLattices (Z : Ctx K mg) : mg "MixedLattices" = some (.ref (ga K "MixedLattices")) := Z.g _ (Z.s.fact 20)
theorem g_Lattice (Z : Ctx K mg) : mg "Lattice" = some (.ref (ga K "Lattice")) := Z.g _ (Z.s.fact 21)
theorem g_OrderLattice (Z : Ctx K mg) : mg "OrderLattice" = some (.ref (ga K "OrderLattice")) := Z.g _ (Z.s.fact 22)
theorem g_DownLattice (Z : Ctx K mg) : mg "DownLattice" = some (.ref (ga K "DownLattice")) := Z.g _ (Z.s.fact 23)
theorem f_ValueError (Z : Ctx K mg) : mg "ValueError" = none := Z.f _ (Z.s.fact 24)
theorem f_abs (Z : Ctx K mg) : mg "abs" = none := Z.f _ (Z.s.fact 25)
theorem f_all (Z : Ctx K mg) : mg "all" = none := Z.f _ (Z.s.fact 26)
theorem f_int (Z : Ctx K mg) : mg "int" = none := Z.f _ (Z.s.fact 27)
theorem f_isinstance (Z : Ctx K mg) : mg "isinstance" = none := Z.f _ (Z.s.fact 28)
theorem f_len (Z : Ctx K mg) : mg "len" = none := Z.f _ (Z.s.fact 29)
theorem f_list (Z : Ctx K mg) : mg "list" = none := Z.f _ (Z.s.fact 30)
theorem f_max (Z : Ctx K mg) : mg "max" = none := Z.f _ (Z.s.fact 31)
theorem f_min (Z : Ctx K mg) : mg "min" = none := Z.f _ (Z.s.fact 32)
theorem f_range (Z : Ctx K mg) : mg "range" = none := Z.f _ (Z.s.fact 33)
theorem f_set (Z : Ctx K mg) : mg "set" = none := Z.f _ (Z.s.fact 34)
theorem f_sum (Z : Ctx K mg) : mg "sum" = none := Z.f _ (Z.s.fact 35)
theorem f_super (Z : Ctx K mg) : mg "super" = none := Z.f _ (Z.s.fact 36)
theorem t__SIGNS (Z : Ctx K mg) : ∃ t, mg "_SIGNS" = some (.str "abcdefghijklmnopqrstuvwxyz0123456789" t) := Z.t _ _ (Z.s.fact 37)
theorem i__LONGEST (Z : Ctx K mg) : ∃ t, mg "_LONGEST" = some (.int 12 t) := Z.i _ _ (Z.s.fact 38)
theorem i__MOST_NAMES (Z : Ctx K mg) : ∃ t, mg "_MOST_NAMES" = some (.int 16 t) := Z.i _ _ (Z.s.fact 39)
theorem i__MOST_MARKS (Z : Ctx K mg) : ∃ t, mg "_MOST_MARKS" = some (.int 6 t) := Z.i _ _ (Z.s.fact 40)
theorem c_Lattice (Z : Ctx K mg) : Cls K (ga K "Lattice") := cls_ok (Z.s.fact 41)
theorem k_Lattice (Z : Ctx K mg) : Mk K (ga K "Lattice") (ma K (ga K "Lattice") "__init__") := mkr_ok (Z.s.fact 42)
theorem n_Lattice_label (Z : Ctx K mg) : NoAttr K (ga K "Lattice") "label" := noat_ok (Z.s.fact 43)
theorem n_Lattice_size (Z : Ctx K mg) : NoAttr K (ga K "Lattice") "size" := noat_ok (Z.s.fact 44)
theorem n_Lattice_bottom_at (Z : Ctx K mg) : NoAttr K (ga K "Lattice") "bottom_at" := noat_ok (Z.s.fact 45)
theorem n_Lattice_top_at (Z : Ctx K mg) : NoAttr K (ga K "Lattice") "top_at" := noat_ok (Z.s.fact 46)
theorem m_Lattice_within_at (Z : Ctx K mg) : Meth K (ga K "Lattice") "within_at" (ma K (ga K "Lattice") "within_at") := meth_ok (Z.s.fact 47)
theorem m_Lattice_join_at (Z : Ctx K mg) : Meth K (ga K "Lattice") "join_at" (ma K (ga K "Lattice") "join_at") := meth_ok (Z.s.fact 48)
theorem m_Lattice_meet_at (Z : Ctx K mg) : Meth K (ga K "Lattice") "meet_at" (ma K (ga K "Lattice") "meet_at") := meth_ok (Z.s.fact 49)
theorem m_Lattice_name_at (Z : Ctx K mg) : Meth K (ga K "Lattice") "name_at" (ma K (ga K "Lattice") "name_at") := meth_ok (Z.s.fact 50)
theorem m_Lattice_at_name (Z : Ctx K mg) : Meth K (ga K "Lattice") "at_name" (ma K (ga K "Lattice") "at_name") := meth_ok (Z.s.fact 51)
theorem m_Lattice_irreducibles (Z : Ctx K mg) : Meth K (ga K "Lattice") "irreducibles" (ma K (ga K "Lattice") "irreducibles") := meth_ok (Z.s.fact 52)
theorem c_OrderLattice (Z : Ctx K mg) : Cls K (ga K "OrderLattice") := cls_ok (Z.s.fact 53)
theorem k_OrderLattice (Z : Ctx K mg) : Mk K (ga K "OrderLattice") (ma K (ga K "OrderLattice") "__init__") := mkr_ok (Z.s.fact 54)
theorem n_OrderLattice__names (Z : Ctx K mg) : NoAttr K (ga K "OrderLattice") "_names" := noat_ok (Z.s.fact 55)
theorem n_OrderLattice__below (Z : Ctx K mg) : NoAttr K (ga K "OrderLattice") "_below" := noat_ok (Z.s.fact 56)
theorem n_OrderLattice__above (Z : Ctx K mg) : NoAttr K (ga K "OrderLattice") "_above" := noat_ok (Z.s.fact 57)
theorem n_OrderLattice_label (Z : Ctx K mg) : NoAttr K (ga K "OrderLattice") "label" := noat_ok (Z.s.fact 58)
theorem n_OrderLattice_size (Z : Ctx K mg) : NoAttr K (ga K "OrderLattice") "size" := noat_ok (Z.s.fact 59)
theorem n_OrderLattice_bottom_at (Z : Ctx K mg) : NoAttr K (ga K "OrderLattice") "bottom_at" := noat_ok (Z.s.fact 60)
theorem n_OrderLattice_top_at (Z : Ctx K mg) : NoAttr K (ga K "OrderLattice") "top_at" := noat_ok (Z.s.fact 61)
theorem m_OrderLattice_within_at (Z : Ctx K mg) : Meth K (ga K "OrderLattice") "within_at" (ma K (ga K "OrderLattice") "within_at") := meth_ok (Z.s.fact 62)
theorem m_OrderLattice_join_at (Z : Ctx K mg) : Meth K (ga K "OrderLattice") "join_at" (ma K (ga K "OrderLattice") "join_at") := meth_ok (Z.s.fact 63)
theorem m_OrderLattice_meet_at (Z : Ctx K mg) : Meth K (ga K "OrderLattice") "meet_at" (ma K (ga K "OrderLattice") "meet_at") := meth_ok (Z.s.fact 64)
theorem m_OrderLattice_name_at (Z : Ctx K mg) : Meth K (ga K "OrderLattice") "name_at" (ma K (ga K "OrderLattice") "name_at") := meth_ok (Z.s.fact 65)
theorem m_OrderLattice_at_name (Z : Ctx K mg) : Meth K (ga K "OrderLattice") "at_name" (ma K (ga K "OrderLattice") "at_name") := meth_ok (Z.s.fact 66)
theorem m_OrderLattice_irreducibles (Z : Ctx K mg) : Meth K (ga K "OrderLattice") "irreducibles" (ma K (ga K "OrderLattice") "irreducibles") := meth_ok (Z.s.fact 67)
theorem m_OrderLattice__is_joined (Z : Ctx K mg) : Meth K (ga K "OrderLattice") "_is_joined" (ma K (ga K "OrderLattice") "_is_joined") := meth_ok (Z.s.fact 68)
theorem c_DownLattice (Z : Ctx K mg) : Cls K (ga K "DownLattice") := cls_ok (Z.s.fact 69)
theorem k_DownLattice (Z : Ctx K mg) : Mk K (ga K "DownLattice") (ma K (ga K "DownLattice") "__init__") := mkr_ok (Z.s.fact 70)
theorem n_DownLattice__below (Z : Ctx K mg) : NoAttr K (ga K "DownLattice") "_below" := noat_ok (Z.s.fact 71)
theorem n_DownLattice__masks (Z : Ctx K mg) : NoAttr K (ga K "DownLattice") "_masks" := noat_ok (Z.s.fact 72)
theorem n_DownLattice__names (Z : Ctx K mg) : NoAttr K (ga K "DownLattice") "_names" := noat_ok (Z.s.fact 73)
theorem n_DownLattice_label (Z : Ctx K mg) : NoAttr K (ga K "DownLattice") "label" := noat_ok (Z.s.fact 74)
theorem n_DownLattice_size (Z : Ctx K mg) : NoAttr K (ga K "DownLattice") "size" := noat_ok (Z.s.fact 75)
theorem n_DownLattice_bottom_at (Z : Ctx K mg) : NoAttr K (ga K "DownLattice") "bottom_at" := noat_ok (Z.s.fact 76)
theorem n_DownLattice_top_at (Z : Ctx K mg) : NoAttr K (ga K "DownLattice") "top_at" := noat_ok (Z.s.fact 77)
theorem m_DownLattice_within_at (Z : Ctx K mg) : Meth K (ga K "DownLattice") "within_at" (ma K (ga K "DownLattice") "within_at") := meth_ok (Z.s.fact 78)
theorem m_DownLattice_join_at (Z : Ctx K mg) : Meth K (ga K "DownLattice") "join_at" (ma K (ga K "DownLattice") "join_at") := meth_ok (Z.s.fact 79)
theorem m_DownLattice_meet_at (Z : Ctx K mg) : Meth K (ga K "DownLattice") "meet_at" (ma K (ga K "DownLattice") "meet_at") := meth_ok (Z.s.fact 80)
theorem m_DownLattice_name_at (Z : Ctx K mg) : Meth K (ga K "DownLattice") "name_at" (ma K (ga K "DownLattice") "name_at") := meth_ok (Z.s.fact 81)
theorem m_DownLattice_at_name (Z : Ctx K mg) : Meth K (ga K "DownLattice") "at_name" (ma K (ga K "DownLattice") "at_name") := meth_ok (Z.s.fact 82)
theorem m_DownLattice_irreducibles (Z : Ctx K mg) : Meth K (ga K "DownLattice") "irreducibles" (ma K (ga K "DownLattice") "irreducibles") := meth_ok (Z.s.fact 83)
theorem e_BadLattice_BadLattice (Z : Ctx K mg) : PySem.W.exmOne K (.ref (ga K "BadLattice")) (.ref (ga K "BadLattice")) = some true := exm_ok (Z.s.fact 84)
theorem e_MixedLattices_BadLattice (Z : Ctx K mg) : PySem.W.exmOne K (.ref (ga K "MixedLattices")) (.ref (ga K "BadLattice")) = some false := exm_ok (Z.s.fact 85)
theorem fd__wall (Z : Ctx K mg) : ∃ fd, FunD K "_wall" "_wall" (defArgs s__wall) (defBody s__wall) (defScope s__wall) [] [] (ga K "_wall") fd := Z.s.def_ 0 (d := d__wall)
theorem fd_is_told_rightly (Z : Ctx K mg) : ∃ fd, FunD K "is_told_rightly" "is_told_rightly" (defArgs s_is_told_rightly) (defBody s_is_told_rightly) (defScope s_is_told_rightly) [] [] (ga K "is_told_rightly") fd := Z.s.def_ 1 (d := d_is_told_rightly)
theorem fd_check_order (Z : Ctx K mg) : ∃ fd, FunD K "check_order" "check_order" (defArgs s_check_order) (defBody s_check_order) (defScope s_check_order) [] [] (ga K "check_order") fd := Z.s.def_ 2 (d := d_check_order)
theorem fd_masks_below (Z : Ctx K mg) : ∃ fd, FunD K "masks_below" "masks_below" (defArgs s_masks_below) (defBody s_masks_below) (defScope s_masks_below) [] [] (ga K "masks_below") fd := Z.s.def_ 3 (d := d_masks_below)
theorem fd_masks_above (Z : Ctx K mg) : ∃ fd, FunD K "masks_above" "masks_above" (defArgs s_masks_above) (defBody s_masks_above) (defScope s_masks_above) [] [] (ga K "masks_above") fd := Z.s.def_ 4 (d := d_masks_above)
theorem fd_has_place (Z : Ctx K mg) : ∃ fd, FunD K "has_place" "has_place" (defArgs s_has_place) (defBody s_has_place) (defScope s_has_place) [] [] (ga K "has_place") fd := Z.s.def_ 5 (d := d_has_place)
theorem fd_order_label (Z : Ctx K mg) : ∃ fd, FunD K "order_label" "order_label" (defArgs s_order_label) (defBody s_order_label) (defScope s_order_label) [] [] (ga K "order_label") fd := Z.s.def_ 6 (d := d_order_label)
theorem fd_Lattice___init__ (Z : Ctx K mg) : ∃ fd, FunD K "__init__" "Lattice.__init__" (defArgs s_Lattice___init__) (defBody s_Lattice___init__) (defScope s_Lattice___init__) [] [] (ma K (ga K "Lattice") "__init__") fd := Z.s.def_ 7 (d := d_Lattice___init__)
theorem fd_Lattice_within_at (Z : Ctx K mg) : ∃ fd, FunD K "within_at" "Lattice.within_at" (defArgs s_Lattice_within_at) (defBody s_Lattice_within_at) (defScope s_Lattice_within_at) [] [] (ma K (ga K "Lattice") "within_at") fd := Z.s.def_ 8 (d := d_Lattice_within_at)
theorem fd_Lattice_join_at (Z : Ctx K mg) : ∃ fd, FunD K "join_at" "Lattice.join_at" (defArgs s_Lattice_join_at) (defBody s_Lattice_join_at) (defScope s_Lattice_join_at) [] [] (ma K (ga K "Lattice") "join_at") fd := Z.s.def_ 9 (d := d_Lattice_join_at)
theorem fd_Lattice_meet_at (Z : Ctx K mg) : ∃ fd, FunD K "meet_at" "Lattice.meet_at" (defArgs s_Lattice_meet_at) (defBody s_Lattice_meet_at) (defScope s_Lattice_meet_at) [] [] (ma K (ga K "Lattice") "meet_at") fd := Z.s.def_ 10 (d := d_Lattice_meet_at)
theorem fd_Lattice_name_at (Z : Ctx K mg) : ∃ fd, FunD K "name_at" "Lattice.name_at" (defArgs s_Lattice_name_at) (defBody s_Lattice_name_at) (defScope s_Lattice_name_at) [] [] (ma K (ga K "Lattice") "name_at") fd := Z.s.def_ 11 (d := d_Lattice_name_at)
theorem fd_Lattice_at_name (Z : Ctx K mg) : ∃ fd, FunD K "at_name" "Lattice.at_name" (defArgs s_Lattice_at_name) (defBody s_Lattice_at_name) (defScope s_Lattice_at_name) [] [] (ma K (ga K "Lattice") "at_name") fd := Z.s.def_ 12 (d := d_Lattice_at_name)
theorem fd_Lattice_irreducibles (Z : Ctx K mg) : ∃ fd, FunD K "irreducibles" "Lattice.irreducibles" (defArgs s_Lattice_irreducibles) (defBody s_Lattice_irreducibles) (defScope s_Lattice_irreducibles) [] [] (ma K (ga K "Lattice") "irreducibles") fd := Z.s.def_ 13 (d := d_Lattice_irreducibles)
theorem fd_OrderLattice___init__ (Z : Ctx K mg) : ∃ fd, FunD K "__init__" "OrderLattice.__init__" (defArgs s_OrderLattice___init__) (defBody s_OrderLattice___init__) (defScope s_OrderLattice___init__) [] [] (ma K (ga K "OrderLattice") "__init__") fd := Z.s.def_ 14 (d := d_OrderLattice___init__)
theorem fd_OrderLattice_within_at (Z : Ctx K mg) : ∃ fd, FunD K "within_at" "OrderLattice.within_at" (defArgs s_OrderLattice_within_at) (defBody s_OrderLattice_within_at) (defScope s_OrderLattice_within_at) [] [] (ma K (ga K "OrderLattice") "within_at") fd := Z.s.def_ 15 (d := d_OrderLattice_within_at)
theorem fd_OrderLattice_join_at (Z : Ctx K mg) : ∃ fd, FunD K "join_at" "OrderLattice.join_at" (defArgs s_OrderLattice_join_at) (defBody s_OrderLattice_join_at) (defScope s_OrderLattice_join_at) [] [] (ma K (ga K "OrderLattice") "join_at") fd := Z.s.def_ 16 (d := d_OrderLattice_join_at)
theorem fd_OrderLattice_meet_at (Z : Ctx K mg) : ∃ fd, FunD K "meet_at" "OrderLattice.meet_at" (defArgs s_OrderLattice_meet_at) (defBody s_OrderLattice_meet_at) (defScope s_OrderLattice_meet_at) [] [] (ma K (ga K "OrderLattice") "meet_at") fd := Z.s.def_ 17 (d := d_OrderLattice_meet_at)
theorem fd_OrderLattice_name_at (Z : Ctx K mg) : ∃ fd, FunD K "name_at" "OrderLattice.name_at" (defArgs s_OrderLattice_name_at) (defBody s_OrderLattice_name_at) (defScope s_OrderLattice_name_at) [] [] (ma K (ga K "OrderLattice") "name_at") fd := Z.s.def_ 18 (d := d_OrderLattice_name_at)
theorem fd_OrderLattice_at_name (Z : Ctx K mg) : ∃ fd, FunD K "at_name" "OrderLattice.at_name" (defArgs s_OrderLattice_at_name) (defBody s_OrderLattice_at_name) (defScope s_OrderLattice_at_name) [] [] (ma K (ga K "OrderLattice") "at_name") fd := Z.s.def_ 19 (d := d_OrderLattice_at_name)
theorem fd_OrderLattice_irreducibles (Z : Ctx K mg) : ∃ fd, FunD K "irreducibles" "OrderLattice.irreducibles" (defArgs s_OrderLattice_irreducibles) (defBody s_OrderLattice_irreducibles) (defScope s_OrderLattice_irreducibles) [] [] (ma K (ga K "OrderLattice") "irreducibles") fd := Z.s.def_ 20 (d := d_OrderLattice_irreducibles)
theorem fd_OrderLattice__is_joined (Z : Ctx K mg) : ∃ fd, FunD K "_is_joined" "OrderLattice._is_joined" (defArgs s_OrderLattice__is_joined) (defBody s_OrderLattice__is_joined) (defScope s_OrderLattice__is_joined) [] [] (ma K (ga K "OrderLattice") "_is_joined") fd := Z.s.def_ 21 (d := d_OrderLattice__is_joined)
theorem fd__first_place (Z : Ctx K mg) : ∃ fd, FunD K "_first_place" "_first_place" (defArgs s__first_place) (defBody s__first_place) (defScope s__first_place) [] [] (ga K "_first_place") fd := Z.s.def_ 22 (d := d__first_place)
theorem fd_DownLattice___init__ (Z : Ctx K mg) : ∃ fd, FunD K "__init__" "DownLattice.__init__" (defArgs s_DownLattice___init__) (defBody s_DownLattice___init__) (defScope s_DownLattice___init__) [] [] (ma K (ga K "DownLattice") "__init__") fd := Z.s.def_ 23 (d := d_DownLattice___init__)
theorem fd_DownLattice_within_at (Z : Ctx K mg) : ∃ fd, FunD K "within_at" "DownLattice.within_at" (defArgs s_DownLattice_within_at) (defBody s_DownLattice_within_at) (defScope s_DownLattice_within_at) [] [] (ma K (ga K "DownLattice") "within_at") fd := Z.s.def_ 24 (d := d_DownLattice_within_at)
theorem fd_DownLattice_join_at (Z : Ctx K mg) : ∃ fd, FunD K "join_at" "DownLattice.join_at" (defArgs s_DownLattice_join_at) (defBody s_DownLattice_join_at) (defScope s_DownLattice_join_at) [] [] (ma K (ga K "DownLattice") "join_at") fd := Z.s.def_ 25 (d := d_DownLattice_join_at)
theorem fd_DownLattice_meet_at (Z : Ctx K mg) : ∃ fd, FunD K "meet_at" "DownLattice.meet_at" (defArgs s_DownLattice_meet_at) (defBody s_DownLattice_meet_at) (defScope s_DownLattice_meet_at) [] [] (ma K (ga K "DownLattice") "meet_at") fd := Z.s.def_ 26 (d := d_DownLattice_meet_at)
theorem fd_DownLattice_name_at (Z : Ctx K mg) : ∃ fd, FunD K "name_at" "DownLattice.name_at" (defArgs s_DownLattice_name_at) (defBody s_DownLattice_name_at) (defScope s_DownLattice_name_at) [] [] (ma K (ga K "DownLattice") "name_at") fd := Z.s.def_ 27 (d := d_DownLattice_name_at)
theorem fd_DownLattice_at_name (Z : Ctx K mg) : ∃ fd, FunD K "at_name" "DownLattice.at_name" (defArgs s_DownLattice_at_name) (defBody s_DownLattice_at_name) (defScope s_DownLattice_at_name) [] [] (ma K (ga K "DownLattice") "at_name") fd := Z.s.def_ 28 (d := d_DownLattice_at_name)
theorem fd_DownLattice_irreducibles (Z : Ctx K mg) : ∃ fd, FunD K "irreducibles" "DownLattice.irreducibles" (defArgs s_DownLattice_irreducibles) (defBody s_DownLattice_irreducibles) (defScope s_DownLattice_irreducibles) [] [] (ma K (ga K "DownLattice") "irreducibles") fd := Z.s.def_ 29 (d := d_DownLattice_irreducibles)
theorem fd__is_down (Z : Ctx K mg) : ∃ fd, FunD K "_is_down" "_is_down" (defArgs s__is_down) (defBody s__is_down) (defScope s__is_down) [] [] (ga K "_is_down") fd := Z.s.def_ 30 (d := d__is_down)
theorem fd__set_name (Z : Ctx K mg) : ∃ fd, FunD K "_set_name" "_set_name" (defArgs s__set_name) (defBody s__set_name) (defScope s__set_name) [] [] (ga K "_set_name") fd := Z.s.def_ 31 (d := d__set_name)
theorem fd__law_cells (Z : Ctx K mg) : ∃ fd, FunD K "_law_cells" "_law_cells" (defArgs s__law_cells) (defBody s__law_cells) (defScope s__law_cells) [] [] (ga K "_law_cells") fd := Z.s.def_ 32 (d := d__law_cells)
theorem fd__law_pick (Z : Ctx K mg) : ∃ fd, FunD K "_law_pick" "_law_pick" (defArgs s__law_pick) (defBody s__law_pick) (defScope s__law_pick) [] [] (ga K "_law_pick") fd := Z.s.def_ 33 (d := d__law_pick)
theorem fd__law_words (Z : Ctx K mg) : ∃ fd, FunD K "_law_words" "_law_words" (defArgs s__law_words) (defBody s__law_words) (defScope s__law_words) [] [] (ga K "_law_words") fd := Z.s.def_ 34 (d := d__law_words)
theorem fd__law_closed (Z : Ctx K mg) : ∃ fd, FunD K "_law_closed" "_law_closed" (defArgs s__law_closed) (defBody s__law_closed) (defScope s__law_closed) [] [] (ga K "_law_closed") fd := Z.s.def_ 35 (d := d__law_closed)
theorem fd__law_odd (Z : Ctx K mg) : ∃ fd, FunD K "_law_odd" "_law_odd" (defArgs s__law_odd) (defBody s__law_odd) (defScope s__law_odd) [] [] (ga K "_law_odd") fd := Z.s.def_ 36 (d := d__law_odd)
theorem fd__law_right_name (Z : Ctx K mg) : ∃ fd, FunD K "_law_right_name" "_law_right_name" (defArgs s__law_right_name) (defBody s__law_right_name) (defScope s__law_right_name) [] [] (ga K "_law_right_name") fd := Z.s.def_ 37 (d := d__law_right_name)
theorem fd__law_size (Z : Ctx K mg) : ∃ fd, FunD K "_law_size" "_law_size" (defArgs s__law_size) (defBody s__law_size) (defScope s__law_size) [] [] (ga K "_law_size") fd := Z.s.def_ 38 (d := d__law_size)
theorem fd_law (Z : Ctx K mg) : ∃ fd, FunD K "law" "law" (defArgs s_law) (defBody s_law) (defScope s_law) [] [] (ga K "law") fd := Z.s.def_ 39 (d := d_law)
theorem xx_BadLattice (Z : Ctx K mg) : ExS.ESup PG K (ga K "BadLattice") (iAd K "BadLattice") "ValueError" ("ValueError" ++ ".__new__") ("ValueError" ++ ".__init__") [.type "ValueError", .type "Exception", .type "BaseException", .type "object"] "BadLattice.__init__" (defArgs s_BadLattice___init__) (defBody s_BadLattice___init__) (defScope s_BadLattice___init__) ∧ PySem.W.keepIn K (.ref (ga K "BadLattice")) = true ∧ PySem.W.subIn K (.ref (ga K "BadLattice")) (.type "BaseException") = some true ∧ PySem.W.typeIn K (.ref (ga K "BadLattice")) = some (.type "type") ∧ PySem.W.hasDictIn K (ga K "BadLattice") = true := Z.s.exn 0 (d := x_BadLattice) base_VE
theorem xx_MixedLattices (Z : Ctx K mg) : ExS.ESup PG K (ga K "MixedLattices") (iAd K "MixedLattices") "ValueError" ("ValueError" ++ ".__new__") ("ValueError" ++ ".__init__") [.type "ValueError", .type "Exception", .type "BaseException", .type "object"] "MixedLattices.__init__" (defArgs s_MixedLattices___init__) (defBody s_MixedLattices___init__) (defScope s_MixedLattices___init__) ∧ PySem.W.keepIn K (.ref (ga K "MixedLattices")) = true ∧ PySem.W.subIn K (.ref (ga K "MixedLattices")) (.type "BaseException") = some true ∧ PySem.W.typeIn K (.ref (ga K "MixedLattices")) = some (.type "type") ∧ PySem.W.hasDictIn K (ga K "MixedLattices") = true := Z.s.exn 1 (d := x_MixedLattices) base_VE
theorem cm_Lattice___init__ (Z : Ctx K mg) : ClsM K (ga K "Lattice") "__init__" := by
  have h := Z.s.moreB
  unfold more at h
  simp only [Bool.and_eq_true] at h
  exact clsB_ok h.1.2
theorem x_extra (Z : Ctx K mg) : extra K = true := by
  have h := Z.s.moreB
  unfold more at h
  simp only [Bool.and_eq_true] at h
  exact h.2
end
end Lk02

set_option maxHeartbeats 4000000
namespace Lk02
open PySem PySem.Spec PyProof.Rows L2 He HkS Bs
/-- what draws are made of stands at st -/
def SrcC (H : Hp) (st c : Addr) (cs : List Int) : Prop := ∃ (i left mixed : Int), H st = some (.lst [.ref c, .int i, .int left, .int mixed]) ∧ H c = some (.lst (cs.map V.int)) ∧ cs.length ≤ 63 ∧ (∀ z ∈ cs, 0 ≤ z) ∧ 0 ≤ i ∧ 0 ≤ left ∧ 0 ≤ mixed ∧ mixed < 2147483563
def Src (H : Hp) (st : Addr) : Prop := ∃ (c : Addr) (cs : List Int), SrcC H st c cs
def spCells (K : PySem.W.Frag) : Sp := fun vs H Q _ => ∃ (a : Addr) (ns : List Int), vs = [.ref a] ∧ SqL K H a (ns.map V.int) ∧ ns.length ≤ 63 ∧ ∀ H' st, Same H H' → H st = none → Src H' st → Q (.ref st) H'
def spPick : Sp := fun vs H Q _ => ∃ (st : Addr) (many : Int), vs = [.ref st, .int many] ∧ Src H st ∧ 1 ≤ many ∧ many.natAbs < 2 ^ 200 ∧ ∀ d H', 0 ≤ d → d < many → (∀ b, b ≠ st → H' b = H b) → Src H' st → Q (.int d) H'
/-- the same, the cells' list told -/
def spPick2 : Sp := fun vs H Q _ => ∃ (st : Addr) (many : Int) (c : Addr) (cs : List Int), vs = [.ref st, .int many] ∧ SrcC H st c cs ∧ 1 ≤ many ∧ many.natAbs < 2 ^ 200 ∧ ∀ d H', 0 ≤ d → d < many → (∀ b, b ≠ st → H' b = H b) → SrcC H' st c cs → Q (.int d) H'
section
variable {P : Program} {w : World} {K : PySem.W.Frag} {mg : Str → Option Value} {base : Heap}
theorem scCells : FnScope ["script", "mixed", "cell"] ["script"] (defScope s__law_cells) := ⟨rfl, rfl, rfl, by decide +kernel, rfl, by decide +kernel, by decide +kernel⟩
theorem ints_at {ns : List Int} {i : Nat} {y : V} (h : (ns.map V.int)[i]? = some y) : ∃ z, ns[i]? = some z ∧ y = V.int z := by
  rw [List.getElem?_map] at h
  cases e : ns[i]? with
  | none =>
    rw [e] at h
    cases h
  | some z =>
    rw [e] at h
    exact ⟨z, rfl, (Option.some.inj h).symm⟩
theorem take_more {α : Type} : ∀ {l : List α} {i : Nat} {x : α}, l[i]? = some x → l.take (i + 1) = l.take i ++ [x]
  | [], i, x, h => by simp at h
  | a :: l, 0, x, h => by
    have e : a = x := Option.some.inj h
    subst e
    rfl
  | a :: l, i + 1, x, h => by
    have ih := take_more (l := l) (i := i) (x := x) h
    show a :: l.take (i + 1) = a :: l.take i ++ [x]
    rw [ih]
    rfl
theorem ok_cells (Z : Ctx K mg) : Ok P w K mg base 2 (ga K "_law_cells") ["script"] (spCells K) := by
  refine ok_of (fd__law_cells Z) scCells (fun vs H Q E h => ?_) (fun _ _ _ _ _ _ us hl => match us, hl with | [_], _ => rfl) (fun cdv A outer s H vs Q E hr h => ?_)
  · obtain ⟨a, ns, rfl, _⟩ := h
    rfl
  · obtain ⟨a, ns, rfl, hS, hlen, k⟩ := h
    refine ⟨_, pss_cons (ps_s 1 scCells.nd pe_int)
      (pss_cons (ps_for (passes_of rfl) rfl (pi_list (pv 0)) (pg_n 2 scCells.nd)
        (pss_one (ps_s 1 scCells.nd (pe_op op_mod (pe_callTy call_int1 (by rfl) (f_int Z) (by decide +kernel) (pa_cons (pe_op op_add (pe_op op_add (pe_op op_mul (pv 1) pe_int) (pe_op op_mul (pv 2) pe_int)) pe_int) pa_nil)) pe_int))))
      (pss_one (ps_ret (pe_lst (pa_cons (pe_lc (own := [("cell", 2)]) (g := gName 2) (tt := tYes) rfl scCells.nd (pi_list (pv 0)) (blkOk_by (N := ["script", "mixed", "cell"]) (sc := defScope s__law_cells) (by decide +kernel)) (fun _ _ _ _ _ => pg_n 2 scCells.nd) (fun _ _ _ _ _ => pts_nil)
          (fun _ _ _ _ _ => pe_callB call_abs (by rfl) (f_abs Z) (by decide +kernel) (pa_cons (pv 2) pa_nil)))
        (pa_cons pe_int (pa_cons pe_int (pa_cons (pv 1) pa_nil)))))))), ?_⟩
    refine ⟨_, rfl, a, rfl, ⟨_, hS⟩, for_list (K := K) (a := a) (xs := ns.map V.int) (fun i σ H1 => ∃ (m : Int) (v : Option V), σ = [some (.ref a), some (.int m), v] ∧ H1 = H ∧ 0 ≤ m ∧ m < 2147483563)
      ⟨3, none, rfl, rfl, by decide, by decide⟩ (fun i σ H1 _ ⟨_, _, _, e, _⟩ => by rw [e]; exact hS) ?_ ?_⟩
    · rintro i y σ H1 hi ⟨m, v, rfl, rfl, h0, h1⟩
      obtain ⟨z, hz, rfl⟩ := ints_at hi
      refine ⟨_, rfl, _, _, rfl, rfl, .inl ⟨by omega, by omega⟩, _, rfl, _, _, rfl, rfl, .inr ⟨by decide, by decide⟩, _, _, rfl, rfl, _, _, rfl, rfl, .inl ⟨_, rfl, ?_⟩⟩
      refine ⟨_, _, rfl, rfl, (by show (0 : Int) < 2147483563; decide), ?_⟩
      exact ⟨_, some (.int z), rfl, rfl, Int.emod_nonneg _ (by decide), Int.emod_lt_of_pos _ (by decide)⟩
    · rintro σ H1 ⟨m, v, rfl, rfl, h0, h1⟩
      refine ⟨_, rfl, a, rfl, ⟨_, hS⟩, fun D hD => ?_⟩
      have na : a ≠ D ∨ True := .inr trivial
      refine lc_list (K := K) (a := a) (xs := ns.map V.int) (fun i H2 => Same H1 H2 ∧ H2 D = some (.lst (((ns.take i).map fun z => if z < 0 then -z else z).map V.int)))
        ⟨fun b o e => by rw [upd_ne (ne_of_none e hD)]; exact e, by rw [upd_same]; rfl⟩ (fun i H2 _ h => h.1.seq hS) ?_ ?_
      · rintro i y H2 hi ⟨sm, hd⟩
        obtain ⟨z, hz, rfl⟩ := ints_at hi
        have hl : i < ns.length := (List.getElem?_eq_some_iff.mp hz).1
        refine ⟨rfl, ?_⟩
        show _
        refine ⟨_, rfl, _, rfl, _, hd, ?_, ?_, ?_⟩
        · rw [List.length_map, List.length_map, List.length_take]
          exact small1000 (by omega)
        · intro b o e
          rw [upd_ne (ne_of_none e hD)]
          exact sm b o e
        · rw [upd_same, take_more hz, List.map_append, List.map_append]
          rfl
      · rintro H2 ⟨sm, hd⟩
        rw [List.length_map, List.take_length] at hd
        refine ⟨_, rfl, (by show 4 ≤ sizeLine; decide), fun p hp => ?_⟩
        have dp : D ≠ p := ne_of_none hd hp
        refine k _ p (fun b o e => ?_) (sm.free hp) ⟨D, _, 0, 1, m, upd_same, by rw [upd_ne dp]; exact hd, by rw [List.length_map]; omega, ?_, by decide, by decide, h0, h1⟩
        · have e2 := sm b o e
          rw [upd_ne (ne_of_none e2 hp)]
          exact e2
        · intro z hz
          obtain ⟨y, _, rfl⟩ := List.mem_map.mp hz
          split <;> omega
end
end Lk02

set_option maxHeartbeats 4000000
namespace Lk02
open PySem PySem.Spec PyProof.Rows L2 He HkS Bs
section
variable {P : Program} {w : World} {K : PySem.W.Frag} {mg : Str → Option Value} {base : Heap}
theorem scPick : FnScope ["source", "many", "digit", "number"] ["source", "many"] (defScope s__law_pick) := ⟨rfl, rfl, rfl, by decide +kernel, rfl, by decide +kernel, by decide +kernel⟩
theorem at0 {a b c d : V} : atI [a, b, c, d] 0 = some a := rfl
theorem at1 {a b c d : V} : atI [a, b, c, d] 1 = some b := rfl
theorem at2 {a b c d : V} : atI [a, b, c, d] 2 = some c := rfl
theorem at3 {a b c d : V} : atI [a, b, c, d] 3 = some d := rfl
theorem at_cs {cs : List Int} {i : Int} (h0 : 0 ≤ i) (h1 : i < cs.length) : ∃ z, cs[i.toNat]? = some z ∧ atI (cs.map V.int) i = some (V.int z) := by
  have hl : i.toNat < cs.length := by omega
  refine ⟨cs[i.toNat], List.getElem?_eq_getElem hl, at_of (j := i.toNat) (by omega) ?_⟩
  rw [List.getElem?_map, List.getElem?_eq_getElem hl]
  rfl
theorem pow_nn {i : Int} (h : 0 ≤ i) (n : Nat) : 0 ≤ i ^ n := Int.pow_nonneg h
theorem ok_pick2 (Z : Ctx K mg) : Ok P w K mg base 2 (ga K "_law_pick") ["source", "many"] spPick2 := by
  refine ok_of (fd__law_pick Z) scPick (fun vs H Q E h => ?_) (fun _ _ _ _ _ _ us hl => match us, hl with | [_, _], _ => rfl) (fun cdv A outer s H vs Q E hr h => ?_)
  · obtain ⟨a, ns, _, _, rfl, _⟩ := h
    rfl
  · obtain ⟨st, many, c, cs, rfl, ⟨i0, l0, m0, hst, hc, hlen, hcs, hi0, hl0, hm0, hm1⟩, hmany, hbig, k⟩ := h
    have ncs : c ≠ st := by
      intro e
      rw [e, hst] at hc
      have z := Option.some.inj hc
      injection z with z
      have z2 := congrArg List.head? z
      cases cs with
      | nil => cases z2
      | cons a l => cases z2
    refine ⟨_, pss_cons (ps_if (pt_cmpR op_lt (pv 1) pe_int (nomark _)) (pss_one (ps_ret pe_int)) pss_nil)
      (C8.pss_cut (ps_while (passes_of rfl) (PW.pt (pw_and (pt_cmpR op_lt (pe_ix ix_list (pv 0) pe_int (fun _ _ => rfl)) pe_int (nomark _)) (pw_and1 (pt_cmpR op_lt (pe_ix ix_list (pv 0) pe_int (fun _ _ => rfl)) (pe_callB call_len_seq (by rfl) (f_len Z) boot_len (pa_cons (pe_ix ix_list (pv 0) pe_int (fun _ _ => rfl)) pa_nil)) (nomark _)))))
        (pss_cons (ps_asg (pe_ix ix_list (pe_ix ix_list (pv 0) pe_int (fun _ _ => rfl)) (pe_ix ix_list (pv 0) pe_int (fun _ _ => rfl)) (fun _ _ => rfl)) (pg_sub (pv 0) pe_int set_list))
        (pss_one (ps_asg (pe_op op_add (pe_ix ix_list (pv 0) pe_int (fun _ _ => rfl)) pe_int) (pg_sub (pv 0) pe_int set_list)))))
      (pss_cons (ps_if (pt_cmpR op_gt (pe_ix ix_list (pv 0) pe_int (fun _ _ => rfl)) pe_int (nomark _))
        (pss_cons (ps_s 2 scPick.nd (pe_op op_mod (pe_callTy call_int1 (by rfl) (f_int Z) (by decide +kernel) (pa_cons (pe_ix ix_list (pv 0) pe_int (fun _ _ => rfl)) pa_nil)) (pv 1)))
        (pss_cons (ps_asg (pe_op op_fdivW (pe_ix ix_list (pv 0) pe_int (fun _ _ => rfl)) (pv 1)) (pg_sub (pv 0) pe_int set_list))
        (pss_one (ps_ret (pv 2))))) pss_nil)
      (pss_cons (ps_asg (pe_op op_mod (pe_callTy call_int1 (by rfl) (f_int Z) (by decide +kernel) (pa_cons (pe_op op_add (pe_op op_mul (pe_ix ix_list (pv 0) pe_int (fun _ _ => rfl)) pe_int) pe_int) pa_nil)) pe_int) (pg_sub (pv 0) pe_int set_list))
      (pss_cons (ps_s 3 scPick.nd (pe_op op_fdiv (pe_ix ix_list (pv 0) pe_int (fun _ _ => rfl)) pe_int))
      (pss_cons (ps_if (pt_cmpR op_gt (pv 1) (pe_op op_pow pe_int pe_int) (nomark _)) (pss_one (ps_s 3 scPick.nd (pe_op op_pow (pv 3) pe_int))) pss_nil)
      (pss_one (ps_ret (pe_op op_mod (pe_callTy call_int1 (by rfl) (f_int Z) (by decide +kernel) (pa_cons (pv 3) pa_nil)) (pv 1))))))))), ?_⟩
    refine ⟨_, rfl, _, _, rfl, rfl, _, rfl, ite2 (fun hlt => ?_) (fun hge => ?_)⟩
    · have hlt := of_decide_eq_true hlt
      exact k 0 H (by decide) (by omega) (fun _ _ => rfl) ⟨i0, l0, m0, hst, hc, hlen, hcs, hi0, hl0, hm0, hm1⟩
    -- the while
    refine ⟨fun σ H1 => ∃ (i left : Int), σ = [some (.ref st), some (.int many), none, none] ∧ H1 st = some (.lst [.ref c, .int i, .int left, .int m0]) ∧ (∀ b, b ≠ st → H1 b = H b) ∧ 0 ≤ i ∧ 0 ≤ left, ?_, ?_⟩
    · refine ⟨fun m σ H1 => ∃ (i left : Int), σ = [some (.ref st), some (.int many), none, none] ∧ H1 st = some (.lst [.ref c, .int i, .int left, .int m0]) ∧ (∀ b, b ≠ st → H1 b = H b) ∧ 0 ≤ i ∧ 0 ≤ left ∧ m = ((cs.length : Int) - i).toNat, ⟨_, i0, l0, rfl, hst, fun _ _ => rfl, hi0, hl0, rfl⟩, ?_⟩
      rintro m σ H1 ⟨i, left, rfl, h1, hk, hi, hl, rfl⟩
      have hc1 : H1 c = some (.lst (cs.map V.int)) := (hk c ncs).trans hc
      refine ⟨_, rfl, _, _, _, _, rfl, rfl, SqL.of h1, at2, _, _, rfl, rfl, _, rfl, ?_⟩
      refine ite2 (fun t1 => ?_) (fun t1 => ?_)
      · refine ⟨_, rfl, _, _, _, _, rfl, rfl, SqL.of h1, at1, _, rfl, _, _, _, _, rfl, rfl, SqL.of h1, at0, c, _, rfl, .inl (SqL.of hc1), _, _, rfl, rfl, _, rfl, ?_⟩
        rw [List.length_map]
        refine ite2 (fun t2 => ?_) (fun t2 => ?_)
        · have hlt := of_decide_eq_true t2
          obtain ⟨z, hz, haz⟩ := at_cs hi hlt
          have hzn : 0 ≤ z := hcs z (List.mem_of_getElem? hz)
          refine ⟨fun σ' H' => ∃ (left : Int), σ' = [some (.ref st), some (.int many), none, none] ∧ H' st = some (.lst [.ref c, .int (i + 1), .int left, .int m0]) ∧ (∀ b, b ≠ st → H' b = H b) ∧ 0 ≤ left, fun σ' H' ⟨l2, e1, e2, e3, e4⟩ => ⟨_, by omega, i + 1, l2, e1, e2, e3, by omega, e4, rfl⟩, ?_⟩
          refine ⟨_, rfl, _, _, _, _, rfl, rfl, SqL.of h1, at0, _, rfl, _, _, _, _, rfl, rfl, SqL.of h1, at1, _, _, _, _, rfl, rfl, SqL.of hc1, haz, _, rfl, _, _, _, _, rfl, rfl, h1, rfl, ?_⟩
          refine ⟨_, rfl, _, _, _, _, rfl, rfl, SqL.of upd_same, at1, _, _, rfl, rfl, _, rfl, _, _, _, _, rfl, rfl, upd_same, rfl, ?_⟩
          exact ⟨z, rfl, upd_same, fun b hb => by rw [upd_ne hb, upd_ne hb]; exact hk b hb, hzn⟩
        · exact ⟨i, left, rfl, h1, hk, hi, hl⟩
      · exact ⟨i, left, rfl, h1, hk, hi, hl⟩
    · rintro σ H1 ⟨i, left, rfl, h1, hk, hi, hl⟩
      have hc1 : H1 c = some (.lst (cs.map V.int)) := (hk c ncs).trans hc
      refine ⟨_, rfl, _, _, _, _, rfl, rfl, SqL.of h1, at2, _, _, rfl, rfl, _, rfl, ite2 (fun t => ?_) (fun t => ?_)⟩
      · -- a digit of the present cell
        refine ⟨_, rfl, _, _, _, _, rfl, rfl, SqL.of h1, at2, .inl ⟨_, rfl, _, rfl, _, _, rfl, rfl, (by show (0 : Int) < many; omega), ?_⟩⟩
        refine ⟨_, rfl, _, _, _, _, rfl, rfl, SqL.of h1, at2, _, rfl, _, _, rfl, rfl, wide_div (by omega) hbig (by decide) (by decide), _, rfl, _, _, _, _, rfl, rfl, h1, rfl, ?_⟩
        refine ⟨_, rfl, k _ _ (Int.emod_nonneg _ (by omega)) (Int.emod_lt_of_pos _ (by omega)) (fun b hb => by rw [upd_ne hb]; exact hk b hb) ⟨i, left / many, m0, upd_same, by rw [upd_ne ncs]; exact hc1, hlen, hcs, hi, Int.ediv_nonneg hl (by omega), hm0, hm1⟩⟩
      · refine ⟨_, rfl, _, _, _, _, rfl, rfl, SqL.of h1, at3, _, _, rfl, rfl, .inl ⟨by omega, by omega⟩, _, _, rfl, rfl, .inl ⟨_, rfl, _, _, rfl, rfl, (by show (0 : Int) < 2147483563; decide), _, rfl, _, _, _, _, rfl, rfl, h1, rfl, ?_⟩⟩
        have g0 : 0 ≤ (m0 * 40014 + 12345) % 2147483563 := Int.emod_nonneg _ (by decide)
        have g1 : (m0 * 40014 + 12345) % 2147483563 < 2147483563 := Int.emod_lt_of_pos _ (by decide)
        obtain ⟨m1, hm⟩ : ∃ m1, (m0 * 40014 + 12345) % 2147483563 = m1 := ⟨_, rfl⟩
        obtain ⟨H2, hH⟩ : ∃ H2, upd H1 st (.lst ([V.ref c, .int i, .int left, .int m0].set (Int.toNat 3) ((fun i j => V.int (i % j)) (m0 * 40014 + 12345) 2147483563))) = H2 := ⟨_, rfl⟩
        have h2 : H2 st = some (.lst [.ref c, .int i, .int left, .int m1]) := by
          rw [← hH, ← hm]
          exact upd_same
        have K1 : ∀ b, b ≠ st → H2 b = H b := fun b hb => by
          rw [← hH, upd_ne hb]
          exact hk b hb
        rw [hm] at g0 g1
        have S1 : SrcC H2 st c cs := ⟨i, left, m1, h2, (K1 c ncs).trans hc, hlen, hcs, hi, hl, g0, g1⟩
        show tSeq _ _ _ _ (upd H1 st (.lst ([V.ref c, .int i, .int left, .int m0].set (Int.toNat 3) ((fun i j => V.int (i % j)) (m0 * 40014 + 12345) 2147483563))))
        rw [hH]
        refine ⟨_, rfl, _, _, _, _, rfl, rfl, SqL.of h2, at3, _, _, rfl, rfl, ⟨by decide, by decide⟩, ?_⟩
        have f0 : 0 ≤ m1 / 7 := Int.ediv_nonneg g0 (by decide)
        have f1 : m1 / 7 < 2147483563 := by omega
        refine ⟨_, rfl, _, _, rfl, rfl, ⟨by decide, by decide, by decide⟩, _, _, rfl, rfl, _, rfl, ite2 (fun t => ?_) (fun t => ?_)⟩
        · refine ⟨_, rfl, _, _, rfl, rfl, ⟨by decide, by decide, by show (m1 / 7).natAbs < 2 ^ 64; omega⟩, ?_⟩
          refine ⟨_, rfl, .inl ⟨_, rfl, _, rfl, _, _, rfl, rfl, (by show (0 : Int) < many; omega), ?_⟩⟩
          exact k _ _ (Int.emod_nonneg _ (by omega)) (Int.emod_lt_of_pos _ (by omega)) K1 S1
        · refine ⟨_, rfl, .inl ⟨_, rfl, _, rfl, _, _, rfl, rfl, (by show (0 : Int) < many; omega), ?_⟩⟩
          exact k _ _ (Int.emod_nonneg _ (by omega)) (Int.emod_lt_of_pos _ (by omega)) K1 S1
theorem ok_pick (Z : Ctx K mg) : Ok P w K mg base 2 (ga K "_law_pick") ["source", "many"] spPick := (ok_pick2 Z).imp fun vs H Q E h => by
  obtain ⟨st, many, rfl, ⟨c, cs, S⟩, h1, h2, k⟩ := h
  exact ⟨st, many, c, cs, rfl, S, h1, h2, fun d H' a b e s => k d H' a b e ⟨c, cs, s⟩⟩
end
end Lk02

set_option maxHeartbeats 4000000
namespace Lk02
open PySem PySem.Spec PyProof.Rows L2 He HkS Bs Clo Lc2
section
variable {P : Program} {w : World} {K : PySem.W.Frag} {mg : Str → Option Value} {base : Heap}
theorem xe_BadLattice (Z : Ctx K mg) : ExS.E0 PG K (ga K "BadLattice") := by
  obtain ⟨T, kC, eC, tC, hC⟩ := xx_BadLattice Z
  refine ⟨fun X bl hl hr hq => ?_, kC, eC, tC⟩
  exact ExS.made0 (arg := .Constant (.str _) _ _) ⟨fun _ => rfl, ⟨_, fun _ => rfl⟩, fun _ => rfl⟩ T X bl hl hr (fun A' E' s' L cda cc => wpAny_Constant_str ⟨_, rfl⟩) hq
/-! ### names and pairs -/
theorem flatS : ∀ ns : List Str, (ns.map V.str).all flatV = true
  | [] => rfl
  | _ :: r => flatS r
theorem inVS {s : Str} : ∀ ns : List Str, inV (.str s) (ns.map V.str) = decide (s ∈ ns)
  | [] => rfl
  | y :: r => by
    show ((y == s) || inV (.str s) (r.map V.str)) = _
    rw [inVS r]
    by_cases h : y = s
    · subst h
      simp
    · have h2 : (y == s) = false := beq_eq_false_iff_ne.mpr h
      have h3 : ¬ s = y := fun q => h q.symm
      simp [h2, h3]
theorem small_k {n : Nat} (h : n ≤ 100000) : n ≤ sizeLine := by rw [sizeLine_eq]; omega
theorem small_k2 {n : Nat} (h : n < 100000) : n < sizeLine := by rw [sizeLine_eq]; omega
def SIGNS : Str := "abcdefghijklmnopqrstuvwxyz0123456789"
def sg (c : Nat) : Bool := !(Builtin.Str.occurrences SIGNS ⟨#[c]⟩ 0 SIGNS.length 1).isEmpty
/-- whether x may be a name -/
def right (x : Str) : Bool := decide (1 ≤ x.length ∧ x.length ≤ 12) && x.cps.toList.all sg
def PairsS (K : PySem.W.Frag) (H : Hp) (p : Addr) (ps : List (Str × Str)) : Prop := ∃ ts : List Addr, SqL K H p (ts.map V.ref) ∧ ts.length = ps.length ∧ ∀ (i : Nat) (t : Addr) (q : Str × Str), ts[i]? = some t → ps[i]? = some q → SqT K H t [.str q.1, .str q.2]
theorem PairsS.same {H H' : Hp} {p : Addr} {ps : List (Str × Str)} (h : PairsS K H p ps) (s : Same H H') : PairsS K H' p ps := by
  obtain ⟨ts, h1, h2, h3⟩ := h
  exact ⟨ts, s.seq h1, h2, fun i t q a b => s.tup (h3 i t q a b)⟩
def sp_has_place : Sp := fun vs H Q _ => ∃ m p : Nat, vs = [.int (m : Nat), .int (p : Nat)] ∧ Q (.bl (m.testBit p)) H
theorem sc_has_place : FnScope ["mask", "place"] ["mask", "place"] (defScope s_has_place) := ⟨rfl, rfl, rfl, by decide +kernel, rfl, by decide +kernel, by decide +kernel⟩
theorem ok_has_place (Z : Ctx K mg)  : Ok P w K mg base (2) (ga K "has_place") ["mask", "place"] sp_has_place := by
  refine ok_of (fd_has_place Z) sc_has_place (fun vs H Q E h => ?_) (fun _ _ _ _ _ _ us hl => match us, hl with | [_, _], _ => rfl) (fun cdv A outer s H vs Q E hr h => ?_)
  · obtain ⟨_, _, rfl, _⟩ := h
    rfl
  · obtain ⟨m, p, rfl, k⟩ := h
    refine ⟨_, (pss_one (ps_ret (pe_cmpR op_eq (pe_op op_and (pe_op op_shr (pv 0) (pv 1)) pe_int) pe_int (nomark _)))), ?_⟩
    refine ⟨_, rfl, _, rfl, _, _, rfl, rfl, by omega, _, _, rfl, rfl, rfl, ?_⟩
    rw [has]
    exact k
def sp_is_told_rightly (K : PySem.W.Frag) : Sp := fun vs H Q _ => ∃ x : Str, vs = [.str x] ∧ x.length ≤ 1000 ∧ ∀ H', Same H H' → Q (.bl (right x)) H'
theorem sc_is_told_rightly : FnScope ["name", "sign"] ["name"] (defScope s_is_told_rightly) := ⟨rfl, rfl, rfl, by decide +kernel, rfl, by decide +kernel, by decide +kernel⟩
theorem ok_is_told_rightly (Z : Ctx K mg)  : Ok P w K mg base (2) (ga K "is_told_rightly") ["name"] (sp_is_told_rightly K) := by
  refine ok_of (fd_is_told_rightly Z) sc_is_told_rightly (fun vs H Q E h => ?_) (fun _ _ _ _ _ _ us hl => match us, hl with | [_], _ => rfl) (fun cdv A outer s H vs Q E hr h => ?_)
  · obtain ⟨_, rfl, _⟩ := h
    rfl
  · obtain ⟨x, rfl, hx, k⟩ := h
    obtain ⟨_, h__SIGNS⟩ := t__SIGNS Z
    obtain ⟨_, h__LONGEST⟩ := i__LONGEST Z
    refine ⟨_, (pss_one (ps_ret (pe_and (pe_chain op_le op_le pe_int (pe_callB call_len_str (by rfl) (f_len Z) boot_len (pa_cons (pv 0) pa_nil)) (pe_glob (v := .int 12) (by rfl) h__LONGEST ⟨_, rfl⟩)) (pe_one (pe_callB (allQ rfl) (by rfl) (f_all Z) (by decide +kernel) (pa_cons (pe_lc (own := [("sign", 1)]) (g := gName 1) (tt := tYes) rfl sc_is_told_rightly.nd (pi_str (pv 0)) (blkOk_by (N := ["name", "sign"]) (sc := defScope s_is_told_rightly) (by decide +kernel)) (fun _ _ _ _ _ => (pg_n 1 sc_is_told_rightly.nd)) (fun _ _ _ _ _ => pts_nil) (fun _ _ _ _ _ => (pe_cmpR op_in_str (pv 1) (pe_glob (v := .str "abcdefghijklmnopqrstuvwxyz0123456789") (by rfl) h__SIGNS ⟨_, rfl⟩) (by rfl)))) pa_nil)))))), ?_⟩
    have hN : ∀ H', Same H H' → (decide (1 ≤ x.length ∧ x.length ≤ 12) = false) → Q (.bl false) H' := fun H' s e => by
      have q := k H' s
      unfold right at q
      rw [e] at q
      exact q
    refine ⟨_, rfl, _, rfl, small_k (by omega), _, _, rfl, rfl, _, rfl, ite2 (fun c1 => ?_) (fun c1 => ?_)⟩
    · have h1 := of_decide_eq_true c1
      refine ⟨_, _, rfl, rfl, _, rfl, ite2 (fun c2 => ?_) (fun c2 => ?_)⟩
      · have h2 := of_decide_eq_true c2
        refine ⟨_, rfl, _, rfl, fun D hD => ?_⟩
        refine walk_s (x := x) (fun i H2 => Same H H2 ∧ H2 D = some (.lst (((x.cps.toList.take i).map sg).map V.bl))) ⟨sn hD, upd_same⟩ ?_ ?_
        · rintro i c H2 hc ⟨sm, hd⟩
          have hi : i < x.cps.size := (Array.getElem?_eq_some_iff.mp hc).1
          have hi2 : i < 1000 := Nat.lt_of_lt_of_le hi hx
          refine ⟨rfl, _, rfl, _, _, rfl, rfl, _, hd, small_k2 (by rw [List.length_map, List.length_map, List.length_take]; omega), sput sm hD, ?_⟩
          rw [upd_same, List.take_succ, Array.getElem?_toList, hc, List.map_append, List.map_append]
          rfl
        · rintro H2 ⟨sm, hd⟩
          rw [List.take_of_length_le (by simp)] at hd
          refine ⟨D, _, rfl, SqL.of hd, ?_⟩
          have q := k H2 sm
          unfold right at q
          rw [decide_eq_true (show 1 ≤ x.length ∧ x.length ≤ 12 by omega)] at q
          rw [List.all_map]
          exact q
      · have h2 : ¬ x.length ≤ 12 := fun z => c2 (decide_eq_true (by omega))
        exact hN H (Same.refl _) (decide_eq_false (fun z => h2 z.2))
    · have h1 : ¬ 1 ≤ x.length := fun z => c1 (decide_eq_true (by omega))
      exact ⟨_, rfl, iteF (hN H (Same.refl _) (decide_eq_false (fun z => h1 z.1)))⟩
def okOrd (ns : List Str) (ps : List (Str × Str)) (most : Int) : Bool := (decide (1 ≤ ns.length) && decide ((ns.length : Int) ≤ most)) && (decide ns.Nodup && (ns.all right && ps.all fun q => decide (q.1 ∈ ns) && decide (q.2 ∈ ns)))
def sp_check_order (K : PySem.W.Frag) : Sp := fun vs H Q E => ∃ (a p : Addr) (ns : List Str) (ps : List (Str × Str)) (most : Int), vs = [.ref a, .ref p, .int most] ∧ SqL K H a (ns.map V.str) ∧ ns.length ≤ 1000 ∧ (∀ x ∈ ns, x.length ≤ 1000) ∧ PairsS K H p ps ∧
  (∀ H', Same H H' → okOrd ns ps most = true → Q .non H') ∧ ∀ H', Same H H' → okOrd ns ps most = false → E (.ref (ga K "BadLattice")) none H'
theorem sc_check_order : FnScope ["names", "pairs", "most", "lower", "upper", "name"] ["names", "pairs", "most"] (defScope s_check_order) := ⟨rfl, rfl, rfl, by decide +kernel, rfl, by decide +kernel, by decide +kernel⟩
theorem ok_check_order (Z : Ctx K mg)  (hP : P = PG) : Ok P w K mg base (3) (ga K "check_order") ["names", "pairs", "most"] (sp_check_order K) := by
  refine ok_of (fd_check_order Z) sc_check_order (fun vs H Q E h => ?_) (fun _ _ _ _ _ _ us hl => match us, hl with | [_, _, _], _ => rfl) (fun cdv A outer s H vs Q E hr h => ?_)
  · obtain ⟨_, _, _, _, _, rfl, _⟩ := h
    rfl
  · subst hP
    obtain ⟨a, p, ns, ps, most, rfl, hS, hz, hx, hp, k, kE⟩ := h
    refine ⟨_, (pss_cons (ps_if (PW.pt (pw_or (pt_not (pt_chain op_le op_le pe_int (pe_callB lenQ (by rfl) (f_len Z) boot_len (pa_cons (pv 0) pa_nil)) (pv 2))) (pw_or1 (pt_cmpR op_ne (SetS.pe_lenSetS (by rfl) (by rfl) (f_len Z) (by rfl) (f_set Z) (pv 0)) (pe_callB lenQ (by rfl) (f_len Z) boot_len (pa_cons (pv 0) pa_nil)) (nomark _))))) (pss_one (ps_raise rfl (takes_of rfl rfl rfl rfl) (ExS.pmk_e0 (xe_BadLattice Z) (g_BadLattice Z) (f_super Z) top_super hr))) pss_nil)
      (pss_cons (ps_if (pt_not (pt_val (pe_callB (allQ rfl) (by rfl) (f_all Z) (by decide +kernel) (pa_cons (pe_lc (own := [("name", 5)]) (g := gName 5) (tt := tYes) rfl sc_check_order.nd (listI (pv 0)) (blkOk_by (N := ["names", "pairs", "most", "lower", "upper", "name"]) (sc := defScope s_check_order) (by decide +kernel)) (fun _ _ _ _ _ => (pg_n 5 sc_check_order.nd)) (fun _ _ _ _ _ => pts_nil) (fun _ _ _ _ _ => (pe_cO (ok_is_told_rightly Z) (hr.mono (by decide)) (g_is_told_rightly Z) passL (pa_cons (pv 5) pa_nil)))) pa_nil)))) (pss_one (ps_raise rfl (takes_of rfl rfl rfl rfl) (ExS.pmk_e0 (xe_BadLattice Z) (g_BadLattice Z) (f_super Z) top_super hr))) pss_nil)
      (pss_one (ps_for (passes_of rfl) rfl (listI (pv 1)) (Lc2.tupG (by rfl) (pgs_cons (pg_n 3 sc_check_order.nd) (pgs_cons (pg_n 4 sc_check_order.nd) pgs_nil))) (pss_one (ps_if (PW.pt (pw_or (pt_cmpR ninQ (pv 3) (pv 0) (by rfl)) (pw_or1 (pt_cmpR ninQ (pv 4) (pv 0) (by rfl))))) (pss_one (ps_raise rfl (takes_of rfl rfl rfl rfl) (ExS.pmk_e0 (xe_BadLattice Z) (g_BadLattice Z) (f_super Z) top_super hr))) pss_nil)))))), ?_⟩
    have bad : ∀ H', Same H H' → ((decide (1 ≤ ns.length) && decide ((ns.length : Int) ≤ most)) = true → (decide ns.Nodup && (ns.all right && ps.all fun q => decide (q.1 ∈ ns) && decide (q.2 ∈ ns))) = false) → E (.ref (ga K "BadLattice")) none H' := fun H' s e => by
      refine kE H' s ?_
      unfold okOrd
      cases c : (decide (1 ≤ ns.length) && decide ((ns.length : Int) ≤ most)) with
      | false => rfl
      | true => rw [e c]; rfl
    have hl : (ns.map V.str).length = ns.length := List.length_map ..
    refine ⟨_, rfl, _, _, rfl, .inl hS, _, _, rfl, rfl, _, rfl, ite2 (fun c1 => ?_) (fun c1 => ?_)⟩
    · have h1 : 1 ≤ ns.length := by
        have := of_decide_eq_true c1
        omega
      refine ⟨_, rfl, _, _, rfl, rfl, _, rfl, ?_⟩
      rw [hl]
      by_cases h2 : (ns.length : Int) ≤ most
      · rw [decide_eq_true h2]
        refine iteF ⟨_, rfl, _, _, rfl, hS, by omega, _, rfl, _, _, rfl, .inl hS, rfl, ?_⟩
        refine ⟨_, rfl, ite2 (fun c3 => ?_) (fun c3 => ?_)⟩
        · have nn : ¬ ns.Nodup := fun nd => by
            have e := (SetS.met_nodup ns).mpr nd
            rw [hl, e, decide_eq_true rfl] at c3
            cases c3
          exact bad H (Same.refl _) fun _ => by rw [decide_eq_false nn]; rfl
        · have nd : ns.Nodup := Decidable.byContradiction fun nn => c3 (by
            rw [hl, decide_eq_false (fun z => nn ((SetS.met_nodup ns).mp (by injection z with z; omega)))]
            rfl)
          -- each a name?
          refine ⟨_, rfl, a, rfl, ⟨_, hS⟩, fun D hD => ?_⟩
          refine walk_l (K := K) (a := a) (xs := ns.map V.str) (fun i H2 => Same H H2 ∧ H2 D = some (.lst (((ns.take i).map right).map V.bl))) ⟨sn hD, upd_same⟩ (fun i H2 _ ⟨sm, _⟩ => sm.seq hS) ?_ ?_
          · rintro i x H2 hxi ⟨sm, hd⟩
            rw [List.getElem?_map] at hxi
            obtain ⟨y, hy, rfl⟩ := Option.map_eq_some_iff.mp hxi
            have hi : i < ns.length := (List.getElem?_eq_some_iff.mp hy).1
            refine ⟨rfl, _, rfl, y, rfl, hx y (List.mem_of_getElem? hy), fun H3 s3 => ⟨_, s3 _ _ hd, small_k2 (by rw [List.length_map, List.length_map, List.length_take]; omega), sput (sm.trans s3) hD, ?_⟩⟩
            rw [upd_same, List.take_succ, hy, List.map_append, List.map_append]
            rfl
          · rintro H2 ⟨sm, hd⟩
            rw [hl, List.take_of_length_le (Nat.le_refl _)] at hd
            refine ⟨D, _, rfl, SqL.of hd, _, rfl, ite2 (fun c4 => ?_) (fun c4 => ?_)⟩
            · have e : ns.all right = false := by
                rw [List.all_map] at c4
                simpa using c4
              exact bad H2 sm fun _ => by rw [e, Bool.false_and, Bool.and_false]
            · have e : ns.all right = true := by
                rw [List.all_map] at c4
                simpa using c4
              obtain ⟨ts, t1, t2, t3⟩ := hp.same sm
              refine ⟨_, rfl, p, rfl, ⟨_, t1⟩, ?_⟩
              refine for_list (K := K) (a := p) (xs := ts.map V.ref) (fun i σ H3 => ∃ v3 v4 : Option V, σ = [some (.ref a), some (.ref p), some (.int most), v3, v4, none] ∧ Same H2 H3 ∧ (ps.take i).all (fun q => decide (q.1 ∈ ns) && decide (q.2 ∈ ns)) = true) ⟨none, none, rfl, Same.refl _, rfl⟩ (fun i σ H3 _ ⟨_, _, _, s3, _⟩ => s3.seq t1) ?_ ?_
              · rintro i x σ H3 hxi ⟨v3, v4, rfl, s3, al⟩
                rw [List.getElem?_map] at hxi
                obtain ⟨t, ht, rfl⟩ := Option.map_eq_some_iff.mp hxi
                have hi : i < ps.length := by
                  rw [← t2]
                  exact (List.getElem?_eq_some_iff.mp ht).1
                obtain ⟨q, hq⟩ : ∃ q, ps[i]? = some q := ⟨ps[i], List.getElem?_eq_getElem hi⟩
                have hS3 := s3.seq (sm.seq hS)
                have badq : (decide (q.1 ∈ ns) && decide (q.2 ∈ ns)) = false → E (.ref (ga K "BadLattice")) none H3 := fun z => bad H3 (sm.trans s3) fun _ => by
                  have z2 : (ps.all fun q => decide (q.1 ∈ ns) && decide (q.2 ∈ ns)) = false := by
                    refine Bool.eq_false_iff.mpr fun y => ?_
                    have := List.all_eq_true.mp y q (List.mem_of_getElem? hq)
                    rw [z] at this
                    cases this
                  rw [z2, Bool.and_false, Bool.and_false]
                refine ⟨t, _, rfl, s3.tup (t3 i t q ht hq), rfl, _, _, rfl, _, _, rfl, rfl, _, rfl, _, rfl, _, _, rfl, .inl hS3, rfl, flatS ns, _, rfl, ?_⟩
                show if (!inV (V.str q.1) (ns.map V.str)) = true then _ else _
                rw [inVS]
                by_cases m1 : q.1 ∈ ns
                · rw [decide_eq_true m1]
                  refine iteF ⟨_, rfl, _, rfl, _, _, rfl, .inl hS3, rfl, flatS ns, _, rfl, ?_⟩
                  show if (!inV (V.str q.2) (ns.map V.str)) = true then _ else _
                  rw [inVS]
                  by_cases m2 : q.2 ∈ ns
                  · rw [decide_eq_true m2]
                    refine iteF ⟨_, _, rfl, s3, ?_⟩
                    rw [List.take_succ, hq, List.all_append, al]
                    show (true && ((decide (q.1 ∈ ns) && decide (q.2 ∈ ns)) && true)) = true
                    rw [decide_eq_true m1, decide_eq_true m2]
                    rfl
                  · rw [decide_eq_false m2]
                    exact iteT (badq (by rw [decide_eq_false m2, Bool.and_false]))
                · rw [decide_eq_false m1]
                  exact iteT (badq (by rw [decide_eq_false m1, Bool.false_and]))
              · rintro σ H3 ⟨v3, v4, rfl, s3, al⟩
                rw [List.length_map, t2, List.take_of_length_le (Nat.le_refl _)] at al
                refine k H3 (sm.trans s3) ?_
                unfold okOrd
                rw [decide_eq_true h1, decide_eq_true h2, decide_eq_true nd, e, al]
                rfl
      · rw [decide_eq_false h2]
        exact iteT (bad H (Same.refl _) fun z => by rw [decide_eq_false h2, Bool.and_false] at z; cases z)
    · have h1 : ¬ 1 ≤ ns.length := fun z => c1 (decide_eq_true (by rw [hl]; omega))
      refine ⟨_, rfl, iteT (bad H (Same.refl _) fun z => by rw [decide_eq_false h1] at z; cases z)⟩
/-! ### the masks below -/
theorem ixN_nat {n i : Nat} (h : i < n) : ixN n ((i : Nat) : Int) = some i := by
  unfold ixN
  rw [if_pos (by omega), if_pos (by omega)]
  exact congrArg some (by omega)
theorem _root_.L2.Same.put {H H' : Hp} {p : Addr} {o : HO} (s : Same H H') (h : H p = none) : Same H (upd H' p o) := sput s h
theorem firstS {ns : List Str} (nd : ns.Nodup) {j : Nat} {s : Str} (h : ns[j]? = some s) : ∀ (m : Nat) (z : V), m < j → (ns.map V.str)[m]? = some z → eqV z (.str s) = false := by
  intro m z hm hz
  rw [List.getElem?_map] at hz
  obtain ⟨y, e, rfl⟩ := Option.map_eq_some_iff.mp hz
  show (y == s) = false
  refine beq_eq_false_iff_ne.mpr fun q => ?_
  subst q
  obtain ⟨h1, e1⟩ := List.getElem?_eq_some_iff.mp h
  obtain ⟨h2, e2⟩ := List.getElem?_eq_some_iff.mp e
  have := (List.getElem_inj nd).mp (e1.trans e2.symm)
  omega
theorem eqS (s : Str) : eqV (V.str s) (.str s) = true := by
  show (s == s) = true
  exact beq_self_eq_true s
theorem mapS {ns : List Str} {j : Nat} {s : Str} (h : ns[j]? = some s) : (ns.map V.str)[j]? = some (V.str s) := by
  rw [List.getElem?_map, h]
  rfl
def nmP (ns : List Str) (w : Nat × Nat) : Str × Str := (ns.getD w.1 "", ns.getD w.2 "")
theorem nm_at {ns : List Str} {i : Nat} (h : i < ns.length) : ns[i]? = some (ns.getD i "") := by
  rw [List.getD_eq_getElem?_getD, List.getElem?_eq_getElem h]
  rfl
/-- the row of masks after the middles below c -/
def belV (n : Nat) (ws : List (Nat × Nat)) (c : Nat) : Nat → V := fun b => .int ((bel n ws c b : Nat) : Int)
def sp_masks_below (K : PySem.W.Frag) : Sp := fun vs H Q _ => ∃ (a p : Addr) (ns : List Str) (ws : List (Nat × Nat)), vs = [.ref a, .ref p] ∧ SqL K H a (ns.map V.str) ∧ ns.Nodup ∧ ns.length ≤ 1000 ∧ PairsS K H p (ws.map (nmP ns)) ∧ (∀ w ∈ ws, w.1 < ns.length ∧ w.2 < ns.length) ∧
  ∀ D H', H D = none → Same H H' → H' D = some (.lst (rgl ns.length (belV ns.length ws ns.length))) → Q (.ref D) H'
theorem sc_masks_below : FnScope ["names", "pairs", "below", "lower", "upper", "middle", "place"] ["names", "pairs"] (defScope s_masks_below) := ⟨rfl, rfl, rfl, by decide +kernel, rfl, by decide +kernel, by decide +kernel⟩
theorem ok_masks_below (Z : Ctx K mg)  : Ok P w K mg base (3) (ga K "masks_below") ["names", "pairs"] (sp_masks_below K) := by
  refine ok_of (fd_masks_below Z) sc_masks_below (fun vs H Q E h => ?_) (fun _ _ _ _ _ _ us hl => match us, hl with | [_, _], _ => rfl) (fun cdv A outer s H vs Q E hr h => ?_)
  · obtain ⟨_, _, _, _, rfl, _⟩ := h
    rfl
  · obtain ⟨a, p, ns, ws, rfl, hS, nd, hz, hp, hw, k⟩ := h
    refine ⟨_, (pss_cons (ps_setLc (i := 2) (own := [("place", 6)]) (g := gName 6) (tt := tYes) rfl sc_masks_below.nd rfl rfl (sw_true rfl rfl rfl (by decide +kernel)) (pi_range1 (by rfl) (f_range Z) (pa_cons (pe_callB lenQ (by rfl) (f_len Z) boot_len (pa_cons (pv 0) pa_nil)) pa_nil)) (blkOk_by (N := ["names", "pairs", "below", "lower", "upper", "middle", "place"]) (sc := defScope s_masks_below) (by decide +kernel)) (fun _ _ _ _ _ => (pg_n 6 sc_masks_below.nd)) (fun _ _ _ _ _ => pts_nil) (fun _ _ _ _ _ => (pe_op op_shl pe_int (pv 6))))
      (pss_cons (ps_for (passes_of rfl) rfl (listI (pv 1)) (Lc2.tupG (by rfl) (pgs_cons (pg_n 3 sc_masks_below.nd) (pgs_cons (pg_n 4 sc_masks_below.nd) pgs_nil))) (pss_one (ps_augS (pv 2) (bmQ PySem.F.plainAttrs_list PySem.F.slot_list_index PySem.F.type_list_index mtIx (pv 0) (pa_cons (pv 4) pa_nil)) Au.get_ix (pe_op op_shl pe_int (bmQ PySem.F.plainAttrs_list PySem.F.slot_list_index PySem.F.type_list_index mtIx (pv 0) (pa_cons (pv 3) pa_nil))) Au.ip_or set_list)))
      (pss_cons (ps_for (passes_of rfl) rfl (pi_range1 (by rfl) (f_range Z) (pa_cons (pe_callB lenQ (by rfl) (f_len Z) boot_len (pa_cons (pv 0) pa_nil)) pa_nil)) (pg_n 5 sc_masks_below.nd) (pss_one (ps_for (passes_of rfl) rfl (pi_range1 (by rfl) (f_range Z) (pa_cons (pe_callB lenQ (by rfl) (f_len Z) boot_len (pa_cons (pv 0) pa_nil)) pa_nil)) (pg_n 6 sc_masks_below.nd) (pss_one (ps_if (pt_val (pe_cO (ok_has_place Z) (hr.mono (by decide)) (g_has_place Z) (passes_call (takes_of rfl rfl rfl rfl) (fun _ _ _ _ h => h)) (pa_cons (pe_ix ixL (pv 2) (pv 6) (fun _ _ => rfl)) (pa_cons (pv 5) pa_nil)))) (pss_one (ps_augS (pv 2) (pv 6) Au.get_ix (pe_ix ixL (pv 2) (pv 5) (fun _ _ => rfl)) Au.ip_or set_list)) pss_nil)))))
      (pss_one (ps_ret (pv 2)))))), ?_⟩
    have hl : (ns.map V.str).length = ns.length := List.length_map ..
    refine ⟨_, rfl, a, _, rfl, .inl hS, _, rfl, by omega, by omega, fun D hD => ?_⟩
    rw [hl, Int.toNat_natCast]
    refine walk_r (lo := 0) (n := ns.length) (fun i H2 => Same H H2 ∧ H2 D = some (.lst (rgl i (belV ns.length [] 0)))) ⟨sn hD, upd_same⟩ ?_ ?_
    · rintro i H2 hi ⟨sm, hd⟩
      have e0 : (0 : Int) + (i : Nat) = (i : Nat) := by omega
      rw [e0]
      refine ⟨rfl, _, rfl, _, _, rfl, rfl, ⟨by omega, by omega, by decide⟩, _, hd, small_k2 (by rw [rgl_len]; omega), sput sm hD, ?_⟩
      rw [upd_same, rgl_succ]
      have e : V.int ((1 : Int) * 2 ^ ((i : Nat) : Int).toNat) = belV ns.length [] 0 i := by
        unfold belV
        rw [shl1, bel_zero hi]
      exact congrArg (fun z => some (HO.lst (rgl i (belV ns.length [] 0) ++ [z]))) e
    rintro H2 ⟨sm2, hd2⟩
    obtain ⟨ts, t1, t2, t3⟩ := hp
    refine ⟨_, rfl, p, rfl, ⟨_, sm2.seq t1⟩, ?_⟩
    refine for_list (K := K) (a := p) (xs := ts.map V.ref) (fun i σ H3 => ∃ v3 v4 : Option V, σ = [some (.ref a), some (.ref p), some (.ref D), v3, v4, none, none] ∧ Same H H3 ∧ H3 D = some (.lst (rgl ns.length (belV ns.length (ws.take i) 0)))) ⟨none, none, rfl, sm2, hd2⟩ (fun i σ H3 _ ⟨_, _, _, s3, _⟩ => s3.seq t1) ?_ ?_
    · rintro i x σ H3 hxi ⟨v3, v4, rfl, s3, hd⟩
      rw [List.getElem?_map] at hxi
      obtain ⟨t, ht, rfl⟩ := Option.map_eq_some_iff.mp hxi
      have hi : i < ws.length := by
        have := (List.getElem?_eq_some_iff.mp ht).1
        rw [List.length_map] at t2
        omega
      obtain ⟨q, hq⟩ : ∃ q, ws[i]? = some q := ⟨ws[i], List.getElem?_eq_getElem hi⟩
      obtain ⟨q1, q2⟩ := hw q (List.mem_of_getElem? hq)
      have hS3 := s3.seq hS
      refine ⟨t, _, rfl, s3.tup (t3 i t (nmP ns q) ht (by rw [List.getElem?_map, hq]; rfl)), rfl, _, _, rfl, _, _, rfl, rfl, ?_⟩
      refine ⟨_, rfl, _, rfl, .inl ⟨rfl, _, hS3⟩, _, rfl, a, _, _, q.2, .str (ns.getD q.2 ""), rfl, rfl, hS3, rfl, flatS ns, mapS (nm_at q2), eqS _, firstS nd (nm_at q2), ?_⟩
      refine ⟨D, _, _, _, rfl, rfl, by omega, by omega, SqL.of hd, rgl_at (by omega), ?_⟩
      refine ⟨_, rfl, .inl ⟨rfl, _, hS3⟩, _, rfl, a, _, _, q.1, .str (ns.getD q.1 ""), rfl, rfl, hS3, rfl, flatS ns, mapS (nm_at q1), eqS _, firstS nd (nm_at q1), _, _, rfl, rfl, ⟨by omega, by omega, by decide⟩, _, _, rfl, rfl, ?_⟩
      refine ⟨D, _, _, q.2, rfl, rfl, hd, ixN_nat (by rw [rgl_len]; exact q2), _, _, rfl, s3.put hD, ?_⟩
      rw [upd_same, rgl_set]
      refine congrArg (fun z => some (HO.lst z)) (rgl_congr fun b hb => ?_)
      have e : V.int (Builtin.bitOr ((bel ns.length (ws.take i) 0 q.2 : Nat) : Int) ((1 : Int) * 2 ^ ((q.1 : Nat) : Int).toNat)) = V.int ((bel ns.length (ws.take i) 0 q.2 ||| 2 ^ q.1 : Nat) : Int) := by
        rw [shl1, bor]
      have et : ws.take (i + 1) = ws.take i ++ [(q.1, q.2)] := by
        rw [List.take_succ, hq]
        rfl
      show (if b = q.2 then V.int (Builtin.bitOr ((bel ns.length (ws.take i) 0 q.2 : Nat) : Int) ((1 : Int) * 2 ^ ((q.1 : Nat) : Int).toNat)) else belV ns.length (ws.take i) 0 b) = belV ns.length (ws.take (i + 1)) 0 b
      rw [e, et]
      unfold belV
      rw [← bel_put q1 b]
      by_cases z : b = q.2
      · subst z
        rw [if_pos rfl, if_pos rfl]
      · rw [if_neg z, if_neg z]
    rintro σ H3 ⟨v3, v4, rfl, s3, hd3⟩
    rw [List.length_map, t2, List.length_map, List.take_of_length_le (Nat.le_refl _)] at hd3
    have hS3 := s3.seq hS
    refine ⟨_, rfl, a, _, rfl, .inl hS3, _, rfl, by omega, by omega, ?_⟩
    rw [hl, Int.toNat_natCast]
    refine for_range (lo := 0) (n := ns.length) (fun c σ H4 => ∃ w3 w4 w5 w6 : Option V, σ = [some (.ref a), some (.ref p), some (.ref D), w3, w4, w5, w6] ∧ Same H H4 ∧ H4 D = some (.lst (rgl ns.length (belV ns.length ws c)))) ⟨_, _, _, _, rfl, s3, hd3⟩ ?_ ?_
    · rintro c σ H4 hc ⟨w3, w4, w5, w6, rfl, s4, hd4⟩
      have hS4 := s4.seq hS
      refine ⟨_, rfl, a, _, rfl, .inl hS4, _, rfl, by omega, by omega, ?_⟩
      rw [hl, Int.toNat_natCast]
      have e0 : ∀ i : Nat, (0 : Int) + (i : Nat) = (i : Nat) := fun i => by omega
      rw [e0]
      refine for_range (lo := 0) (n := ns.length) (fun j σ H5 => ∃ w6 : Option V, σ = [some (.ref a), some (.ref p), some (.ref D), w3, w4, some (.int (c : Nat)), w6] ∧ Same H H5 ∧ H5 D = some (.lst (rgl ns.length fun b => if b < j then belV ns.length ws (c + 1) b else belV ns.length ws c b))) ⟨_, rfl, s4, by rw [hd4]; exact congrArg (fun z => some (HO.lst z)) (rgl_congr fun b _ => (if_neg (Nat.not_lt_zero b)).symm)⟩ ?_ ?_
      · rintro j σ H5 hj ⟨w6, rfl, s5, hd5⟩
        rw [e0]
        have at1 : rgl ns.length (fun b => if b < j then belV ns.length ws (c + 1) b else belV ns.length ws c b) = rgl ns.length (fun b => if b < j then belV ns.length ws (c + 1) b else belV ns.length ws c b) := rfl
        have aj : (rgl ns.length fun b => if b < j then belV ns.length ws (c + 1) b else belV ns.length ws c b)[j]? = some (V.int ((bel ns.length ws c j : Nat) : Int)) := by
          rw [rgl_at hj, if_neg (Nat.lt_irrefl j)]
          rfl
        have ac : (rgl ns.length fun b => if b < j then belV ns.length ws (c + 1) b else belV ns.length ws c b)[c]? = some (V.int ((bel ns.length ws c c : Nat) : Int)) := by
          rw [rgl_at hc]
          by_cases z : c < j
          · rw [if_pos z]
            unfold belV
            rw [bel_mid]
          · rw [if_neg z]
            rfl
        have nxt : ∀ H6, H6 = H5 ∨ True → True := fun _ _ => trivial
        have done : ∀ f : Nat → V, (f j = belV ns.length ws (c + 1) j) → (∀ b, b ≠ j → f b = if b < j then belV ns.length ws (c + 1) b else belV ns.length ws c b) → rgl ns.length f = rgl ns.length fun b => if b < j + 1 then belV ns.length ws (c + 1) b else belV ns.length ws c b := fun f h1 h2 => rgl_congr fun b _ => by
          by_cases z : b = j
          · subst z
            rw [if_pos (Nat.lt_succ_self _), h1]
          · rw [h2 b z]
            by_cases y : b < j
            · rw [if_pos y, if_pos (by omega)]
            · rw [if_neg y, if_neg (by omega)]
        refine ⟨_, rfl, _, rfl, D, _, _, _, rfl, rfl, SqL.of hd5, at_of (j := j) (by omega) aj, _, rfl, _, _, rfl, _, rfl, ite2 (fun t => ?_) (fun t => ?_)⟩
        · have tc : clo ws c c j = true := by
            rw [bel_has hc] at t
            exact t
          refine ⟨_, rfl, _, rfl, D, _, _, _, rfl, rfl, by omega, by omega, SqL.of hd5, aj, ?_⟩
          refine ⟨_, rfl, _, rfl, D, _, _, _, rfl, rfl, SqL.of hd5, at_of (j := c) (by omega) ac, _, _, rfl, rfl, ?_⟩
          refine ⟨D, _, _, j, rfl, rfl, hd5, ixN_nat (by rw [rgl_len]; exact hj), _, rfl, s5.put hD, ?_⟩
          rw [upd_same, rgl_set]
          refine congrArg (fun z => some (HO.lst z)) (done _ ?_ fun b hb => ?_)
          · show (if j = j then V.int (Builtin.bitOr ((bel ns.length ws c j : Nat) : Int) ((bel ns.length ws c c : Nat) : Int)) else _) = _
            rw [if_pos rfl, bor, bel_step tc]
            rfl
          · exact if_neg hb
        · have tc : clo ws c c j = false := by
            rw [bel_has hc] at t
            exact Bool.eq_false_iff.mpr t
          refine ⟨_, rfl, s5, ?_⟩
          rw [hd5]
          refine congrArg (fun z => some (HO.lst z)) (done _ ?_ fun b _ => rfl)
          show (if j < j then _ else belV ns.length ws c j) = _
          rw [if_neg (Nat.lt_irrefl j)]
          unfold belV
          rw [bel_same tc]
      · rintro σ H5 ⟨w6, rfl, s5, hd5⟩
        refine ⟨_, _, _, _, rfl, s5, ?_⟩
        rw [hd5]
        exact congrArg (fun z => some (HO.lst z)) (rgl_congr fun b hb => if_pos hb)
    · rintro σ H4 ⟨w3, w4, w5, w6, rfl, s4, hd4⟩
      exact ⟨_, rfl, k D H4 hD s4 hd4⟩
end
end Lk02

set_option maxHeartbeats 4000000
namespace Lk02
open PySem PySem.Spec PyProof.Rows L2 He HkS Bs Clo Lc2
theorem sum_le {l : List Nat} {b : Nat} (h : ∀ x ∈ l, x ≤ b) : l.sum ≤ l.length * b := by
  induction l with
  | nil => exact Nat.zero_le _
  | cons x r ih =>
    have h1 := h x List.mem_cons_self
    have h2 := ih fun y hy => h y (List.mem_cons_of_mem _ hy)
    rw [List.sum_cons, List.length_cons, Nat.add_mul]
    omega
theorem emp_app (a : Str) : Str.empty ++ a = a := by
  show (⟨#[] ++ a.cps⟩ : Str) = a
  rw [Array.empty_append]
theorem app_len (a b : Str) : (a ++ b).length = a.length + b.length := by
  show (a.cps ++ b.cps).size = _
  rw [Array.size_append]
  rfl
def flatP (ps : List (Str × Str)) : List Str := ps.flatMap fun q => [q.1, q.2]
def orderLabel (word : Str) (ns : List Str) (ps : List (Str × Str)) : Str := Str.ofString "(" ++ word ++ Str.ofString " (" ++ Txt.join (Str.ofString " ") ns ++ Str.ofString ") (" ++ Txt.join (Str.ofString " ") (flatP ps) ++ Str.ofString "))"
theorem flat_len : ∀ ps : List (Str × Str), (flatP ps).length = 2 * ps.length
  | [] => rfl
  | q :: r => by
    show ([q.1, q.2] ++ flatP r).length = 2 * (r.length + 1)
    rw [List.length_append, flat_len r]
    show 2 + 2 * r.length = _
    omega
theorem flat_snoc (ps : List (Str × Str)) (q : Str × Str) : flatP (ps ++ [q]) = flatP ps ++ [q.1] ++ [q.2] := by
  unfold flatP
  rw [List.flatMap_append, List.append_assoc]
  rfl
theorem join_le {b : Nat} {ys : List Str} (h : ∀ y ∈ ys, y.length ≤ b) : (ys.map (·.length)).sum + ys.length * (Str.ofString " ").length ≤ ys.length * (b + 1) := by
  have h1 : (ys.map (·.length)).sum ≤ (ys.map (·.length)).length * b := sum_le fun x hx => by
    obtain ⟨y, hy, rfl⟩ := List.mem_map.mp hx
    exact h y hy
  have e : (Str.ofString " ").length = 1 := by decide +kernel
  rw [List.length_map] at h1
  rw [e, Nat.mul_add]
  omega
theorem joinT_le (ys : List Str) : (Txt.join (Str.ofString " ") ys).length ≤ (ys.map (·.length)).sum + ys.length * (Str.ofString " ").length := by
  show (Builtin.Str.glued (Str.ofString " ") ys).length ≤ _
  rw [StrLaws.glued_eq_join]
  exact StrLaws.join_length_le (Str.ofString " ") ys
section
variable {P : Program} {w : World} {K : PySem.W.Frag} {mg : Str → Option Value} {base : Heap}
def sp_order_label (K : PySem.W.Frag) : Sp := fun vs H Q _ => ∃ (word : Str) (a p : Addr) (ns : List Str) (ps : List (Str × Str)), vs = [.str word, .ref a, .ref p] ∧ word.length ≤ 100 ∧ SqL K H a (ns.map V.str) ∧ ns.length ≤ 100 ∧ (∀ x ∈ ns, x.length ≤ 100) ∧ PairsS K H p ps ∧ ps.length ≤ 100 ∧ (∀ x ∈ flatP ps, x.length ≤ 100) ∧
  ∀ H', Same H H' → Q (.str (orderLabel word ns ps)) H'
theorem sc_order_label : FnScope ["word", "names", "pairs", "written", "paired", "pair", "name"] ["word", "names", "pairs"] (defScope s_order_label) := ⟨rfl, rfl, rfl, by decide +kernel, rfl, by decide +kernel, by decide +kernel⟩
theorem ok_order_label (Z : Ctx K mg)  : Ok P w K mg base (2) (ga K "order_label") ["word", "names", "pairs"] (sp_order_label K) := by
  refine ok_of (fd_order_label Z) sc_order_label (fun vs H Q E h => ?_) (fun _ _ _ _ _ _ us hl => match us, hl with | [_, _, _], _ => rfl) (fun cdv A outer s H vs Q E hr h => ?_)
  · obtain ⟨_, _, _, _, _, rfl, _⟩ := h
    rfl
  · obtain ⟨word, a, p, ns, ps, rfl, hwl, hS, hn, hx, hp, hpl, hpx, k⟩ := h
    refine ⟨_, (pss_cons (ps_s 3 sc_order_label.nd (joinQ pe_str (pv 1)))
      (pss_cons (ps_s 4 sc_order_label.nd (joinQ pe_str (pe_lc2 (own := [("pair", 5), ("name", 6)]) (vs1 := [6]) (g := gName 5) (g1 := gName 6) (tt := tYes) (tt1 := tYes) rfl sc_order_label.nd (listI (pv 2)) (blkOk_by (N := ["word", "names", "pairs", "written", "paired", "pair", "name"]) (sc := defScope s_order_label) (by decide +kernel)) (by decide) (fun _ _ _ _ _ => (pg_n 5 sc_order_label.nd)) (fun _ _ _ _ _ => pts_nil) (fun _ _ _ _ _ => (Lc2.tupI (pv 5))) (fun _ _ _ _ _ => (pg_n 6 sc_order_label.nd)) (fun _ _ _ _ _ => pts_nil) (fun _ _ _ _ _ => (pv 6)))))
      (pss_one (ps_ret (pe_joined (.cons pe_str (.cons (pe_fmt (pv 0)) (.cons pe_str (.cons (pe_fmt (pv 3)) (.cons pe_str (.cons (pe_fmt (pv 4)) (.cons pe_str .nil)))))))))))), ?_⟩
    have j1 := join_le hx
    have j2 := join_le hpx
    rw [flat_len] at j2
    refine ⟨⟨_, rfl⟩, _, rfl, _, _, ns, rfl, rfl, .inl hS, by omega, ?_⟩
    obtain ⟨ts, t1, t2, t3⟩ := hp
    refine ⟨⟨_, rfl⟩, _, rfl, p, rfl, ⟨_, t1⟩, fun D hD => ?_⟩
    refine walk_l (K := K) (a := p) (xs := ts.map V.ref) (fun i H2 => Same H H2 ∧ H2 D = some (.lst ((flatP (ps.take i)).map V.str))) ⟨sn hD, upd_same⟩ (fun i H2 _ ⟨sm, _⟩ => sm.seq t1) ?_ ?_
    · rintro i x H2 hxi ⟨sm, hd⟩
      rw [List.getElem?_map] at hxi
      obtain ⟨t, ht, rfl⟩ := Option.map_eq_some_iff.mp hxi
      have hi : i < ps.length := by
        rw [← t2]
        exact (List.getElem?_eq_some_iff.mp ht).1
      obtain ⟨q, hq⟩ : ∃ q, ps[i]? = some q := ⟨ps[i], List.getElem?_eq_getElem hi⟩
      have tq := t3 i t q ht hq
      have li : (flatP (ps.take i)).length ≤ 200 := by
        rw [flat_len, List.length_take]
        omega
      refine ⟨rfl, _, rfl, t, rfl, ⟨_, sm.tup tq⟩, ?_⟩
      refine walk_t (K := K) (a := t) (xs := [.str q.1, .str q.2]) (fun j H3 => Same H H3 ∧ H3 D = some (.lst ((flatP (ps.take i) ++ [q.1, q.2].take j).map V.str))) ⟨sm, by rw [hd]; simp⟩ (fun j H3 _ ⟨s3, _⟩ => s3.tup tq) ?_ ?_
      · rintro j x H3 hxj ⟨s3, hd3⟩
        refine ⟨rfl, _, rfl, _, hd3, small_k2 (by rw [List.length_map, List.length_append, List.length_take]; have : ([q.1, q.2] : List Str).length = 2 := rfl; omega), s3.put hD, ?_⟩
        rw [upd_same]
        match j, hxj with
        | 0, hxj => cases hxj; simp
        | 1, hxj => cases hxj; simp
        | j + 2, hxj => simp at hxj
      · rintro H3 ⟨s3, hd3⟩
        refine ⟨s3, ?_⟩
        rw [hd3, List.take_succ, hq]
        show _ = some (HO.lst ((flatP (ps.take i ++ [q])).map V.str))
        rw [flat_snoc, List.append_assoc]
        rfl
    rintro H2 ⟨sm, hd⟩
    rw [List.length_map, t2, List.take_of_length_le (Nat.le_refl _)] at hd
    have l1 : (Txt.join (Str.ofString " ") ns).length ≤ 10100 := by
      have h := joinT_le ns
      omega
    have l2 : (Txt.join (Str.ofString " ") (flatP ps)).length ≤ 20200 := by
      have h := joinT_le (flatP ps)
      rw [flat_len] at h
      omega
    refine ⟨_, _, flatP ps, rfl, rfl, .inl (SqL.of hd), by rw [flat_len]; omega, ?_⟩
    have w1 : (Str.ofString "(").length ≤ 10 := by decide +kernel
    have w2 : (Str.ofString " (").length ≤ 10 := by decide +kernel
    have w3 : (Str.ofString ") (").length ≤ 10 := by decide +kernel
    have w4 : (Str.ofString "))").length ≤ 10 := by decide +kernel
    have w0 : Str.empty.length = 0 := rfl
    refine ⟨_, rfl, ?_, _, rfl, .inl ⟨_, rfl, ?_, _, rfl, ?_, _, rfl, ?_, _, rfl, .inl ⟨_, rfl, ?_, _, rfl, ?_, _, rfl, ?_, _, rfl, .inl ⟨_, rfl, ?_, _, rfl, ?_, _, rfl, ?_, ?_⟩⟩⟩⟩
    all_goals first
      | (refine small_k ?_; omega)
      | (refine small_k ?_; simp only [app_len]; omega)
      | (rw [emp_app]; exact k H2 sm)
end
end Lk02

set_option maxHeartbeats 4000000
namespace Lk02
open PySem PySem.Spec PyProof.Rows L2 He HkS Bs Clo Lc2
/-- a row of masks -/
def natV (B : Nat → Nat) : Nat → V := fun b => .int ((B b : Nat) : Int)
theorem filt_succ (p : Nat → Bool) (i : Nat) : (List.range (i + 1)).filter p = (List.range i).filter p ++ (if p i = true then [i] else []) := by
  rw [List.range_succ, List.filter_append]
  cases h : p i <;> simp [h]
theorem filt_len (p : Nat → Bool) (i : Nat) : ((List.range i).filter p).length ≤ i := by
  have h := List.length_filter_le p (List.range i)
  rw [List.length_range] at h
  exact h
/-- the pairs by places -/
def wsOf (ns : List Str) (ps : List (Str × Str)) : List (Nat × Nat) := ps.map fun q => (ns.idxOf q.1, ns.idxOf q.2)
theorem nm_idx {ns : List Str} {x : Str} (h : x ∈ ns) : ns.getD (ns.idxOf x) "" = x := by
  have lt := List.idxOf_lt_length_of_mem h
  rw [List.getD_eq_getElem?_getD, List.getElem?_eq_getElem lt, List.getElem_idxOf]
  rfl
theorem ws_back {ns : List Str} {ps : List (Str × Str)} (h : (ps.all fun q => decide (q.1 ∈ ns) && decide (q.2 ∈ ns)) = true) : (wsOf ns ps).map (nmP ns) = ps ∧ ∀ w ∈ wsOf ns ps, w.1 < ns.length ∧ w.2 < ns.length := by
  have h2 : ∀ q ∈ ps, q.1 ∈ ns ∧ q.2 ∈ ns := fun q hq => by
    obtain ⟨a, b⟩ := ba (List.all_eq_true.mp h q hq)
    exact ⟨of_decide_eq_true a, of_decide_eq_true b⟩
  refine ⟨?_, fun w hw => ?_⟩
  · unfold wsOf
    rw [List.map_map]
    conv => rhs; rw [← List.map_id ps]
    refine List.map_congr_left fun q hq => ?_
    obtain ⟨a, b⟩ := h2 q hq
    show (ns.getD (ns.idxOf q.1) "", ns.getD (ns.idxOf q.2) "") = q
    rw [nm_idx a, nm_idx b]
  · obtain ⟨q, hq, rfl⟩ := List.mem_map.mp hw
    obtain ⟨a, b⟩ := h2 q hq
    exact ⟨List.idxOf_lt_length_of_mem a, List.idxOf_lt_length_of_mem b⟩
/-- the masks below, as numbers -/
def belI (n : Nat) (ws : List (Nat × Nat)) : List Int := (List.range n).map fun b => ((bel n ws n b : Nat) : Int)
theorem belI_is (n : Nat) (ws : List (Nat × Nat)) : rgl n (belV n ws n) = (belI n ws).map V.int := by
  unfold belI rgl
  rw [List.map_map]
  rfl
theorem belI_len (n : Nat) (ws : List (Nat × Nat)) : (belI n ws).length = n := by
  unfold belI
  rw [List.length_map, List.length_range]
section
variable {P : Program} {w : World} {K : PySem.W.Frag} {mg : Str → Option Value} {base : Heap}
/-! ### what every lattice has -/
/-- all but p as it was -/
def Off (p : Addr) (H H' : Hp) : Prop := ∀ b o, H b = some o → b ≠ p → H' b = some o
theorem Off.of {p : Addr} {H H' : Hp} (s : Same H H') : Off p H H' := fun b o e _ => s b o e
theorem Off.trans {p : Addr} {H H1 H2 : Hp} (a : Off p H H1) (b : Off p H1 H2) : Off p H H2 := fun c o h n => b c o (a c o h n) n
theorem Off.upd {p : Addr} {H H' : Hp} {o : HO} (s : Off p H H') : Off p H (upd H' p o) := fun b u e n => by
  rw [upd_ne n]
  exact s b u e n
theorem Off.seq {p : Addr} {H H' : Hp} {C dx a : Addr} {fs : List (Str × V)} {xs : List V} (s : Off p H H') (hp : H p = some (.ins C dx fs)) (h : SqL K H a xs) : SqL K H' a xs := by
  have ne : ∀ o, H a = some o → (∀ C dx fs, o ≠ .ins C dx fs) → a ≠ p := fun o e n z => by
    rw [z, hp] at e
    cases e
    exact n _ _ _ rfl
  rcases h with (h | ⟨o, h⟩) | h
  · exact .inl (.inl (s _ _ h (ne _ h fun _ _ _ z => nomatch z)))
  · exact .inl (.inr ⟨o, s _ _ h (ne _ h fun _ _ _ z => nomatch z)⟩)
  · exact .inr h
theorem Off.tup {p : Addr} {H H' : Hp} {C dx a : Addr} {fs : List (Str × V)} {xs : List V} (s : Off p H H') (hp : H p = some (.ins C dx fs)) (h : SqT K H a xs) : SqT K H' a xs := by
  have ne : ∀ o, H a = some o → (∀ C dx fs, o ≠ .ins C dx fs) → a ≠ p := fun o e n z => by
    rw [z, hp] at e
    cases e
    exact n _ _ _ rfl
  rcases h with (h | ⟨o, h⟩) | h
  · exact .inl (.inl (s _ _ h (ne _ h fun _ _ _ z => nomatch z)))
  · exact .inl (.inr ⟨o, s _ _ h (ne _ h fun _ _ _ z => nomatch z)⟩)
  · exact .inr h
theorem Off.pairs {p : Addr} {H H' : Hp} {C dx a : Addr} {fs : List (Str × V)} {ps : List (Str × Str)} (s : Off p H H') (hp : H p = some (.ins C dx fs)) (h : PairsS K H a ps) : PairsS K H' a ps := by
  obtain ⟨ts, h1, h2, h3⟩ := h
  exact ⟨ts, s.seq hp h1, h2, fun i t q a b => s.tup hp (h3 i t q a b)⟩
/-- the class at C stores a lattice's attributes -/
structure LatCls (K : PySem.W.Frag) (C : Addr) : Prop where
  cl : Cls K C
  l : NoAttr K C "label"
  s : NoAttr K C "size"
  b : NoAttr K C "bottom_at"
  t : NoAttr K C "top_at"
theorem upd_upd {H : Hp} {a : Addr} {o u : HO} : upd (upd H a o) a u = upd H a u := by
  funext b
  by_cases h : b = a
  · subst h
    rw [upd_same, upd_same]
  · rw [upd_ne h, upd_ne h, upd_ne h]
theorem putF_len (f : Str) (v : V) : ∀ l : List (Str × V), (putF f v l).length ≤ l.length + 1
  | [] => Nat.le_refl _
  | (g, x) :: r => by
    unfold putF
    split
    · show r.length + 1 ≤ r.length + 1 + 1
      omega
    · show (putF f v r).length + 1 ≤ r.length + 1 + 1
      have := putF_len f v r
      omega
def sp_Lattice___init__ (K : PySem.W.Frag) : Sp := fun vs H Q _ => ∃ (p : Addr) (lb n b t : V) (C dx : Addr) (fs : List (Str × V)), vs = [.ref p, lb, n, b, t] ∧ H p = some (.ins C dx fs) ∧ fs.length ≤ 900 ∧ LatCls K C ∧
  Q .non (upd H p (.ins C dx (putF "top_at" t (putF "bottom_at" b (putF "size" n (putF "label" lb fs))))))
theorem sc_Lattice___init__ : FnScope ["self", "label", "size", "bottom_at", "top_at"] ["self", "label", "size", "bottom_at", "top_at"] (defScope s_Lattice___init__) := ⟨rfl, rfl, rfl, by decide +kernel, rfl, by decide +kernel, by decide +kernel⟩
theorem ok_Lattice___init__ (Z : Ctx K mg)  : Ok P w K mg base (2) (ma K (ga K "Lattice") "__init__") ["self", "label", "size", "bottom_at", "top_at"] (sp_Lattice___init__ K) := by
  refine ok_of (fd_Lattice___init__ Z) sc_Lattice___init__ (fun vs H Q E h => ?_) (fun _ _ _ _ _ _ us hl => match us, hl with | [_, _, _, _, _], _ => rfl) (fun cdv A outer s H vs Q E hr h => ?_)
  · obtain ⟨_, _, _, _, _, _, _, _, rfl, _⟩ := h
    rfl
  · obtain ⟨p, lb, n, b, t, C, dx, fs, rfl, hp, hl, T, k⟩ := h
    refine ⟨_, (pss_cons (ps_fld (pv 0) (pv 1) rfl)
      (pss_cons (ps_fld (pv 0) (pv 2) rfl)
      (pss_cons (ps_fld (pv 0) (pv 3) rfl)
      (pss_one (ps_fld (pv 0) (pv 4) rfl))))), ?_⟩
    have l1 := putF_len "label" lb fs
    have l2 := putF_len "size" n (putF "label" lb fs)
    have l3 := putF_len "bottom_at" b (putF "size" n (putF "label" lb fs))
    refine ⟨_, rfl, _, rfl, p, C, dx, _, rfl, hp, T.cl, T.l, by omega, _, rfl, _, rfl, p, C, dx, _, rfl, upd_same, T.cl, T.s, by omega, ?_⟩
    rw [upd_upd]
    refine ⟨_, rfl, _, rfl, p, C, dx, _, rfl, upd_same, T.cl, T.b, by omega, ?_⟩
    rw [upd_upd]
    refine ⟨_, rfl, _, rfl, p, C, dx, _, rfl, upd_same, T.cl, T.t, by omega, ?_⟩
    rw [upd_upd]
    exact k
end
end Lk02

set_option maxHeartbeats 4000000
namespace Lk02
open PySem PySem.Spec PyProof.Rows L2 He HkS Bs Clo Lc2
/-- whether the mask m holds with each place all that lie within it -/
def isDownB (n : Nat) (B : Nat → Nat) (m : Nat) : Bool := ((List.range n).filter fun i => m.testBit i).all fun i => decide (m &&& B i = B i)
def setName (ns : List Str) (m : Nat) : Str := Str.ofString "{" ++ Txt.join (Str.ofString ",") (((List.range ns.length).filter fun i => m.testBit i).map fun i => ns.getD i "") ++ Str.ofString "}"
theorem join_leC {b : Nat} {ys : List Str} (h : ∀ y ∈ ys, y.length ≤ b) : (ys.map (·.length)).sum + ys.length * (Str.ofString ",").length ≤ ys.length * (b + 1) := by
  have e : (Str.ofString ",").length = (Str.ofString " ").length := by decide +kernel
  rw [e]
  exact join_le h
theorem joinTC_le (ys : List Str) : (Txt.join (Str.ofString ",") ys).length ≤ (ys.map (·.length)).sum + ys.length * (Str.ofString ",").length := by
  show (Builtin.Str.glued (Str.ofString ",") ys).length ≤ _
  rw [StrLaws.glued_eq_join]
  exact StrLaws.join_length_le (Str.ofString ",") ys
section
variable {P : Program} {w : World} {K : PySem.W.Frag} {mg : Str → Option Value} {base : Heap}
def sp__is_down (K : PySem.W.Frag) : Sp := fun vs H Q _ => ∃ (m : Nat) (l : Addr) (n : Nat) (B : Nat → Nat), vs = [.int (m : Nat), .ref l] ∧ SqL K H l (rgl n (natV B)) ∧ n ≤ 1000 ∧ ∀ H', Same H H' → Q (.bl (isDownB n B m)) H'
theorem sc__is_down : FnScope ["mask", "below", "place"] ["mask", "below"] (defScope s__is_down) := ⟨rfl, rfl, rfl, by decide +kernel, rfl, by decide +kernel, by decide +kernel⟩
theorem ok__is_down (Z : Ctx K mg)  : Ok P w K mg base (3) (ga K "_is_down") ["mask", "below"] (sp__is_down K) := by
  refine ok_of (fd__is_down Z) sc__is_down (fun vs H Q E h => ?_) (fun _ _ _ _ _ _ us hl => match us, hl with | [_, _], _ => rfl) (fun cdv A outer s H vs Q E hr h => ?_)
  · obtain ⟨_, _, _, _, rfl, _⟩ := h
    rfl
  · obtain ⟨m, l, n, B, rfl, hS, hn, k⟩ := h
    refine ⟨_, (pss_one (ps_ret (pe_callB (allQ rfl) (by rfl) (f_all Z) (by decide +kernel) (pa_cons (pe_lc (own := [("place", 2)]) (g := gName 2) rfl sc__is_down.nd (pi_range1 (by rfl) (f_range Z) (pa_cons (pe_callB lenQ (by rfl) (f_len Z) boot_len (pa_cons (pv 1) pa_nil)) pa_nil)) (blkOk_by (N := ["mask", "below", "place"]) (sc := defScope s__is_down) (by decide +kernel)) (fun _ _ _ _ _ => (pg_n 2 sc__is_down.nd)) (fun _ _ _ _ _ => (pts_one (pt_val (pe_cO (ok_has_place Z) (hr.mono (by decide)) (g_has_place Z) passL (pa_cons (pv 0) (pa_cons (pv 2) pa_nil)))))) (fun _ _ _ _ _ => (pe_cmpR op_eq (pe_op op_and (pv 0) (pe_ix ixL (pv 1) (pv 2) (fun _ _ => rfl))) (pe_ix ixL (pv 1) (pv 2) (fun _ _ => rfl)) (nomark _)))) pa_nil)))), ?_⟩
    refine ⟨_, rfl, l, _, rfl, .inl hS, _, rfl, by rw [rgl_len]; omega, by rw [rgl_len]; omega, fun D hD => ?_⟩
    rw [rgl_len, Int.toNat_natCast]
    refine walk_r (lo := 0) (n := n) (fun i H2 => Same H H2 ∧ H2 D = some (.lst ((((List.range i).filter fun i => m.testBit i).map fun i => decide (m &&& B i = B i)).map V.bl))) ⟨sn hD, upd_same⟩ ?_ ?_
    · rintro i H2 hi ⟨sm, hd⟩
      have e0 : (0 : Int) + (i : Nat) = (i : Nat) := by omega
      rw [e0]
      have at1 : atI (rgl n (natV B)) ((i : Nat) : Int) = some (V.int ((B i : Nat) : Int)) := rgl_atI hi
      have fl := filt_len (fun i => m.testBit i) i
      refine ⟨rfl, _, rfl, _, rfl, m, i, rfl, _, rfl, ite2 (fun t => ?_) (fun t => ?_)⟩
      · refine ⟨_, rfl, _, rfl, _, rfl, l, _, _, _, rfl, rfl, sm.seq hS, at1, _, _, rfl, rfl, _, rfl, _, rfl, l, _, _, _, rfl, rfl, sm.seq hS, at1, rfl, _, hd, small_k2 (by rw [List.length_map, List.length_map]; omega), sm.put hD, ?_⟩
        have e : decide (V.int (Builtin.bitAnd ((m : Nat) : Int) ((B i : Nat) : Int)) = V.int ((B i : Nat) : Int)) = decide (m &&& B i = B i) := by
          rw [band]
          exact decide_eq_decide.mpr ⟨fun z => by injection z with z; omega, fun z => by rw [z]⟩
        rw [upd_same, filt_succ, if_pos t, List.map_append, List.map_append]
        exact congrArg (fun z => some (HO.lst (_ ++ [V.bl z]))) e
      · refine ⟨sm, ?_⟩
        rw [hd, filt_succ, if_neg t, List.append_nil]
    · rintro H2 ⟨sm, hd⟩
      refine ⟨D, _, rfl, SqL.of hd, ?_⟩
      have q := k H2 sm
      unfold isDownB at q
      rw [List.all_map]
      exact q
def sp__set_name (K : PySem.W.Frag) : Sp := fun vs H Q _ => ∃ (m : Nat) (a : Addr) (ns : List Str), vs = [.int (m : Nat), .ref a] ∧ SqL K H a (ns.map V.str) ∧ ns.length ≤ 100 ∧ (∀ x ∈ ns, x.length ≤ 100) ∧ ∀ H', Same H H' → Q (.str (setName ns m)) H'
theorem sc__set_name : FnScope ["mask", "names", "place"] ["mask", "names"] (defScope s__set_name) := ⟨rfl, rfl, rfl, by decide +kernel, rfl, by decide +kernel, by decide +kernel⟩
theorem ok__set_name (Z : Ctx K mg)  : Ok P w K mg base (3) (ga K "_set_name") ["mask", "names"] (sp__set_name K) := by
  refine ok_of (fd__set_name Z) sc__set_name (fun vs H Q E h => ?_) (fun _ _ _ _ _ _ us hl => match us, hl with | [_, _], _ => rfl) (fun cdv A outer s H vs Q E hr h => ?_)
  · obtain ⟨_, _, _, rfl, _⟩ := h
    rfl
  · obtain ⟨m, a, ns, rfl, hS, hn, hx, k⟩ := h
    refine ⟨_, (pss_one (ps_ret (pe_op op_add_str (pe_op op_add_str pe_str (joinQ pe_str (pe_lc (own := [("place", 2)]) (g := gName 2) rfl sc__set_name.nd (pi_range1 (by rfl) (f_range Z) (pa_cons (pe_callB lenQ (by rfl) (f_len Z) boot_len (pa_cons (pv 1) pa_nil)) pa_nil)) (blkOk_by (N := ["mask", "names", "place"]) (sc := defScope s__set_name) (by decide +kernel)) (fun _ _ _ _ _ => (pg_n 2 sc__set_name.nd)) (fun _ _ _ _ _ => (pts_one (pt_val (pe_cO (ok_has_place Z) (hr.mono (by decide)) (g_has_place Z) passL (pa_cons (pv 0) (pa_cons (pv 2) pa_nil)))))) (fun _ _ _ _ _ => (pe_ix ixL (pv 1) (pv 2) (fun _ _ => rfl)))))) pe_str))), ?_⟩
    have hl : (ns.map V.str).length = ns.length := List.length_map ..
    refine ⟨⟨_, rfl⟩, _, rfl, a, _, rfl, .inl hS, _, rfl, by omega, by omega, fun D hD => ?_⟩
    rw [hl, Int.toNat_natCast]
    refine walk_r (lo := 0) (n := ns.length) (fun i H2 => Same H H2 ∧ H2 D = some (.lst ((((List.range i).filter fun i => m.testBit i).map fun i => ns.getD i "").map V.str))) ⟨sn hD, upd_same⟩ ?_ ?_
    · rintro i H2 hi ⟨sm, hd⟩
      have e0 : (0 : Int) + (i : Nat) = (i : Nat) := by omega
      rw [e0]
      have fl := filt_len (fun i => m.testBit i) i
      refine ⟨rfl, _, rfl, _, rfl, m, i, rfl, _, rfl, ite2 (fun t => ?_) (fun t => ?_)⟩
      · refine ⟨_, rfl, _, rfl, a, _, _, _, rfl, rfl, sm.seq hS, at_of (j := i) (by omega) (mapS (nm_at hi)), _, hd, small_k2 (by rw [List.length_map, List.length_map]; omega), sm.put hD, ?_⟩
        rw [upd_same, filt_succ, if_pos t, List.map_append, List.map_append]
        rfl
      · refine ⟨sm, ?_⟩
        rw [hd, filt_succ, if_neg t, List.append_nil]
    · rintro H2 ⟨sm, hd⟩
      have fl := filt_len (fun i => m.testBit i) ns.length
      have ll : (((List.range ns.length).filter fun i => m.testBit i).map fun i => ns.getD i "").length ≤ ns.length := by
        rw [List.length_map]
        exact fl
      have lx : ∀ y ∈ (((List.range ns.length).filter fun i => m.testBit i).map fun i => ns.getD i ""), y.length ≤ 100 := fun y hy => by
        obtain ⟨i, hi, rfl⟩ := List.mem_map.mp hy
        have lt := List.mem_range.mp (List.mem_filter.mp hi).1
        exact hx _ (List.mem_of_getElem? (nm_at lt))
      have j1 := join_leC lx
      have j2 := joinTC_le (((List.range ns.length).filter fun i => m.testBit i).map fun i => ns.getD i "")
      have hb : (((List.range ns.length).filter fun i => m.testBit i).map fun i => ns.getD i "").length * (100 + 1) ≤ 100 * 101 := Nat.mul_le_mul (by omega) (Nat.le_refl _)
      have w1 : (Str.ofString "{").length ≤ 10 := by decide +kernel
      have w2 : (Str.ofString "}").length ≤ 10 := by decide +kernel
      refine ⟨_, _, _, rfl, rfl, .inl (SqL.of hd), by omega, _, _, rfl, rfl, small_k (by omega), _, _, rfl, rfl, small_k (by rw [app_len]; omega), ?_⟩
      exact k H2 sm
end
end Lk02

set_option maxHeartbeats 8000000
namespace Lk02
open PySem PySem.Spec PyProof.Rows L2 He HkS Bs Clo Lc2
def downMasks (n : Nat) (ws : List (Nat × Nat)) : List Nat := (List.range (2 ^ n)).filter fun m => isDownB n (bel n ws n) m
def okDown (ns : List Str) (ps : List (Str × Str)) : Bool := okOrd ns ps 6 && decide (belI ns.length (wsOf ns ps)).Nodup
def DownFs (l1 l2 l3 : Addr) (lb : Str) (n : Int) : List (Str × V) := [("_below", .ref l1), ("_masks", .ref l2), ("_names", .ref l3), ("label", .str lb), ("size", .int n), ("bottom_at", .int 0), ("top_at", .int (n - 1))]
theorem put_down (l1 l2 l3 : Addr) (lb : Str) (n : Int) : putF "top_at" (.int (n - 1)) (putF "bottom_at" (.int 0) (putF "size" (.int n) (putF "label" (.str lb) (putF "_names" (.ref l3) (putF "_masks" (.ref l2) (putF "_below" (.ref l1) [])))))) = DownFs l1 l2 l3 lb n := by
  kernel_rfl
section
variable {P : Program} {w : World} {K : PySem.W.Frag} {mg : Str → Option Value} {base : Heap}
theorem lc_Down (Z : Ctx K mg) : LatCls K (ga K "DownLattice") := ⟨c_DownLattice Z, n_DownLattice_label Z, n_DownLattice_size Z, n_DownLattice_bottom_at Z, n_DownLattice_top_at Z⟩
def sp_down (K : PySem.W.Frag) : Sp := fun vs H Q E => ∃ (p dx a q : Addr) (ns : List Str) (ps : List (Str × Str)), vs = [.ref p, .ref a, .ref q] ∧ H p = some (.ins (ga K "DownLattice") dx []) ∧ SqL K H a (ns.map V.str) ∧ ns.length ≤ 100 ∧ (∀ x ∈ ns, x.length ≤ 100) ∧ PairsS K H q ps ∧ ps.length ≤ 100 ∧ (∀ x ∈ flatP ps, x.length ≤ 100) ∧
  (okDown ns ps = true → ∀ (l1 l2 l3 : Addr) (H' : Hp), Off p H H' → H l1 = none → H l2 = none → H l3 = none → l1 ≠ p → l2 ≠ p → l3 ≠ p →
    H' p = some (.ins (ga K "DownLattice") dx (DownFs l1 l2 l3 (orderLabel "downs" ns ps) ((downMasks ns.length (wsOf ns ps)).length : Nat))) → H' l1 = some (.lst ((belI ns.length (wsOf ns ps)).map V.int)) → H' l2 = some (.lst ((downMasks ns.length (wsOf ns ps)).map fun m => V.int (m : Nat))) →
    H' l3 = some (.lst (((downMasks ns.length (wsOf ns ps)).map (setName ns)).map V.str)) → Q .non H') ∧
  (okDown ns ps = false → ∀ H', Off p H H' → E (.ref (ga K "BadLattice")) none H')
theorem sc_DownLattice___init__ : FnScope ["self", "names", "pairs", "label", "mask"] ["self", "names", "pairs"] (defScope s_DownLattice___init__) := ⟨rfl, rfl, rfl, by decide +kernel, rfl, by decide +kernel, by decide +kernel⟩
theorem ok_DownLattice___init__ (Z : Ctx K mg)  (hP : P = PG) : Ok P w K mg base (4) (ma K (ga K "DownLattice") "__init__") ["self", "names", "pairs"] (sp_down K) := by
  refine ok_of (fd_DownLattice___init__ Z) sc_DownLattice___init__ (fun vs H Q E h => ?_) (fun _ _ _ _ _ _ us hl => match us, hl with | [_, _, _], _ => rfl) (fun cdv A outer s H vs Q E hr h => ?_)
  · obtain ⟨_, _, _, _, _, _, rfl, _⟩ := h
    rfl
  · subst hP
    obtain ⟨p, dx, a, q, ns, ps, rfl, hp, hS, hn, hx, hps, hpl, hpx, k, kE⟩ := h
    obtain ⟨_, h__MOST_MARKS⟩ := i__MOST_MARKS Z
    refine ⟨_, (pss_cons (ps_expr (pe_cO (ok_check_order Z rfl) (hr.mono (by decide)) (g_check_order Z) (passes_call (takes_of rfl rfl rfl rfl) (fun _ _ _ _ h => h)) (pa_cons (pv 1) (pa_cons (pv 2) (pa_cons (pe_glob (v := .int 6) (by rfl) h__MOST_MARKS ⟨_, rfl⟩) pa_nil)))))
      (pss_cons (ps_fld (pv 0) (pe_cO (ok_masks_below Z) (hr.mono (by decide)) (g_masks_below Z) (passes_call (takes_of rfl rfl rfl rfl) (fun _ _ _ _ h => h)) (pa_cons (pv 1) (pa_cons (pv 2) pa_nil))) rfl)
      (pss_cons (ps_if (pt_cmpR op_ne (SetS.pe_lenSetN (by rfl) (by rfl) (f_len Z) (by rfl) (f_set Z) (fldQ (pv 0))) (pe_callB lenQ (by rfl) (f_len Z) boot_len (pa_cons (pv 1) pa_nil)) (nomark _)) (pss_one (ps_raise rfl (takes_of rfl rfl rfl rfl) (ExS.pmk_e0 (xe_BadLattice Z) (g_BadLattice Z) (f_super Z) top_super hr))) pss_nil)
      (pss_cons (ps_fld (pv 0) (pe_lc (own := [("mask", 4)]) (g := gName 4) rfl sc_DownLattice___init__.nd (pi_range1 (by rfl) (f_range Z) (pa_cons (pe_op op_shl pe_int (pe_callB lenQ (by rfl) (f_len Z) boot_len (pa_cons (pv 1) pa_nil))) pa_nil)) (blkOk_by (N := ["self", "names", "pairs", "label", "mask"]) (sc := defScope s_DownLattice___init__) (by decide +kernel)) (fun _ _ _ _ _ => (pg_n 4 sc_DownLattice___init__.nd)) (fun _ _ _ _ _ => (pts_one (pt_val (pe_cO (ok__is_down Z) (hr.mono (by decide)) (g__is_down Z) passL (pa_cons (pv 4) (pa_cons (fldQ (pv 0)) pa_nil)))))) (fun _ _ _ _ _ => (pv 4))) rfl)
      (pss_cons (ps_fld (pv 0) (pe_lc (own := [("mask", 4)]) (g := gName 4) (tt := tYes) rfl sc_DownLattice___init__.nd (listI (fldQ (pv 0))) (blkOk_by (N := ["self", "names", "pairs", "label", "mask"]) (sc := defScope s_DownLattice___init__) (by decide +kernel)) (fun _ _ _ _ _ => (pg_n 4 sc_DownLattice___init__.nd)) (fun _ _ _ _ _ => pts_nil) (fun _ _ _ _ _ => (pe_cO (ok__set_name Z) (hr.mono (by decide)) (g__set_name Z) passL (pa_cons (pv 4) (pa_cons (pv 1) pa_nil))))) rfl)
      (pss_cons (ps_s 3 sc_DownLattice___init__.nd (pe_cO (ok_order_label Z) (hr.mono (by decide)) (g_order_label Z) (passes_call (takes_of rfl rfl rfl rfl) (fun _ _ _ _ h => h)) (pa_cons pe_str (pa_cons (pv 1) (pa_cons (pv 2) pa_nil)))))
      (pss_one (ps_expr (pe_clsO (cm_Lattice___init__ Z) (g_Lattice Z) (ok_Lattice___init__ Z) (hr.mono (by decide)) (passes_call (takes_of rfl rfl rfl rfl) (fun _ _ _ _ h => h)) (pa_cons (pv 0) (pa_cons (pv 3) (pa_cons (pe_callB lenQ (by rfl) (f_len Z) boot_len (pa_cons (fldQ (pv 0)) pa_nil)) (pa_cons pe_int (pa_cons (pe_op op_sub (pe_callB lenQ (by rfl) (f_len Z) boot_len (pa_cons (fldQ (pv 0)) pa_nil)) pe_int) pa_nil)))))))))))))), ?_⟩
    refine ⟨_, rfl, _, rfl, a, q, ns, ps, 6, rfl, hS, by omega, fun x m => Nat.le_trans (hx x m) (by decide), hps, fun H1 s1 ok => ?_, fun H1 s1 no => kE (by unfold okDown; rw [no]; rfl) H1 (Off.of s1)⟩
    obtain ⟨ok1, ok2⟩ := ba ok
    obtain ⟨ok3, ok4⟩ := ba ok1
    obtain ⟨ok5, ok6⟩ := ba ok2
    obtain ⟨ok7, ok8⟩ := ba ok6
    have h1 := of_decide_eq_true ok3
    have h6 : ns.length ≤ 6 := by
      have := of_decide_eq_true ok4
      omega
    have nd := of_decide_eq_true ok5
    obtain ⟨wb, wl⟩ := ws_back ok8
    generalize hws : wsOf ns ps = ws at *
    have hS1 := s1.seq hS
    refine ⟨_, rfl, _, rfl, a, q, ns, ws, rfl, hS1, nd, by omega, by rw [wb]; exact hps.same s1, wl, fun l1 H2 hl1 s2 hv1 => ?_⟩
    have hp2 := s2 _ _ (s1 _ _ hp)
    rw [belI_is] at hv1
    refine ⟨_, rfl, p, _, dx, _, rfl, hp2, c_DownLattice Z, n_DownLattice__below Z, (by show 0 < 1000; decide), ?_⟩
    have np1 : p ≠ l1 := fun z => by rw [← z, s1 _ _ hp] at hl1; cases hl1
    have o3 : Off p H (upd H2 p (.ins (ga K "DownLattice") dx (putF "_below" (.ref l1) []))) := (Off.of (s1.trans s2)).upd
    have hp3 : (upd H2 p (.ins (ga K "DownLattice") dx (putF "_below" (.ref l1) []))) p = some (.ins (ga K "DownLattice") dx (putF "_below" (.ref l1) [])) := upd_same
    have hv3 : (upd H2 p (.ins (ga K "DownLattice") dx (putF "_below" (.ref l1) []))) l1 = some (.lst ((belI ns.length ws).map V.int)) := (upd_ne (Ne.symm np1)).trans hv1
    generalize upd H2 p (.ins (ga K "DownLattice") dx (putF "_below" (.ref l1) [])) = H3 at o3 hp3 hv3 ⊢
    -- twins
    refine ⟨_, rfl, p, _, dx, _, _, rfl, hp3, c_DownLattice Z, n_DownLattice__below Z, (by kernel_rfl), l1, _, rfl, SqL.of hv3, by rw [belI_len]; omega, _, rfl, a, _, rfl, .inl (o3.seq hp hS), rfl, _, rfl, ite2 (fun c => ?_) (fun c => ?_)⟩
    · refine kE ?_ H3 o3
      unfold okDown
      rw [hws, ok]
      have : ¬ (belI ns.length ws).Nodup := fun z => by
        have e := (SetS.met_nodup _).mpr z
        rw [e, belI_len, List.length_map, decide_eq_true rfl] at c
        cases c
      rw [decide_eq_false this]
      rfl
    have nd2 : (belI ns.length ws).Nodup := Decidable.byContradiction fun z => c (by
      rw [List.length_map, decide_eq_false (fun y => z ((SetS.met_nodup _).mp (by rw [belI_len]; injection y with y; omega)))]
      rfl)
    have okk : okDown ns ps = true := by
      unfold okDown
      rw [hws, ok, decide_eq_true nd2]
      rfl
    replace k := k okk
    -- the masks
    have hl : (ns.map V.str).length = ns.length := List.length_map ..
    have p64 : 2 ^ ns.length ≤ 64 := Nat.le_trans (Nat.pow_le_pow_right (by decide) h6) (by decide)
    have e2 : (1 : Int) * 2 ^ (((ns.map V.str).length : Nat) : Int).toNat = ((2 ^ ns.length : Nat) : Int) := by rw [hl, shl1]
    have hb1 : -(2 ^ 62) ≤ (1 : Int) * 2 ^ (((ns.map V.str).length : Nat) : Int).toNat := by
      rw [e2]
      generalize 2 ^ ns.length = z at p64
      omega
    have hb2 : (1 : Int) * 2 ^ (((ns.map V.str).length : Nat) : Int).toNat < 2 ^ 62 := by
      rw [e2]
      generalize 2 ^ ns.length = z at p64
      omega
    have fresh3 : ∀ D, H3 D = none → H D = none ∧ D ≠ p := fun D hD => by
      have n : D ≠ p := fun z => by rw [z, hp3] at hD; cases hD
      refine ⟨?_, n⟩
      cases e : H D with
      | none => rfl
      | some o => rw [o3 _ _ e n] at hD; cases hD
    refine ⟨_, rfl, a, _, rfl, .inl (o3.seq hp hS), _, _, rfl, rfl, ⟨by omega, by omega, by decide⟩, _, rfl, hb1, hb2, fun D2 hD2 => ?_⟩
    obtain ⟨f2, np2⟩ := fresh3 D2 hD2
    rw [e2, Int.toNat_natCast]
    refine walk_r (lo := 0) (n := 2 ^ ns.length) (fun i H4 => Same H3 H4 ∧ H4 D2 = some (.lst (((List.range i).filter fun m => isDownB ns.length (bel ns.length ws ns.length) m).map fun m => V.int (m : Nat)))) ⟨sn hD2, upd_same⟩ ?_ ?_
    · rintro i H4 hi ⟨sm, hd⟩
      have e0 : (0 : Int) + (i : Nat) = (i : Nat) := by omega
      rw [e0]
      have hv4 := sm _ _ hv3
      rw [← belI_is] at hv4
      have fl := filt_len (fun m => isDownB ns.length (bel ns.length ws ns.length) m) i
      refine ⟨rfl, _, rfl, _, rfl, p, _, dx, _, _, rfl, sm _ _ hp3, c_DownLattice Z, n_DownLattice__below Z, (by kernel_rfl), i, l1, ns.length, bel ns.length ws ns.length, rfl, SqL.of hv4, by omega, fun H5 s5 => ⟨_, rfl, ite2 (fun t => ?_) (fun t => ?_)⟩⟩
      · refine ⟨_, rfl, _, s5 _ _ hd, small_k2 (by rw [List.length_map]; omega), (sm.trans s5).put hD2, ?_⟩
        rw [upd_same, filt_succ, if_pos t, List.map_append]
        rfl
      · refine ⟨sm.trans s5, ?_⟩
        rw [s5 _ _ hd, filt_succ, if_neg t, List.append_nil]
    rintro H4 ⟨sm4, hd4⟩
    have hp4 := sm4 _ _ hp3
    refine ⟨_, rfl, p, _, dx, _, rfl, hp4, c_DownLattice Z, n_DownLattice__masks Z, (by show 1 < 1000; decide), ?_⟩
    have o5 : Off p H (upd H4 p (.ins (ga K "DownLattice") dx (putF "_masks" (.ref D2) (putF "_below" (.ref l1) [])))) := (o3.trans (Off.of sm4)).upd
    have hp5 : (upd H4 p (.ins (ga K "DownLattice") dx (putF "_masks" (.ref D2) (putF "_below" (.ref l1) [])))) p = some (.ins (ga K "DownLattice") dx (putF "_masks" (.ref D2) (putF "_below" (.ref l1) []))) := upd_same
    have hv5 : (upd H4 p (.ins (ga K "DownLattice") dx (putF "_masks" (.ref D2) (putF "_below" (.ref l1) [])))) l1 = some (.lst ((belI ns.length ws).map V.int)) := (upd_ne (Ne.symm np1)).trans (sm4 _ _ hv3)
    have hm5 : (upd H4 p (.ins (ga K "DownLattice") dx (putF "_masks" (.ref D2) (putF "_below" (.ref l1) [])))) D2 = some (.lst ((downMasks ns.length ws).map fun m => V.int (m : Nat))) := (upd_ne np2).trans hd4
    generalize upd H4 p (.ins (ga K "DownLattice") dx (putF "_masks" (.ref D2) (putF "_below" (.ref l1) []))) = H5 at o5 hp5 hv5 hm5 ⊢
    have fresh5 : ∀ D, H5 D = none → H D = none ∧ D ≠ p := fun D hD => by
      have n : D ≠ p := fun z => by rw [z, hp5] at hD; cases hD
      refine ⟨?_, n⟩
      cases e : H D with
      | none => rfl
      | some o => rw [o5 _ _ e n] at hD; cases hD
    have ml : (downMasks ns.length ws).length ≤ 64 := Nat.le_trans (filt_len _ _) p64
    -- the names
    refine ⟨_, rfl, p, _, dx, _, _, rfl, hp5, c_DownLattice Z, n_DownLattice__masks Z, (by kernel_rfl), D2, rfl, ⟨_, SqL.of hm5⟩, fun D3 hD3 => ?_⟩
    obtain ⟨f3, np3⟩ := fresh5 D3 hD3
    refine walk_l (K := K) (a := D2) (xs := (downMasks ns.length ws).map fun m => V.int (m : Nat)) (fun i H6 => Same H5 H6 ∧ H6 D3 = some (.lst ((((downMasks ns.length ws).take i).map (setName ns)).map V.str))) ⟨sn hD3, upd_same⟩ (fun i H6 _ ⟨sm, _⟩ => SqL.of (sm _ _ hm5)) ?_ ?_
    · rintro i x H6 hxi ⟨sm, hd⟩
      rw [List.getElem?_map] at hxi
      obtain ⟨m, hm, rfl⟩ := Option.map_eq_some_iff.mp hxi
      refine ⟨rfl, _, rfl, _, rfl, m, a, ns, rfl, sm.seq (o5.seq hp hS), by omega, hx, fun H7 s7 => ⟨_, s7 _ _ hd, small_k2 (by rw [List.length_map, List.length_map, List.length_take]; omega), (sm.trans s7).put hD3, ?_⟩⟩
      rw [upd_same, List.take_succ, hm, List.map_append, List.map_append]
      rfl
    rintro H6 ⟨sm6, hd6⟩
    rw [List.length_map, List.take_of_length_le (Nat.le_refl _)] at hd6
    have hp6 := sm6 _ _ hp5
    refine ⟨_, rfl, p, _, dx, _, rfl, hp6, c_DownLattice Z, n_DownLattice__names Z, (by show 2 < 1000; decide), ?_⟩
    have o7 : Off p H (upd H6 p (.ins (ga K "DownLattice") dx (putF "_names" (.ref D3) (putF "_masks" (.ref D2) (putF "_below" (.ref l1) []))))) := (o5.trans (Off.of sm6)).upd
    have hp7 : (upd H6 p (.ins (ga K "DownLattice") dx (putF "_names" (.ref D3) (putF "_masks" (.ref D2) (putF "_below" (.ref l1) []))))) p = some (.ins (ga K "DownLattice") dx (putF "_names" (.ref D3) (putF "_masks" (.ref D2) (putF "_below" (.ref l1) [])))) := upd_same
    have hv7 : (upd H6 p (.ins (ga K "DownLattice") dx (putF "_names" (.ref D3) (putF "_masks" (.ref D2) (putF "_below" (.ref l1) []))))) l1 = some (.lst ((belI ns.length ws).map V.int)) := (upd_ne (Ne.symm np1)).trans (sm6 _ _ hv5)
    have hm7 : (upd H6 p (.ins (ga K "DownLattice") dx (putF "_names" (.ref D3) (putF "_masks" (.ref D2) (putF "_below" (.ref l1) []))))) D2 = some (.lst ((downMasks ns.length ws).map fun m => V.int (m : Nat))) := (upd_ne np2).trans (sm6 _ _ hm5)
    have hn7 : (upd H6 p (.ins (ga K "DownLattice") dx (putF "_names" (.ref D3) (putF "_masks" (.ref D2) (putF "_below" (.ref l1) []))))) D3 = some (.lst (((downMasks ns.length ws).map (setName ns)).map V.str)) := (upd_ne np3).trans hd6
    generalize upd H6 p (.ins (ga K "DownLattice") dx (putF "_names" (.ref D3) (putF "_masks" (.ref D2) (putF "_below" (.ref l1) [])))) = H7 at o7 hp7 hv7 hm7 hn7 ⊢
    -- label and the rest
    refine ⟨_, rfl, _, rfl, Str.ofString "downs", a, q, ns, ps, rfl, by decide +kernel, o7.seq hp hS, by omega, hx, o7.pairs hp hps, hpl, hpx, fun H8 s8 => ?_⟩
    have hp8 := s8 _ _ hp7
    have hm8 := s8 _ _ hm7
    refine ⟨_, rfl, _, rfl, _, rfl, p, _, dx, _, _, rfl, hp8, c_DownLattice Z, n_DownLattice__masks Z, (by kernel_rfl), D2, _, rfl, .inl (SqL.of hm8), _, rfl, p, _, dx, _, _, rfl, hp8, c_DownLattice Z, n_DownLattice__masks Z, (by kernel_rfl), D2, _, rfl, .inl (SqL.of hm8), _, _, rfl, rfl, p, _, _, _, _, _, dx, _, rfl, hp8, (by show 3 ≤ 900; decide), lc_Down Z, ?_⟩
    rw [List.length_map]
    refine k l1 D2 D3 _ (o7.trans (Off.of s8)).upd (s1.free hl1) f2 f3 (Ne.symm np1) np2 np3 ?_ ((upd_ne (Ne.symm np1)).trans (s8 _ _ hv7)) ((upd_ne np2).trans hm8) ((upd_ne np3).trans (s8 _ _ hn7))
    rw [upd_same]
    exact congrArg (fun z => some (HO.ins (ga K "DownLattice") dx z)) (put_down l1 D2 D3 (orderLabel "downs" ns ps) ((downMasks ns.length ws).length : Nat))
end
end Lk02

set_option maxHeartbeats 4000000
namespace Lk02
open PySem PySem.Spec PyProof.Rows L2 He HkS Bs Clo Lc2
/-- the row of masks above -/
def abv (n : Nat) (B : Nat → Nat) (b : Nat) : Nat := bits n fun u => (B u).testBit b
theorem sum_bits (f : Nat → Bool) : ∀ i : Nat, (((List.range i).filter f).map fun u => ((2 ^ u : Nat) : Int)).sum = ((bits i f : Nat) : Int)
  | 0 => rfl
  | i + 1 => by
    rw [filt_succ, List.map_append, List.sum_append, sum_bits f i]
    show ((bits i f : Nat) : Int) + _ = ((bits i f + (if f i = true then 2 ^ i else 0) : Nat) : Int)
    by_cases h : f i = true
    · rw [if_pos h, if_pos h]
      show ((bits i f : Nat) : Int) + (((2 ^ i : Nat) : Int) + 0) = _
      rw [Int.natCast_add, Int.add_zero]
    · rw [if_neg h, if_neg h]
      show ((bits i f : Nat) : Int) + 0 = _
      rw [Int.add_zero, Nat.add_zero]
theorem idx_first {m : Int} : ∀ (xs : List Int) (i : Nat), i < xs.idxOf m → xs[i]? ≠ some m
  | [], i, h => absurd h (Nat.not_lt_zero _)
  | x :: r, i, h => by
    rw [List.idxOf_cons] at h
    by_cases e : x = m
    · subst e
      simp at h
    · have e2 : (x == m) = false := beq_eq_false_iff_ne.mpr e
      rw [e2] at h
      match i, h with
      | 0, _ => exact fun z => e (Option.some.inj z)
      | i + 1, h => exact idx_first r i (Nat.lt_of_succ_lt_succ h)
def firstV (xs : List Int) (m : Int) : V := if m ∈ xs then .int ((xs.idxOf m : Nat) : Int) else .non
theorem flatI : ∀ xs : List Int, (xs.map V.int).all flatV = true
  | [] => rfl
  | _ :: r => flatI r
theorem inVI {m : Int} : ∀ xs : List Int, inV (.int m) (xs.map V.int) = decide (m ∈ xs)
  | [] => rfl
  | y :: r => by
    show ((y == m) || inV (.int m) (r.map V.int)) = _
    rw [inVI r]
    by_cases h : y = m
    · subst h
      simp
    · have h2 : (y == m) = false := beq_eq_false_iff_ne.mpr h
      have h3 : ¬ m = y := fun q => h q.symm
      simp [h2, h3]
section
variable {P : Program} {w : World} {K : PySem.W.Frag} {mg : Str → Option Value} {base : Heap}
def sp_masks_above (K : PySem.W.Frag) : Sp := fun vs H Q _ => ∃ (l : Addr) (n : Nat) (B : Nat → Nat), vs = [.ref l] ∧ SqL K H l (rgl n (natV B)) ∧ n ≤ 1000 ∧ ∀ D H', H D = none → Same H H' → H' D = some (.lst (rgl n (natV (abv n B)))) → Q (.ref D) H'
theorem sc_masks_above : FnScope ["below", "places", "place", "upper"] ["below"] (defScope s_masks_above) := ⟨rfl, rfl, rfl, by decide +kernel, rfl, by decide +kernel, by decide +kernel⟩
theorem ok_masks_above (Z : Ctx K mg)  : Ok P w K mg base (3) (ga K "masks_above") ["below"] (sp_masks_above K) := by
  refine ok_of (fd_masks_above Z) sc_masks_above (fun vs H Q E h => ?_) (fun _ _ _ _ _ _ us hl => match us, hl with | [_], _ => rfl) (fun cdv A outer s H vs Q E hr h => ?_)
  · obtain ⟨_, _, _, rfl, _⟩ := h
    rfl
  · obtain ⟨l, n, B, rfl, hS, hn, k⟩ := h
    refine ⟨_, (pss_cons (ps_s 1 sc_masks_above.nd (pe_callTy Au.cr_rg1 (by rfl) (f_range Z) (by decide +kernel) (pa_cons (pe_callB lenQ (by rfl) (f_len Z) boot_len (pa_cons (pv 0) pa_nil)) pa_nil)))
      (pss_one (ps_ret (pe_lc (own := [("place", 2)]) (g := gName 2) (tt := tYes) rfl sc_masks_above.nd (Au.pi_rgV (pv 1)) (blkOk_by (N := ["below", "places", "place", "upper"]) (sc := defScope s_masks_above) (by decide +kernel)) (fun _ _ _ _ _ => (pg_n 2 sc_masks_above.nd)) (fun _ _ _ _ _ => pts_nil) (fun _ _ _ _ _ => (pe_callB (sumQ rfl) (by rfl) (f_sum Z) (by decide +kernel) (pa_cons (pe_lc (own := [("upper", 3)]) (g := gName 3) rfl sc_masks_above.nd (Au.pi_rgV (pv 1)) (blkOk_by (N := ["below", "places", "place", "upper"]) (by kernel_rfl)) (fun _ _ _ _ _ => (pg_n 3 sc_masks_above.nd)) (fun _ _ _ _ _ => (pts_one (pt_val (pe_cO (ok_has_place Z) (hr.mono (by decide)) (g_has_place Z) passL (pa_cons (pe_ix ixL (pv 0) (pv 3) (fun _ _ => rfl)) (pa_cons (pv 2) pa_nil)))))) (fun _ _ _ _ _ => (pe_op op_shl pe_int (pv 3)))) pa_nil))))))), ?_⟩
    refine ⟨_, rfl, l, _, rfl, .inl hS, _, rfl, fun rp hrp => ?_⟩
    rw [rgl_len]
    have s1 : Same H (upd H rp (.rng 0 ((n : Nat) : Int))) := sn hrp
    have hr1 : (upd H rp (.rng 0 ((n : Nat) : Int))) rp = some (.rng 0 ((n : Nat) : Int)) := upd_same
    change gName 1 (.ref rp) _ (upd H rp (.rng 0 ((n : Nat) : Int))) _
    generalize upd H rp (.rng 0 ((n : Nat) : Int)) = H1 at s1 hr1 ⊢
    refine ⟨_, rfl, rp, _, _, rfl, hr1, ⟨by omega, by omega, by omega, by omega⟩, fun D hD => ?_⟩
    have eN : (((n : Nat) : Int) - 0).toNat = n := by omega
    rw [eN]
    refine walk_r (lo := 0) (n := n) (fun i H2 => Same H1 H2 ∧ H2 D = some (.lst (rgl i (natV (abv n B))))) ⟨sn hD, upd_same⟩ ?_ ?_
    · rintro i H2 hi ⟨sm, hd⟩
      have e0 : ∀ i : Nat, (0 : Int) + (i : Nat) = (i : Nat) := fun i => by omega
      rw [e0]
      refine ⟨rfl, _, rfl, rp, _, _, rfl, sm _ _ hr1, ⟨by omega, by omega, by omega, by omega⟩, fun D3 hD3 => ?_⟩
      rw [eN]
      refine walk_r (lo := 0) (n := n) (fun j H3 => Same H2 H3 ∧ H3 D3 = some (.lst ((((List.range j).filter fun u => (B u).testBit i).map fun u => ((2 ^ u : Nat) : Int)).map V.int))) ⟨sn hD3, upd_same⟩ ?_ ?_
      · rintro j H3 hj ⟨s3, hd3⟩
        rw [e0]
        have fl := filt_len (fun u => (B u).testBit i) j
        refine ⟨rfl, _, rfl, _, rfl, l, _, _, _, rfl, rfl, s3.seq (sm.seq (s1.seq hS)), rgl_atI hj, _, rfl, B j, i, rfl, _, rfl, ite2 (fun t => ?_) (fun t => ?_)⟩
        · refine ⟨_, rfl, _, _, rfl, rfl, ⟨by omega, by omega, by decide⟩, _, hd3, small_k2 (by rw [List.length_map, List.length_map]; omega), s3.put hD3, ?_⟩
          rw [upd_same, filt_succ, if_pos t, List.map_append, List.map_append]
          exact congrArg (fun z => some (HO.lst (_ ++ [V.int z]))) (shl1 j)
        · refine ⟨s3, ?_⟩
          rw [hd3, filt_succ, if_neg t, List.append_nil]
      · rintro H3 ⟨s3, hd3⟩
        have nD : D ≠ D3 := fun z => by
          rw [← z, hd] at hD3
          cases hD3
        refine ⟨D3, _, rfl, SqL.of hd3, _, s3 _ _ hd, small_k2 (by rw [rgl_len]; omega), (sm.trans s3).put hD, ?_⟩
        rw [upd_same, sum_bits, rgl_succ]
        rfl
    · rintro H2 ⟨sm, hd⟩
      exact k D H2 (s1.free hD) (s1.trans sm) hd
def sp__first_place (K : PySem.W.Frag) : Sp := fun vs H Q _ => ∃ (l : Addr) (xs : List Int) (m : Int), vs = [.ref l, .int m] ∧ SqL K H l (xs.map V.int) ∧ Q (firstV xs m) H
theorem sc__first_place : FnScope ["masks", "mask"] ["masks", "mask"] (defScope s__first_place) := ⟨rfl, rfl, rfl, by decide +kernel, rfl, by decide +kernel, by decide +kernel⟩
theorem ok__first_place (Z : Ctx K mg)  : Ok P w K mg base (2) (ga K "_first_place") ["masks", "mask"] (sp__first_place K) := by
  refine ok_of (fd__first_place Z) sc__first_place (fun vs H Q E h => ?_) (fun _ _ _ _ _ _ us hl => match us, hl with | [_, _], _ => rfl) (fun cdv A outer s H vs Q E hr h => ?_)
  · obtain ⟨_, _, _, rfl, _⟩ := h
    rfl
  · obtain ⟨l, xs, m, rfl, hS, k⟩ := h
    refine ⟨_, (pss_one (ps_ret (pe_ifExp (pt_cmpR inQ (pv 1) (pv 0) (by rfl)) (bmQ PySem.F.plainAttrs_list PySem.F.slot_list_index PySem.F.type_list_index mtIx (pv 0) (pa_cons (pv 1) pa_nil)) pe_non))), ?_⟩
    refine ⟨_, rfl, _, rfl, _, _, rfl, .inl hS, rfl, flatI xs, _, rfl, ?_⟩
    show if inV (V.int m) (xs.map V.int) = true then _ else _
    rw [inVI]
    unfold firstV at k
    by_cases h : m ∈ xs
    · rw [decide_eq_true h]
      rw [if_pos h] at k
      have lt := List.idxOf_lt_length_of_mem h
      refine iteT ⟨_, rfl, .inl ⟨rfl, _, hS⟩, _, rfl, l, _, _, xs.idxOf m, .int m, rfl, rfl, hS, rfl, flatI xs, ?_, ?_, fun i z hi hz => ?_, k⟩
      · rw [List.getElem?_map, List.getElem?_eq_getElem lt, List.getElem_idxOf]
        rfl
      · show (m == m) = true
        exact beq_self_eq_true m
      · rw [List.getElem?_map] at hz
        obtain ⟨y, hy, rfl⟩ := Option.map_eq_some_iff.mp hz
        show (y == m) = false
        refine beq_eq_false_iff_ne.mpr fun e => ?_
        subst e
        exact idx_first xs i hi hy
    · rw [decide_eq_false h]
      rw [if_neg h] at k
      exact iteF k
end
end Lk02

set_option maxHeartbeats 8000000
namespace Lk02
open PySem PySem.Spec PyProof.Rows L2 He HkS Bs Clo Lc2
def abI (n : Nat) (ws : List (Nat × Nat)) : List Int := (List.range n).map fun b => ((abv n (bel n ws n) b : Nat) : Int)
theorem abI_is (n : Nat) (ws : List (Nat × Nat)) : rgl n (natV (abv n (bel n ws n))) = (abI n ws).map V.int := by
  unfold abI rgl
  rw [List.map_map]
  rfl
theorem abI_len (n : Nat) (ws : List (Nat × Nat)) : (abI n ws).length = n := by
  unfold abI
  rw [List.length_map, List.length_range]
def OrdFs (l1 l2 l3 : Addr) (lb : Str) (n : Int) (bo to : V) : List (Str × V) := [("_names", .ref l1), ("_below", .ref l2), ("_above", .ref l3), ("label", .str lb), ("size", .int n), ("bottom_at", bo), ("top_at", to)]
theorem put_ord (l1 l2 l3 : Addr) (lb : Str) (n : Int) (bo to : V) : putF "top_at" to (putF "bottom_at" bo (putF "size" (.int n) (putF "label" (.str lb) (putF "_above" (.ref l3) (putF "_below" (.ref l2) (putF "_names" (.ref l1) [])))))) = OrdFs l1 l2 l3 lb n bo to := by
  kernel_rfl
theorem Off.free {p : Addr} {H H' : Hp} (s : Off p H H') {C dx : Addr} {fs : List (Str × V)} (hp : H' p = some (.ins C dx fs)) {D : Addr} (hD : H' D = none) : H D = none ∧ D ≠ p := by
  have n : D ≠ p := fun z => by rw [z, hp] at hD; cases hD
  refine ⟨?_, n⟩
  cases e : H D with
  | none => rfl
  | some o => rw [s _ _ e n] at hD; cases hD
section
variable {P : Program} {w : World} {K : PySem.W.Frag} {mg : Str → Option Value} {base : Heap}
theorem lc_Order (Z : Ctx K mg) : LatCls K (ga K "OrderLattice") := ⟨c_OrderLattice Z, n_OrderLattice_label Z, n_OrderLattice_size Z, n_OrderLattice_bottom_at Z, n_OrderLattice_top_at Z⟩
def sp_order (K : PySem.W.Frag) : Sp := fun vs H Q E => ∃ (p dx a q : Addr) (ns : List Str) (ps : List (Str × Str)), vs = [.ref p, .ref a, .ref q] ∧ H p = some (.ins (ga K "OrderLattice") dx []) ∧ SqL K H a (ns.map V.str) ∧ ns.length ≤ 100 ∧ (∀ x ∈ ns, x.length ≤ 100) ∧ PairsS K H q ps ∧ ps.length ≤ 100 ∧ (∀ x ∈ flatP ps, x.length ≤ 100) ∧
  (okOrd ns ps 16 = true → ∀ (l1 l2 l3 : Addr) (H' : Hp), Off p H H' → H l1 = none → H l2 = none → H l3 = none → l1 ≠ p → l2 ≠ p → l3 ≠ p →
    H' p = some (.ins (ga K "OrderLattice") dx (OrdFs l1 l2 l3 (orderLabel "order" ns ps) (ns.length : Nat) (firstV (abI ns.length (wsOf ns ps)) (((2 ^ ns.length : Nat) : Int) - 1)) (firstV (belI ns.length (wsOf ns ps)) (((2 ^ ns.length : Nat) : Int) - 1)))) →
    H' l1 = some (.lst (ns.map V.str)) → H' l2 = some (.lst ((belI ns.length (wsOf ns ps)).map V.int)) → H' l3 = some (.lst ((abI ns.length (wsOf ns ps)).map V.int)) → Q .non H') ∧
  (okOrd ns ps 16 = false → ∀ H', Off p H H' → E (.ref (ga K "BadLattice")) none H')
theorem sc_OrderLattice___init__ : FnScope ["self", "names", "pairs", "everything", "label", "bottom_at", "top_at"] ["self", "names", "pairs"] (defScope s_OrderLattice___init__) := ⟨rfl, rfl, rfl, by decide +kernel, rfl, by decide +kernel, by decide +kernel⟩
theorem ok_OrderLattice___init__ (Z : Ctx K mg)  (hP : P = PG) : Ok P w K mg base (4) (ma K (ga K "OrderLattice") "__init__") ["self", "names", "pairs"] (sp_order K) := by
  refine ok_of (fd_OrderLattice___init__ Z) sc_OrderLattice___init__ (fun vs H Q E h => ?_) (fun _ _ _ _ _ _ us hl => match us, hl with | [_, _, _], _ => rfl) (fun cdv A outer s H vs Q E hr h => ?_)
  · obtain ⟨_, _, _, _, _, _, rfl, _⟩ := h
    rfl
  · subst hP
    obtain ⟨p, dx, a, q, ns, ps, rfl, hp, hS, hn, hx, hps, hpl, hpx, k, kE⟩ := h
    obtain ⟨_, h__MOST_NAMES⟩ := i__MOST_NAMES Z
    refine ⟨_, (pss_cons (ps_expr (pe_cO (ok_check_order Z rfl) (hr.mono (by decide)) (g_check_order Z) (passes_call (takes_of rfl rfl rfl rfl) (fun _ _ _ _ h => h)) (pa_cons (pv 1) (pa_cons (pv 2) (pa_cons (pe_glob (v := .int 16) (by rfl) h__MOST_NAMES ⟨_, rfl⟩) pa_nil)))))
      (pss_cons (ps_fld (pv 0) (pe_callTy listQ (by rfl) (f_list Z) (by decide +kernel) (pa_cons (pv 1) pa_nil)) rfl)
      (pss_cons (ps_fld (pv 0) (pe_cO (ok_masks_below Z) (hr.mono (by decide)) (g_masks_below Z) (passes_call (takes_of rfl rfl rfl rfl) (fun _ _ _ _ h => h)) (pa_cons (pv 1) (pa_cons (pv 2) pa_nil))) rfl)
      (pss_cons (ps_fld (pv 0) (pe_cO (ok_masks_above Z) (hr.mono (by decide)) (g_masks_above Z) (passes_call (takes_of rfl rfl rfl rfl) (fun _ _ _ _ h => h)) (pa_cons (fldQ (pv 0)) pa_nil)) rfl)
      (pss_cons (ps_s 3 sc_OrderLattice___init__.nd (pe_op op_sub (pe_op op_shl pe_int (pe_callB lenQ (by rfl) (f_len Z) boot_len (pa_cons (pv 1) pa_nil))) pe_int))
      (pss_cons (ps_s 4 sc_OrderLattice___init__.nd (pe_cO (ok_order_label Z) (hr.mono (by decide)) (g_order_label Z) (passes_call (takes_of rfl rfl rfl rfl) (fun _ _ _ _ h => h)) (pa_cons pe_str (pa_cons (pv 1) (pa_cons (pv 2) pa_nil)))))
      (pss_cons (ps_s 5 sc_OrderLattice___init__.nd (pe_cO (ok__first_place Z) (hr.mono (by decide)) (g__first_place Z) (passes_call (takes_of rfl rfl rfl rfl) (fun _ _ _ _ h => h)) (pa_cons (fldQ (pv 0)) (pa_cons (pv 3) pa_nil))))
      (pss_cons (ps_s 6 sc_OrderLattice___init__.nd (pe_cO (ok__first_place Z) (hr.mono (by decide)) (g__first_place Z) (passes_call (takes_of rfl rfl rfl rfl) (fun _ _ _ _ h => h)) (pa_cons (fldQ (pv 0)) (pa_cons (pv 3) pa_nil))))
      (pss_one (ps_expr (pe_clsO (cm_Lattice___init__ Z) (g_Lattice Z) (ok_Lattice___init__ Z) (hr.mono (by decide)) (passes_call (takes_of rfl rfl rfl rfl) (fun _ _ _ _ h => h)) (pa_cons (pv 0) (pa_cons (pv 4) (pa_cons (pe_callB lenQ (by rfl) (f_len Z) boot_len (pa_cons (pv 1) pa_nil)) (pa_cons (pv 5) (pa_cons (pv 6) pa_nil)))))))))))))))), ?_⟩
    refine ⟨_, rfl, _, rfl, a, q, ns, ps, 16, rfl, hS, by omega, fun x m => Nat.le_trans (hx x m) (by decide), hps, fun H1 s1 ok => ?_, fun H1 s1 no => kE no H1 (Off.of s1)⟩
    replace k := k ok
    obtain ⟨ok1, ok2⟩ := ba ok
    obtain ⟨ok3, ok4⟩ := ba ok1
    obtain ⟨ok5, ok6⟩ := ba ok2
    obtain ⟨ok7, ok8⟩ := ba ok6
    have nd := of_decide_eq_true ok5
    obtain ⟨wb, wl⟩ := ws_back ok8
    generalize hws : wsOf ns ps = ws at *
    have hS1 := s1.seq hS
    have hp1 := s1 _ _ hp
    -- names
    refine ⟨_, rfl, a, _, rfl, .inl hS1, fun L1 hL1 => ⟨_, rfl, p, _, dx, _, rfl, sn hL1 _ _ hp1, c_OrderLattice Z, n_OrderLattice__names Z, (by show 0 < 1000; decide), ?_⟩⟩
    have np1 : L1 ≠ p := fun z => by rw [z, hp1] at hL1; cases hL1
    have o2 : Off p H (upd (upd H1 L1 (.lst (ns.map V.str))) p (.ins (ga K "OrderLattice") dx (putF "_names" (.ref L1) []))) := (Off.of (s1.trans (sn hL1))).upd
    have hp2 : (upd (upd H1 L1 (.lst (ns.map V.str))) p (.ins (ga K "OrderLattice") dx (putF "_names" (.ref L1) []))) p = some (.ins (ga K "OrderLattice") dx (putF "_names" (.ref L1) [])) := upd_same
    have hn2 : (upd (upd H1 L1 (.lst (ns.map V.str))) p (.ins (ga K "OrderLattice") dx (putF "_names" (.ref L1) []))) L1 = some (.lst (ns.map V.str)) := (upd_ne np1).trans upd_same
    generalize upd (upd H1 L1 (.lst (ns.map V.str))) p (.ins (ga K "OrderLattice") dx (putF "_names" (.ref L1) [])) = H2 at o2 hp2 hn2 ⊢
    -- below
    refine ⟨_, rfl, _, rfl, a, q, ns, ws, rfl, o2.seq hp hS, nd, by omega, by rw [wb]; exact o2.pairs hp hps, wl, fun L2' H3 hl2 s3 hv2 => ?_⟩
    obtain ⟨f2, np2⟩ := o2.free hp2 hl2
    rw [belI_is] at hv2
    refine ⟨_, rfl, p, _, dx, _, rfl, s3 _ _ hp2, c_OrderLattice Z, n_OrderLattice__below Z, (by show 1 < 1000; decide), ?_⟩
    have o4 : Off p H (upd H3 p (.ins (ga K "OrderLattice") dx (putF "_below" (.ref L2') (putF "_names" (.ref L1) [])))) := (o2.trans (Off.of s3)).upd
    have hp4 : (upd H3 p (.ins (ga K "OrderLattice") dx (putF "_below" (.ref L2') (putF "_names" (.ref L1) [])))) p = some (.ins (ga K "OrderLattice") dx (putF "_below" (.ref L2') (putF "_names" (.ref L1) []))) := upd_same
    have hn4 : (upd H3 p (.ins (ga K "OrderLattice") dx (putF "_below" (.ref L2') (putF "_names" (.ref L1) [])))) L1 = some (.lst (ns.map V.str)) := (upd_ne np1).trans (s3 _ _ hn2)
    have hv4 : (upd H3 p (.ins (ga K "OrderLattice") dx (putF "_below" (.ref L2') (putF "_names" (.ref L1) [])))) L2' = some (.lst ((belI ns.length ws).map V.int)) := (upd_ne np2).trans hv2
    generalize upd H3 p (.ins (ga K "OrderLattice") dx (putF "_below" (.ref L2') (putF "_names" (.ref L1) []))) = H4 at o4 hp4 hn4 hv4 ⊢
    -- above
    have hv4' := hv4
    rw [← belI_is] at hv4'
    refine ⟨_, rfl, p, _, dx, _, _, rfl, hp4, c_OrderLattice Z, n_OrderLattice__below Z, (by kernel_rfl), L2', ns.length, bel ns.length ws ns.length, rfl, SqL.of hv4', by omega, fun L3 H5 hl3 s5 hv3 => ?_⟩
    obtain ⟨f3, np3⟩ := o4.free hp4 hl3
    rw [abI_is] at hv3
    refine ⟨_, rfl, p, _, dx, _, rfl, s5 _ _ hp4, c_OrderLattice Z, n_OrderLattice__above Z, (by show 2 < 1000; decide), ?_⟩
    have o6 : Off p H (upd H5 p (.ins (ga K "OrderLattice") dx (putF "_above" (.ref L3) (putF "_below" (.ref L2') (putF "_names" (.ref L1) []))))) := (o4.trans (Off.of s5)).upd
    have hp6 : (upd H5 p (.ins (ga K "OrderLattice") dx (putF "_above" (.ref L3) (putF "_below" (.ref L2') (putF "_names" (.ref L1) []))))) p = some (.ins (ga K "OrderLattice") dx (putF "_above" (.ref L3) (putF "_below" (.ref L2') (putF "_names" (.ref L1) [])))) := upd_same
    have hn6 : (upd H5 p (.ins (ga K "OrderLattice") dx (putF "_above" (.ref L3) (putF "_below" (.ref L2') (putF "_names" (.ref L1) []))))) L1 = some (.lst (ns.map V.str)) := (upd_ne np1).trans (s5 _ _ hn4)
    have hv6 : (upd H5 p (.ins (ga K "OrderLattice") dx (putF "_above" (.ref L3) (putF "_below" (.ref L2') (putF "_names" (.ref L1) []))))) L2' = some (.lst ((belI ns.length ws).map V.int)) := (upd_ne np2).trans (s5 _ _ hv4)
    have ha6 : (upd H5 p (.ins (ga K "OrderLattice") dx (putF "_above" (.ref L3) (putF "_below" (.ref L2') (putF "_names" (.ref L1) []))))) L3 = some (.lst ((abI ns.length ws).map V.int)) := (upd_ne np3).trans hv3
    generalize upd H5 p (.ins (ga K "OrderLattice") dx (putF "_above" (.ref L3) (putF "_below" (.ref L2') (putF "_names" (.ref L1) [])))) = H6 at o6 hp6 hn6 hv6 ha6 ⊢
    -- everything, label
    have hl : (ns.map V.str).length = ns.length := List.length_map ..
    have e2 : (1 : Int) * 2 ^ (((ns.map V.str).length : Nat) : Int).toNat = ((2 ^ ns.length : Nat) : Int) := by rw [hl, shl1]
    refine ⟨_, rfl, a, _, rfl, .inl (o6.seq hp hS), _, _, rfl, rfl, ⟨by omega, by omega, by decide⟩, _, _, rfl, rfl, ?_⟩
    change gName 3 (.int ((1 : Int) * 2 ^ (((ns.map V.str).length : Nat) : Int).toNat - 1)) _ H6 _
    rw [e2]
    refine ⟨_, rfl, _, rfl, Str.ofString "order", a, q, ns, ps, rfl, by decide +kernel, o6.seq hp hS, by omega, hx, o6.pairs hp hps, hpl, hpx, fun H7 s7 => ?_⟩
    have hp7 := s7 _ _ hp6
    refine ⟨_, rfl, p, _, dx, _, _, rfl, hp7, c_OrderLattice Z, n_OrderLattice__above Z, (by kernel_rfl), _, rfl, L3, _, _, rfl, SqL.of (s7 _ _ ha6), ?_⟩
    refine ⟨_, rfl, p, _, dx, _, _, rfl, hp7, c_OrderLattice Z, n_OrderLattice__below Z, (by kernel_rfl), _, rfl, L2', _, _, rfl, SqL.of (s7 _ _ hv6), ?_⟩
    refine ⟨_, rfl, _, rfl, _, rfl, a, _, rfl, .inl ((o6.trans (Off.of s7)).seq hp hS), _, rfl, _, rfl, p, _, _, _, _, _, dx, _, rfl, hp7, (by show 3 ≤ 900; decide), lc_Order Z, ?_⟩
    rw [hl]
    refine k L1 L2' L3 _ (o6.trans (Off.of s7)).upd (s1.free hL1) f2 f3 np1 np2 np3 ?_ ((upd_ne np1).trans (s7 _ _ hn6)) ((upd_ne np2).trans (s7 _ _ hv6)) ((upd_ne np3).trans (s7 _ _ ha6))
    rw [upd_same]
    exact congrArg (fun z => some (HO.ins (ga K "OrderLattice") dx z)) (put_ord L1 L2' L3 (orderLabel "order" ns ps) (ns.length : Nat) (firstV (abI ns.length ws) (((2 ^ ns.length : Nat) : Int) - 1)) (firstV (belI ns.length ws) (((2 ^ ns.length : Nat) : Int) - 1)))
end
end Lk02

set_option maxHeartbeats 8000000
namespace Lk02
open PySem PySem.Spec PyProof.Rows L2 He HkS Bs Clo Lc2
def SG : Str := "q0w1e2r3t4y5u6i7o8p9asdfghjklzxcvbnm"
def sgn (i : Nat) : Nat := SG.cps.toList.getD i 0
theorem sg_len : SG.cps.toList.length = 36 := by decide +kernel
theorem sg_ok : ∀ i < 36, sg (sgn i) = true := by decide +kernel
theorem sg_inj : ∀ i < 36, ∀ j < 36, sgn i = sgn j → i = j := by decide +kernel
theorem sg_at {i : Nat} (h : i < 36) : atI SG.cps.toList ((i : Nat) : Int) = some (sgn i) := by
  have h2 : SG.cps.toList[i]? = some (sgn i) := by
    unfold sgn
    rw [List.getD_eq_getElem?_getD, List.getElem?_eq_getElem (by rw [sg_len]; exact h)]
    rfl
  have h3 : ixN SG.cps.toList.length ((i : Nat) : Int) = some i := ixN_nat (by rw [sg_len]; exact h)
  unfold atI
  rw [h3]
  exact h2
theorem list_app (a b : Str) : (a ++ b).cps.toList = a.cps.toList ++ b.cps.toList := by
  show (a.cps ++ b.cps).toList = _
  rw [Array.toList_append]
theorem len_list (a : Str) : a.cps.toList.length = a.length := by simp [Str.length]
theorem str_ext {a b : Str} (h : a.cps.toList = b.cps.toList) : a = b := by
  cases a
  cases b
  exact congrArg Str.mk (Array.toList_inj.mp h)
/-- the name with the sign c at the cut -/
def nmW (wd : Str) (cut : Nat) (c : Nat) : Str := cutS wd none (some (cut : Nat)) ++ ⟨#[c]⟩ ++ cutS wd (some (cut : Nat)) none
theorem nmW_list {wd : Str} {cut c : Nat} (h : cut ≤ wd.length) : (nmW wd cut c).cps.toList = wd.cps.toList.take cut ++ [c] ++ wd.cps.toList.drop cut := by
  have l := len_list wd
  unfold nmW cutS
  rw [list_app, list_app]
  simp only [HT.sIx_none, HT.sIx_nat, Nat.min_eq_left h, Nat.sub_zero, List.drop_zero]
  have e : (wd.cps.toList.drop cut).take (wd.length - cut) = wd.cps.toList.drop cut := List.take_of_length_le (by rw [List.length_drop]; omega)
  rw [e]
theorem nmW_inj {wd : Str} {cut c d : Nat} (h : cut ≤ wd.length) (e : nmW wd cut c = nmW wd cut d) : c = d := by
  have e2 := congrArg (fun s : Str => s.cps.toList) e
  simp only [nmW_list h, List.append_assoc] at e2
  have e3 := List.append_cancel_left e2
  injection e3
theorem nmW_right {wd : Str} {cut c : Nat} (h : cut ≤ wd.length) (hl : wd.length ≤ 11) (hw : ∀ x ∈ wd.cps.toList, sg x = true) (hc : sg c = true) : right (nmW wd cut c) = true ∧ (nmW wd cut c).length ≤ 12 := by
  have l := len_list wd
  have len : (nmW wd cut c).length = wd.length + 1 := by
    rw [← len_list, nmW_list h, List.length_append, List.length_append, List.length_take, List.length_drop]
    show min cut _ + 1 + _ = _
    omega
  refine ⟨?_, by omega⟩
  unfold right
  rw [decide_eq_true (show 1 ≤ (nmW wd cut c).length ∧ (nmW wd cut c).length ≤ 12 by omega), Bool.true_and, List.all_eq_true, nmW_list h]
  intro x hx
  rw [List.mem_append, List.mem_append, List.mem_singleton] at hx
  rcases hx with (hx | rfl) | hx
  · exact hw x (List.mem_of_mem_take hx)
  · exact hc
  · exact hw x (List.mem_of_mem_drop hx)
/-- drawn names -/
structure Names (many : Nat) (ns : List Str) : Prop where
  len : ns.length = many
  nd : ns.Nodup
  ok : ∀ x ∈ ns, right x = true ∧ x.length ≤ 12
theorem names_of {wd : Str} {cut bg many : Nat} (h : cut ≤ wd.length) (hl : wd.length ≤ 11) (hw : ∀ x ∈ wd.cps.toList, sg x = true) (hm : many ≤ 36) : Names many ((List.range many).map fun k => nmW wd cut (sgn ((bg + 5 * k) % 36))) := by
  refine ⟨by rw [List.length_map, List.length_range], ?_, fun x hx => ?_⟩
  · refine List.pairwise_map.mpr (List.Pairwise.imp_of_mem (fun {a b} ha hb hlt e => ?_) (List.pairwise_lt_range (n := many)))
    have ha := List.mem_range.mp ha
    have hb := List.mem_range.mp hb
    have e2 := sg_inj _ (Nat.mod_lt _ (by decide)) _ (Nat.mod_lt _ (by decide)) (nmW_inj h e)
    omega
  · obtain ⟨k, _, rfl⟩ := List.mem_map.mp hx
    exact nmW_right h hl hw (sg_ok _ (Nat.mod_lt _ (by decide)))
section
variable {P : Program} {w : World} {K : PySem.W.Frag} {mg : Str → Option Value} {base : Heap}
def sp__law_words (K : PySem.W.Frag) : Sp := fun vs H Q _ => ∃ (st : Addr) (many : Nat), vs = [.ref st, .int (many : Nat)] ∧ Src H st ∧ many ≤ 36 ∧
  ∀ (q : Addr) (ns : List Str) (H' : Hp), Off st H H' → Src H' st → H q = none → H' q = some (.lst (ns.map V.str)) → Names many ns → Q (.ref q) H'
theorem sc__law_words : FnScope ["source", "many", "signs", "begin", "word", "k", "cut"] ["source", "many"] (defScope s__law_words) := ⟨rfl, rfl, rfl, by decide +kernel, rfl, by decide +kernel, by decide +kernel⟩
theorem ok__law_words (Z : Ctx K mg)  : Ok P w K mg base (3) (ga K "_law_words") ["source", "many"] (sp__law_words K) := by
  refine ok_of (fd__law_words Z) sc__law_words (fun vs H Q E h => ?_) (fun _ _ _ _ _ _ us hl => match us, hl with | [_, _], _ => rfl) (fun cdv A outer s H vs Q E hr h => ?_)
  · obtain ⟨_, _, rfl, _⟩ := h
    rfl
  · obtain ⟨st, many, rfl, S0, hm, k⟩ := h
    refine ⟨_, (pss_cons (ps_s 2 sc__law_words.nd pe_str)
      (pss_cons (ps_s 3 sc__law_words.nd (pe_cO (ok_pick Z) (hr.mono (by decide)) (g__law_pick Z) (passes_call (takes_of rfl rfl rfl rfl) (fun _ _ _ _ h => h)) (pa_cons (pv 0) (pa_cons pe_int pa_nil))))
      (pss_cons (ps_s 4 sc__law_words.nd pe_str)
      (pss_cons (ps_for (passes_of rfl) rfl (pi_range1 (by rfl) (f_range Z) (pa_cons (pe_cO (ok_pick Z) (hr.mono (by decide)) (g__law_pick Z) (passes_call (takes_of rfl rfl rfl rfl) (fun _ _ _ _ h => h)) (pa_cons (pv 0) (pa_cons pe_int pa_nil))) pa_nil)) (pg_n 5 sc__law_words.nd) (pss_one (ps_s 4 sc__law_words.nd (pe_op op_add_str (pv 4) (pe_ix ix_str (pv 2) (pe_cO (ok_pick Z) (hr.mono (by decide)) (g__law_pick Z) (passes_call (takes_of rfl rfl rfl rfl) (fun _ _ _ _ h => h)) (pa_cons (pv 0) (pa_cons pe_int pa_nil))) (fun _ _ => rfl))))))
      (pss_cons (ps_s 6 sc__law_words.nd (pe_cO (ok_pick Z) (hr.mono (by decide)) (g__law_pick Z) (passes_call (takes_of rfl rfl rfl rfl) (fun _ _ _ _ h => h)) (pa_cons (pv 0) (pa_cons (pe_op op_add (pe_callB call_len_str (by rfl) (f_len Z) boot_len (pa_cons (pv 4) pa_nil)) pe_int) pa_nil))))
      (pss_one (ps_ret (pe_lc (own := [("k", 5)]) (g := gName 5) (tt := tYes) rfl sc__law_words.nd (pi_range1 (by rfl) (f_range Z) (pa_cons (pv 1) pa_nil)) (blkOk_by (N := ["source", "many", "signs", "begin", "word", "k", "cut"]) (sc := defScope s__law_words) (by decide +kernel)) (fun _ _ _ _ _ => (pg_n 5 sc__law_words.nd)) (fun _ _ _ _ _ => pts_nil) (fun _ _ _ _ _ => (pe_op op_add_str (pe_op op_add_str (pe_slice sl_str (pv 4) po_none (po_some (pv 6))) (pe_ix ix_str (pv 2) (pe_op op_mod (pe_callTy call_int1 (by rfl) (f_int Z) (by decide +kernel) (pa_cons (pe_op op_add (pv 3) (pe_op op_mul pe_int (pv 5))) pa_nil)) pe_int) (fun _ _ => rfl))) (pe_slice sl_str (pv 4) (po_some (pv 6)) po_none))))))))))), ?_⟩
    refine ⟨_, rfl, st, 36, rfl, S0, by decide, by decide, fun bg H1 b0 b1 k1 S1 => ?_⟩
    obtain ⟨bg, rfl⟩ : ∃ n : Nat, bg = n := ⟨bg.toNat, by omega⟩
    refine ⟨_, rfl, st, 12, rfl, S1, by decide, by decide, fun t H2 t0 t1 k2 S2 => ⟨_, rfl, by omega, by omega, ?_⟩⟩
    have o2 : Off st H H2 := fun b o e n => (k2 b n).trans ((k1 b n).trans e)
    refine for_range (lo := 0) (n := t.toNat) (fun i σ H' => ∃ (wd : Str) (v5 : Option V), σ = [some (.ref st), some (.int (many : Nat)), some (.str SG), some (.int (bg : Nat)), some (.str wd), v5, none] ∧ Off st H H' ∧ Src H' st ∧ wd.length = i ∧ ∀ x ∈ wd.cps.toList, sg x = true) ⟨"", none, rfl, o2, S2, rfl, fun x hx => by cases hx⟩ ?_ ?_
    · rintro i σ H3 hi ⟨wd, v5, rfl, o3, S3, hl, hw⟩
      refine ⟨_, rfl, _, rfl, _, rfl, st, 36, rfl, S3, by decide, by decide, fun c H4 c0 c1 k4 S4 => ?_⟩
      obtain ⟨c, rfl⟩ : ∃ n : Nat, c = n := ⟨c.toNat, by omega⟩
      have hc : c < 36 := by omega
      refine ⟨_, _, _, rfl, rfl, by decide +kernel, sg_at hc, _, _, rfl, rfl, small_k (by rw [hl]; show i + 1 ≤ 100000; omega), _, _, rfl, fun b o e n => (k4 b n).trans (o3 b o e n), S4, ?_, ?_⟩
      · rw [app_len, hl]
        rfl
      · intro x hx
        rw [list_app, List.mem_append] at hx
        rcases hx with hx | hx
        · exact hw x hx
        · have e : x = sgn c := by simpa using hx
          rw [e]
          exact sg_ok c hc
    · rintro σ H3 ⟨wd, v5, rfl, o3, S3, hl, hw⟩
      refine ⟨_, rfl, _, rfl, wd, rfl, small_k (by omega), _, _, rfl, rfl, st, _, rfl, S3, by omega, by omega, fun cut H4 cut0 cut1 k4 S4 => ?_⟩
      obtain ⟨cut, rfl⟩ : ∃ n : Nat, cut = n := ⟨cut.toNat, by omega⟩
      have hcut : cut ≤ wd.length := by omega
      refine ⟨_, rfl, _, rfl, by omega, by omega, fun D hD => ?_⟩
      rw [Int.toNat_natCast]
      have o4 : Off st H H4 := fun b o e n => (k4 b n).trans (o3 b o e n)
      have nD : D ≠ st := fun z => by
        obtain ⟨c, cs, i, l, m, h1, _⟩ := S4
        rw [z, h1] at hD
        cases hD
      have fD : H D = none := by
        cases e : H D with
        | none => rfl
        | some o => rw [o4 _ _ e nD] at hD; cases hD
      refine walk_r (lo := 0) (n := many) (fun i H5 => Same H4 H5 ∧ H5 D = some (.lst (((List.range i).map fun k => nmW wd cut (sgn ((bg + 5 * k) % 36))).map V.str))) ⟨sn hD, upd_same⟩ ?_ ?_
      · rintro i H5 hi ⟨sm, hd⟩
        have e0 : (0 : Int) + (i : Nat) = (i : Nat) := by omega
        rw [e0]
        have em : (((bg : Nat) : Int) + 5 * ((i : Nat) : Int)) % 36 = (((bg + 5 * i) % 36 : Nat) : Int) := by omega
        have c1 : (cutS wd none (some (cut : Nat))).length ≤ 11 := by
          rw [← len_list]
          unfold cutS
          simp only [HT.sIx_none, HT.sIx_nat, List.length_take, List.length_drop]
          omega
        have c2 : (cutS wd (some (cut : Nat)) none).length ≤ 11 := by
          rw [← len_list]
          unfold cutS
          simp only [HT.sIx_none, HT.sIx_nat, List.length_take, List.length_drop]
          omega
        refine ⟨rfl, _, rfl, _, rfl, _, rfl, wd, rfl, small_k (by omega), _, rfl, _, rfl, _, rfl, _, _, rfl, rfl, .inl ⟨by decide, by decide⟩, _, _, rfl, rfl, .inl ⟨_, rfl, _, _, rfl, rfl, (show (0 : Int) < 36 by decide), ?_⟩⟩
        change rIxS (.str SG) (.int ((((bg : Nat) : Int) + 5 * ((i : Nat) : Int)) % 36)) H5 _
        rw [em]
        refine ⟨_, _, _, rfl, rfl, by decide +kernel, sg_at (Nat.mod_lt _ (by decide)), _, _, rfl, rfl, small_k (by show _ + 1 ≤ 100000; omega), _, rfl, _, rfl, _, rfl, wd, rfl, small_k (by omega), _, _, rfl, rfl, small_k (by rw [app_len]; show _ + 1 + _ ≤ 100000; omega), _, hd, small_k2 (by rw [List.length_map, List.length_map, List.length_range]; omega), sm.put hD, ?_⟩
        rw [upd_same, List.range_succ, List.map_append, List.map_append]
        rfl
      · rintro H5 ⟨sm, hd⟩
        exact k D _ H5 (o4.trans (Off.of sm)) (by
          obtain ⟨c, cs, i, l, m, h1, h2, r⟩ := S4
          exact ⟨c, cs, i, l, m, sm _ _ h1, sm _ _ h2, r⟩) fD hd (names_of hcut (by omega) hw hm)
end
end Lk02

set_option maxHeartbeats 8000000
namespace Lk02
open PySem PySem.Spec PyProof.Rows L2 He HkS Bs Clo Lc2
/-- rows of truths: the list q of the lists r a, all new since H0 -/
structure Rows (H0 H : Hp) (q : Addr) (r : Nat → Addr) (n : Nat) (f : Nat → Nat → Bool) : Prop where
  hq : H q = some (.lst (rgl n fun a => .ref (r a)))
  inj : ∀ a b, a < n → b < n → r a = r b → a = b
  nq : ∀ a, a < n → r a ≠ q
  hr : ∀ a, a < n → H (r a) = some (.lst (rgl n fun b => .bl (f a b)))
  fr : ∀ a, a < n → H0 (r a) = none
  fq : H0 q = none
theorem Rows.same {H0 H H' : Hp} {q : Addr} {r : Nat → Addr} {n : Nat} {f : Nat → Nat → Bool} (R : Rows H0 H q r n f) (s : Same H H') : Rows H0 H' q r n f := ⟨s _ _ R.hq, R.inj, R.nq, fun a h => s _ _ (R.hr a h), R.fr, R.fq⟩
theorem Rows.congr {H0 H : Hp} {q : Addr} {r : Nat → Addr} {n : Nat} {f g : Nat → Nat → Bool} (R : Rows H0 H q r n f) (e : ∀ a b, a < n → b < n → f a b = g a b) : Rows H0 H q r n g :=
  ⟨R.hq, R.inj, R.nq, fun a h => (R.hr a h).trans (congrArg (fun z => some (HO.lst z)) (rgl_congr fun b hb => by rw [e a b h hb])), R.fr, R.fq⟩
theorem Rows.set {H0 H : Hp} {q : Addr} {r : Nat → Addr} {n a b : Nat} {f : Nat → Nat → Bool} (R : Rows H0 H q r n f) (ha : a < n) : Rows H0 (upd H (r a) (.lst ((rgl n fun b => V.bl (f a b)).set b (.bl true)))) q r n (fun x y => if x = a ∧ y = b then true else f x y) := by
  refine ⟨(upd_ne (Ne.symm (R.nq a ha))).trans R.hq, R.inj, R.nq, fun x hx => ?_, R.fr, R.fq⟩
  by_cases e : x = a
  · subst e
    rw [upd_same, rgl_set]
    refine congrArg (fun z => some (HO.lst z)) (rgl_congr fun y _ => ?_)
    by_cases e2 : y = b
    · rw [if_pos e2, if_pos ⟨rfl, e2⟩]
    · rw [if_neg e2, if_neg (fun z => e2 z.2)]
  · rw [upd_ne (fun z => e (R.inj _ _ hx ha z)), R.hr x hx]
    exact congrArg (fun z => some (HO.lst z)) (rgl_congr fun y _ => by rw [if_neg (fun z => e z.1)])
theorem Rows.at_ {H0 H : Hp} {q : Addr} {r : Nat → Addr} {n a : Nat} {f : Nat → Nat → Bool} (R : Rows H0 H q r n f) (ha : a < n) : atI (rgl n fun a => V.ref (r a)) ((a : Nat) : Int) = some (V.ref (r a)) := rgl_atI ha
/-- pairs of places, as lists -/
def PairsI (K : PySem.W.Frag) (H : Hp) (p : Addr) (ws : List (Nat × Nat)) : Prop := ∃ ts : List Addr, SqL K H p (ts.map V.ref) ∧ ts.length = ws.length ∧ ∀ (i : Nat) (t : Addr) (w : Nat × Nat), ts[i]? = some t → ws[i]? = some w → SqL K H t [.int (w.1 : Nat), .int (w.2 : Nat)]
theorem PairsI.same {K : PySem.W.Frag} {H H' : Hp} {p : Addr} {ws : List (Nat × Nat)} (h : PairsI K H p ws) (s : Same H H') : PairsI K H' p ws := by
  obtain ⟨ts, h1, h2, h3⟩ := h
  exact ⟨ts, s.seq h1, h2, fun i t w a b => s.seq (h3 i t w a b)⟩
theorem base_put (ws : List (Nat × Nat)) (l u a b : Nat) : (if a = l ∧ b = u then true else base ws a b) = base (ws ++ [(l, u)]) a b := by
  unfold base
  have e2 : decide ((a, b) ∈ ws ++ [(l, u)]) = (decide ((a, b) ∈ ws) || decide (a = l ∧ b = u)) := by
    rw [← Bool.decide_or]
    refine decide_eq_decide.mpr ?_
    rw [List.mem_append, List.mem_singleton, Prod.mk.injEq]
  rw [e2]
  by_cases h : a = l ∧ b = u
  · rw [if_pos h, decide_eq_true h]
    simp
  · rw [if_neg h, decide_eq_false h]
    simp
section
variable {P : Program} {w : World} {K : PySem.W.Frag} {mg : Str → Option Value} {base : Heap}
def sp__law_closed (K : PySem.W.Frag) : Sp := fun vs H Q _ => ∃ (n : Nat) (l : Addr) (ws : List (Nat × Nat)), vs = [.int (n : Nat), .ref l] ∧ n ≤ 100 ∧ PairsI K H l ws ∧ (∀ w ∈ ws, w.1 < n ∧ w.2 < n) ∧
  ∀ (q : Addr) (r : Nat → Addr) (H' : Hp), Same H H' → Rows H H' q r n (clo ws n) → Q (.ref q) H'
theorem sc__law_closed : FnScope ["many", "pairs", "rows", "pair", "c", "a", "b"] ["many", "pairs"] (defScope s__law_closed) := ⟨rfl, rfl, rfl, by decide +kernel, rfl, by decide +kernel, by decide +kernel⟩
theorem ok__law_closed (Z : Ctx K mg)  : Ok P w K mg base (2) (ga K "_law_closed") ["many", "pairs"] (sp__law_closed K) := by
  refine ok_of (fd__law_closed Z) sc__law_closed (fun vs H Q E h => ?_) (fun _ _ _ _ _ _ us hl => match us, hl with | [_, _], _ => rfl) (fun cdv A outer s H vs Q E hr h => ?_)
  · obtain ⟨_, _, _, rfl, _⟩ := h
    rfl
  · obtain ⟨n, l, ws, rfl, hn, hp, hw, k⟩ := h
    refine ⟨_, (pss_cons (ps_setLc (i := 2) (own := [("a", 5)]) (g := gName 5) (tt := tYes) rfl sc__law_closed.nd rfl rfl (sw_true rfl rfl rfl (by decide +kernel)) (pi_range1 (by rfl) (f_range Z) (pa_cons (pv 0) pa_nil)) (blkOk_by (N := ["many", "pairs", "rows", "pair", "c", "a", "b"]) (sc := defScope s__law_closed) (by decide +kernel)) (fun _ _ _ _ _ => (pg_n 5 sc__law_closed.nd)) (fun _ _ _ _ _ => pts_nil) (fun _ _ _ _ _ => (pe_lc (own := [("b", 6)]) (g := gName 6) (tt := tYes) rfl sc__law_closed.nd (pi_range1 (by rfl) (f_range Z) (pa_cons (pv 0) pa_nil)) (blkOk_by (N := ["many", "pairs", "rows", "pair", "c", "a", "b"]) (by kernel_rfl)) (fun _ _ _ _ _ => (pg_n 6 sc__law_closed.nd)) (fun _ _ _ _ _ => pts_nil) (fun _ _ _ _ _ => (pe_cmpR op_eq (pv 5) (pv 6) (nomark _))))))
      (pss_cons (ps_for (passes_of rfl) rfl (listI (pv 1)) (pg_n 3 sc__law_closed.nd) (pss_one (ps_asg pe_bl (pg_sub (pe_ix ixL (pv 2) (pe_ix ixL (pv 3) pe_int (fun _ _ => rfl)) (fun _ _ => rfl)) (pe_ix ixL (pv 3) pe_int (fun _ _ => rfl)) set_list))))
      (pss_cons (ps_for (passes_of rfl) rfl (pi_range1 (by rfl) (f_range Z) (pa_cons (pv 0) pa_nil)) (pg_n 4 sc__law_closed.nd) (pss_one (ps_for (passes_of rfl) rfl (pi_range1 (by rfl) (f_range Z) (pa_cons (pv 0) pa_nil)) (pg_n 5 sc__law_closed.nd) (pss_one (ps_for (passes_of rfl) rfl (pi_range1 (by rfl) (f_range Z) (pa_cons (pv 0) pa_nil)) (pg_n 6 sc__law_closed.nd) (pss_one (ps_if (PW.pt (pw_and (pt_val (pe_ix ixL (pe_ix ixL (pv 2) (pv 5) (fun _ _ => rfl)) (pv 4) (fun _ _ => rfl))) (pw_and1 (pt_val (pe_ix ixL (pe_ix ixL (pv 2) (pv 4) (fun _ _ => rfl)) (pv 6) (fun _ _ => rfl)))))) (pss_one (ps_asg pe_bl (pg_sub (pe_ix ixL (pv 2) (pv 5) (fun _ _ => rfl)) (pv 6) set_list))) pss_nil)))))))
      (pss_one (ps_ret (pv 2)))))), ?_⟩
    have e0 : ∀ i : Nat, (0 : Int) + (i : Nat) = (i : Nat) := fun i => by omega
    refine ⟨_, rfl, _, rfl, by omega, by omega, fun D hD => ?_⟩
    rw [Int.toNat_natCast]
    refine walk_r (lo := 0) (n := n) (fun i H2 => Same H H2 ∧ ∃ r : Nat → Addr, H2 D = some (.lst (rgl i fun a => .ref (r a))) ∧ (∀ a b, a < i → b < i → r a = r b → a = b) ∧ (∀ a, a < i → r a ≠ D) ∧ (∀ a, a < i → H2 (r a) = some (.lst (rgl n fun b => .bl (decide (a = b))))) ∧ ∀ a, a < i → H (r a) = none)
      ⟨sn hD, fun _ => 0, upd_same, fun a _ h => absurd h (Nat.not_lt_zero _), fun a h => absurd h (Nat.not_lt_zero _), fun a h => absurd h (Nat.not_lt_zero _), fun a h => absurd h (Nat.not_lt_zero _)⟩ ?_ ?_
    · rintro i H2 hi ⟨sm, r, hd, inj, nD, hr2, fr⟩
      rw [e0]
      refine ⟨rfl, _, rfl, _, rfl, by omega, by omega, fun D3 hD3 => ?_⟩
      rw [Int.toNat_natCast]
      refine walk_r (lo := 0) (n := n) (fun j H3 => Same H2 H3 ∧ H3 D3 = some (.lst (rgl j fun b => .bl (decide (i = b))))) ⟨sn hD3, upd_same⟩ ?_ ?_
      · rintro j H3 hj ⟨s3, hd3⟩
        rw [e0]
        refine ⟨rfl, _, rfl, _, rfl, rfl, _, hd3, small_k2 (by rw [rgl_len]; omega), s3.put hD3, ?_⟩
        rw [upd_same, rgl_succ]
        have e : decide (V.int ((i : Nat) : Int) = V.int ((j : Nat) : Int)) = decide (i = j) := decide_eq_decide.mpr ⟨fun z => by injection z with z; omega, fun z => by rw [z]⟩
        exact congrArg (fun z => some (HO.lst (_ ++ [V.bl z]))) e
      · rintro H3 ⟨s3, hd3⟩
        have hd' := s3 _ _ hd
        have nDD : D ≠ D3 := fun z => by rw [← z, hd] at hD3; cases hD3
        have old : ∀ a, a < i → r a ≠ D3 := fun a ha z => by rw [← z, hr2 a ha] at hD3; cases hD3
        have fD3 : H D3 = none := by
          cases e : H D3 with
          | none => rfl
          | some o => rw [sm _ _ e] at hD3; cases hD3
        refine ⟨_, hd', small_k2 (by rw [rgl_len]; omega), (sm.trans s3).put hD, fun a => if a = i then D3 else r a, ?_, ?_, ?_, ?_, ?_⟩
        · rw [upd_same, rgl_succ]
          have e1 : (rgl i fun a => V.ref (if a = i then D3 else r a)) = rgl i fun a => V.ref (r a) := rgl_congr fun a ha => by rw [if_neg (by omega)]
          rw [e1]
          show _ = some (HO.lst (_ ++ [V.ref (if i = i then D3 else r i)]))
          rw [if_pos rfl]
        · intro a b ha hb e
          change (if a = i then D3 else r a) = (if b = i then D3 else r b) at e
          by_cases z : a = i
          · by_cases y : b = i
            · omega
            · rw [if_pos z, if_neg y] at e
              exact absurd e.symm (old b (by omega))
          · by_cases y : b = i
            · rw [if_neg z, if_pos y] at e
              exact absurd e (old a (by omega))
            · rw [if_neg z, if_neg y] at e
              exact inj a b (by omega) (by omega) e
        · intro a ha
          show (if a = i then D3 else r a) ≠ D
          by_cases z : a = i
          · rw [if_pos z]
            exact Ne.symm nDD
          · rw [if_neg z]
            exact nD a (by omega)
        · intro a ha
          show (upd H3 D _) (if a = i then D3 else r a) = _
          by_cases z : a = i
          · subst z
            rw [if_pos rfl, upd_ne (Ne.symm nDD)]
            exact hd3
          · rw [if_neg z, upd_ne (nD a (by omega))]
            exact s3 _ _ (hr2 a (by omega))
        · intro a ha
          show H (if a = i then D3 else r a) = none
          by_cases z : a = i
          · rw [if_pos z]
            exact fD3
          · rw [if_neg z]
            exact fr a (by omega)
    rintro H2 ⟨sm2, r, hd2, inj2, nD2, hr2, fr2⟩
    have R2 : Rows H H2 D r n (Clo.base []) := (⟨hd2, inj2, nD2, hr2, fr2, hD⟩ : Rows H H2 D r n fun a b => decide (a = b)).congr fun a b _ _ => by
      unfold Clo.base
      simp
    obtain ⟨ts, t1, t2, t3⟩ := hp
    refine ⟨_, rfl, l, rfl, ⟨_, sm2.seq t1⟩, ?_⟩
    refine for_list (K := K) (a := l) (xs := ts.map V.ref) (fun i σ H3 => ∃ v3 : Option V, σ = [some (.int (n : Nat)), some (.ref l), some (.ref D), v3, none, none, none] ∧ Same H H3 ∧ Rows H H3 D r n (Clo.base (ws.take i))) ⟨none, rfl, sm2, R2⟩ (fun i σ H3 _ ⟨_, _, s3, _⟩ => s3.seq t1) ?_ ?_
    · rintro i x σ H3 hxi ⟨v3, rfl, s3, R⟩
      rw [List.getElem?_map] at hxi
      obtain ⟨t, ht, rfl⟩ := Option.map_eq_some_iff.mp hxi
      have hi : i < ws.length := by
        have := (List.getElem?_eq_some_iff.mp ht).1
        omega
      obtain ⟨q, hq⟩ : ∃ q, ws[i]? = some q := ⟨ws[i], List.getElem?_eq_getElem hi⟩
      obtain ⟨q1, q2⟩ := hw q (List.mem_of_getElem? hq)
      have tq := s3.seq (t3 i t q ht hq)
      refine ⟨_, rfl, _, rfl, t, _, _, _, rfl, rfl, tq, rfl, D, _, _, _, rfl, rfl, SqL.of R.hq, rgl_atI q1, _, rfl, t, _, _, _, rfl, rfl, tq, rfl, r q.1, _, _, q.2, rfl, rfl, R.hr q.1 q1, ixN_nat (by rw [rgl_len]; exact q2), _, rfl, s3.put (R.fr _ q1), (R.set q1).congr fun a b _ _ => ?_⟩
      rw [base_put, List.take_succ, hq]
      rfl
    rintro σ H3 ⟨v3, rfl, s3, R3⟩
    rw [List.length_map, t2, List.take_of_length_le (Nat.le_refl _)] at R3
    refine ⟨_, rfl, _, rfl, by omega, by omega, ?_⟩
    rw [Int.toNat_natCast]
    refine for_range (lo := 0) (n := n) (fun c σ H4 => ∃ w3 w4 w5 w6 : Option V, σ = [some (.int (n : Nat)), some (.ref l), some (.ref D), w3, w4, w5, w6] ∧ Same H H4 ∧ Rows H H4 D r n (clo ws c)) ⟨_, _, _, _, rfl, s3, R3⟩ ?_ ?_
    · rintro c σ H4 hc ⟨w3, w4, w5, w6, rfl, s4, R4⟩
      rw [e0]
      refine ⟨_, rfl, _, rfl, by omega, by omega, ?_⟩
      rw [Int.toNat_natCast]
      refine for_range (lo := 0) (n := n) (fun a σ H5 => ∃ w5 w6 : Option V, σ = [some (.int (n : Nat)), some (.ref l), some (.ref D), w3, some (.int (c : Nat)), w5, w6] ∧ Same H H5 ∧ Rows H H5 D r n (fun x y => if x < a then clo ws (c + 1) x y else clo ws c x y)) ⟨_, _, rfl, s4, R4.congr fun x y _ _ => (if_neg (Nat.not_lt_zero x)).symm⟩ ?_ ?_
      · rintro a σ H5 ha ⟨w5, w6, rfl, s5, R5⟩
        rw [e0]
        refine ⟨_, rfl, _, rfl, by omega, by omega, ?_⟩
        rw [Int.toNat_natCast]
        refine for_range (lo := 0) (n := n) (fun b σ H6 => ∃ w6 : Option V, σ = [some (.int (n : Nat)), some (.ref l), some (.ref D), w3, some (.int (c : Nat)), some (.int (a : Nat)), w6] ∧ Same H H6 ∧ Rows H H6 D r n (fun x y => if x < a ∨ (x = a ∧ y < b) then clo ws (c + 1) x y else clo ws c x y)) ⟨_, rfl, s5, R5.congr fun x y _ _ => by
          by_cases z : x < a
          · rw [if_pos z, if_pos (.inl z)]
          · rw [if_neg z, if_neg (by omega)]⟩ ?_ ?_
        · rintro b σ H6 hb ⟨w6, rfl, s6, R6⟩
          rw [e0]
          have v1 : (if a < a ∨ (a = a ∧ c < b) then clo ws (c + 1) a c else clo ws c a c) = clo ws c a c := by
            split
            · exact clo_col c a
            · rfl
          have v2 : (if c < a ∨ (c = a ∧ b < b) then clo ws (c + 1) c b else clo ws c c b) = clo ws c c b := by
            split
            · exact clo_row c b
            · rfl
          have step : ∀ g : Nat → Nat → Bool, (g a b = clo ws (c + 1) a b) → (∀ x y, ¬ (x = a ∧ y = b) → g x y = if x < a ∨ (x = a ∧ y < b) then clo ws (c + 1) x y else clo ws c x y) → ∀ x y, x < n → y < n → g x y = if x < a ∨ (x = a ∧ y < b + 1) then clo ws (c + 1) x y else clo ws c x y := fun g h1 h2 x y _ _ => by
            by_cases z : x = a ∧ y = b
            · obtain ⟨rfl, rfl⟩ := z
              rw [if_pos (by omega)]
              exact h1
            · rw [h2 x y z]
              by_cases u : x < a ∨ (x = a ∧ y < b)
              · rw [if_pos u, if_pos (by omega)]
              · rw [if_neg u, if_neg (by omega)]
          refine ⟨_, rfl, _, rfl, D, _, _, _, rfl, rfl, SqL.of R6.hq, rgl_atI ha, _, rfl, r a, _, _, _, rfl, rfl, SqL.of (R6.hr a ha), rgl_atI hc, _, rfl, ?_⟩
          rw [v1]
          refine ite2 (fun t => ?_) (fun t => ?_)
          · refine ⟨_, rfl, _, rfl, D, _, _, _, rfl, rfl, SqL.of R6.hq, rgl_atI hc, _, rfl, r c, _, _, _, rfl, rfl, SqL.of (R6.hr c hc), rgl_atI hb, _, rfl, ?_⟩
            rw [v2]
            refine ite2 (fun u => ?_) (fun u => ?_)
            · refine ⟨_, rfl, _, rfl, D, _, _, _, rfl, rfl, SqL.of R6.hq, rgl_atI ha, _, rfl, r a, _, _, b, rfl, rfl, R6.hr a ha, ixN_nat (by rw [rgl_len]; exact hb), _, rfl, s6.put (R6.fr _ ha), (R6.set ha).congr (step _ ?_ fun x y z => if_neg z)⟩
              rw [if_pos ⟨rfl, rfl⟩]
              exact (clo_step.mpr (.inr ⟨t, u⟩)).symm
            · refine ⟨_, rfl, s6, R6.congr (step _ ?_ fun x y z => rfl)⟩
              rw [if_neg (by omega)]
              show _ = (clo ws c a b || (clo ws c a c && clo ws c c b))
              rw [Bool.eq_false_iff.mpr u]
              simp
          · refine ⟨_, rfl, s6, R6.congr (step _ ?_ fun x y z => rfl)⟩
            rw [if_neg (by omega)]
            show _ = (clo ws c a b || (clo ws c a c && clo ws c c b))
            rw [Bool.eq_false_iff.mpr t]
            simp
        · rintro σ H6 ⟨w6, rfl, s6, R6⟩
          refine ⟨_, _, rfl, s6, R6.congr fun x y _ hy => ?_⟩
          by_cases z : x < a + 1
          · rw [if_pos z, if_pos (by omega)]
          · rw [if_neg z, if_neg (by omega)]
      · rintro σ H5 ⟨w5, w6, rfl, s5, R5⟩
        exact ⟨_, _, _, _, rfl, s5, R5.congr fun x y hx _ => if_pos hx⟩
    · rintro σ H4 ⟨w3, w4, w5, w6, rfl, s4, R4⟩
      exact ⟨_, rfl, k D r H4 s4 R4⟩
end
end Lk02

set_option maxHeartbeats 8000000
namespace Lk02
open PySem PySem.Spec PyProof.Rows L2 He HkS Bs Clo Lc2
theorem sg_is (c : Nat) : sg c = decide (c ∈ SIGNS.cps.toList) := StrLaws.found_one SIGNS c
theorem tw_drop (g : Nat → Bool) : ∀ l : List Nat, l.drop (l.takeWhile g).length = l.dropWhile g
  | [] => rfl
  | a :: r => by
    rw [List.takeWhile_cons, List.dropWhile_cons]
    cases h : g a with
    | true => exact tw_drop g r
    | false => rfl
theorem dw_nil (g : Nat → Bool) : ∀ l : List Nat, l.dropWhile g = [] ↔ l.all g = true
  | [] => ⟨fun _ => rfl, fun _ => rfl⟩
  | a :: r => by
    rw [List.dropWhile_cons, List.all_cons]
    cases h : g a with
    | true =>
      rw [if_pos rfl, Bool.true_and]
      exact dw_nil g r
    | false => simp
theorem dw_head (g : Nat → Bool) : ∀ (l : List Nat) (c : Nat) (r : List Nat), l.dropWhile g = c :: r → g c = false
  | [], _, _, h => by cases h
  | a :: l, c, r, h => by
    rw [List.dropWhile_cons] at h
    cases e : g a with
    | true =>
      rw [e, if_pos rfl] at h
      exact dw_head g l c r h
    | false =>
      rw [e, if_neg Bool.false_ne_true] at h
      cases h
      exact e
theorem tw_stop (g : Nat → Bool) (c : Nat) (h : g c = false) : ∀ a : List Nat, ((a ++ [c]).takeWhile g).length ≤ a.length
  | [] => by
    show ((c :: []).takeWhile g).length ≤ 0
    rw [List.takeWhile_cons, h]
    exact Nat.le_refl _
  | x :: a => by
    show ((x :: (a ++ [c])).takeWhile g).length ≤ a.length + 1
    rw [List.takeWhile_cons]
    split
    · exact Nat.succ_le_succ (tw_stop g c h a)
    · exact Nat.zero_le _
theorem strip_nil (g : Nat → Bool) (x : Str) : Txt.stripBy g true true x = "" ↔ x.cps.toList.all g = true := by
  have e0 : ("" : Str).length = 0 := by decide +kernel
  have l : x.cps.toList.length = x.length := len_list x
  rw [stripBy_eq]
  show Builtin.Str.strSub x (x.cps.toList.takeWhile g).length (x.length - ((x.cps.toList.drop (x.cps.toList.takeWhile g).length).reverse.takeWhile g).length) = "" ↔ _
  have tl : (x.cps.toList.takeWhile g).length + (x.cps.toList.dropWhile g).length = x.length := by
    rw [← l, ← List.length_append, List.takeWhile_append_dropWhile]
  rw [tw_drop, ← dw_nil]
  cases hd : x.cps.toList.dropWhile g with
  | nil =>
    refine ⟨fun _ => rfl, fun _ => str_ext ?_⟩
    rw [hd, List.length_nil] at tl
    unfold Builtin.Str.strSub
    simp only [Array.toList_extract]
    rw [show (x.cps.toList.takeWhile g).length = x.length by omega]
    simp
    rfl
  | cons c r =>
    refine ⟨fun z => ?_, fun z => by cases z⟩
    rw [hd, List.length_cons] at tl
    have h1 := tw_stop g c (dw_head g _ c r hd) r.reverse
    rw [List.length_reverse] at h1
    have z2 := congrArg Str.length z
    rw [e0, List.reverse_cons] at z2
    have e3 : (Builtin.Str.strSub x (x.cps.toList.takeWhile g).length (x.length - ((r.reverse ++ [c]).takeWhile g).length)).length = (x.length - ((r.reverse ++ [c]).takeWhile g).length) - (x.cps.toList.takeWhile g).length := by
      show (x.cps.extract _ _).size = _
      rw [Array.size_extract]
      show min _ x.length - _ = _
      omega
    rw [e3] at z2
    omega
theorem sg_alnum : ∀ c ∈ SIGNS.cps.toList, Unicode.isAlnum c = true := by decide +kernel
theorem right_name (x : Str) : ((decide (0 < x.length) && decide (x.length < 13)) && (decide (Txt.stripChars x SIGNS = "") && Txt.isalnum x)) = right x := by
  have h1 : Txt.stripChars x SIGNS = "" ↔ x.cps.toList.all sg = true := by
    refine (strip_nil _ x).trans ?_
    rw [List.all_eq_true, List.all_eq_true]
    refine forall_congr' fun c => imp_congr_right fun _ => ?_
    rw [sg_is, Array.contains_iff_mem, ← Array.mem_toList_iff, decide_eq_true_iff]
  unfold right
  by_cases hl : 1 ≤ x.length ∧ x.length ≤ 12
  · rw [decide_eq_true hl, decide_eq_true (show 0 < x.length by omega), decide_eq_true (show x.length < 13 by omega), Bool.true_and, Bool.true_and]
    by_cases ha : x.cps.toList.all sg = true
    · rw [decide_eq_true (h1.mpr ha), ha]
      show (true && (decide (x.length > 0) && x.cps.all Unicode.isAlnum)) = true
      have e : x.cps.all Unicode.isAlnum = true := by
        rw [Array.all_eq_true_iff_forall_mem]
        intro c hc
        have h2 := List.all_eq_true.mp ha c (Array.mem_toList_iff.mpr hc)
        rw [sg_is] at h2
        exact sg_alnum c (of_decide_eq_true h2)
      rw [e, decide_eq_true (show x.length > 0 by omega)]
      rfl
    · rw [decide_eq_false (fun z => ha (h1.mp z)), Bool.eq_false_iff.mpr ha]
      rfl
  · rw [decide_eq_false hl]
    by_cases h0 : 0 < x.length
    · rw [decide_eq_false (show ¬ x.length < 13 by omega)]
      simp
    · rw [decide_eq_false h0]
      simp
section
variable {P : Program} {w : World} {K : PySem.W.Frag} {mg : Str → Option Value} {base : Heap}
def sp__law_right_name : Sp := fun vs H Q _ => ∃ x : Str, vs = [.str x] ∧ x.length ≤ 1000 ∧ Q (.bl (right x)) H
theorem sc__law_right_name : FnScope ["name"] ["name"] (defScope s__law_right_name) := ⟨rfl, rfl, rfl, by decide +kernel, rfl, by decide +kernel, by decide +kernel⟩
theorem ok__law_right_name (Z : Ctx K mg)  : Ok P w K mg base (2) (ga K "_law_right_name") ["name"] sp__law_right_name := by
  refine ok_of (fd__law_right_name Z) sc__law_right_name (fun vs H Q E h => ?_) (fun _ _ _ _ _ _ us hl => match us, hl with | [_], _ => rfl) (fun cdv A outer s H vs Q E hr h => ?_)
  · obtain ⟨_, rfl, _⟩ := h
    rfl
  · obtain ⟨x, rfl, hx, k⟩ := h
    rw [← right_name] at k
    refine ⟨_, (pss_one (ps_ret (pe_and (pe_chain op_lt op_lt pe_int (pe_callB call_len_str (by rfl) (f_len Z) boot_len (pa_cons (pv 0) pa_nil)) pe_int) (pe_and (pe_cmpR op_eq (bmQ PySem.F.plainAttrs_str PySem.F.slot_str_strip PySem.F.type_str_strip mt_stripChars (pv 0) (pa_cons pe_str pa_nil)) pe_str (nomark _)) (pe_one (bmQ0 PySem.F.plainAttrs_str PySem.F.slot_str_isalnum PySem.F.type_str_isalnum mt_isalnum (pv 0))))))), ?_⟩
    refine ⟨_, rfl, x, rfl, small_k (by omega), _, _, rfl, rfl, _, rfl, ite2 (fun c1 => ?_) (fun c1 => ?_)⟩
    · have h1 : 0 < x.length := by
        have := of_decide_eq_true c1
        omega
      rw [decide_eq_true h1, Bool.true_and] at k
      refine ⟨_, _, rfl, rfl, _, rfl, ite2 (fun c2 => ?_) (fun c2 => ?_)⟩
      · have h2 : x.length < 13 := by
          have := of_decide_eq_true c2
          omega
        rw [decide_eq_true h2, Bool.true_and] at k
        refine ⟨_, rfl, rfl, x, SIGNS, rfl, rfl, small_k (by omega), rfl, _, rfl, ite2 (fun c3 => ?_) (fun c3 => ?_)⟩
        · have h3 : Txt.stripChars x SIGNS = "" := by
            have := of_decide_eq_true c3
            injection this
          rw [decide_eq_true h3, Bool.true_and] at k
          exact ⟨_, rfl, rfl, x, rfl, rfl, trivial, k⟩
        · have h3 : ¬ Txt.stripChars x SIGNS = "" := fun z => c3 (by rw [z]; exact decide_eq_true rfl)
          rw [decide_eq_false h3, Bool.false_and] at k
          exact k
      · have h2 : ¬ x.length < 13 := fun z => c2 (decide_eq_true (by omega))
        rw [decide_eq_false h2, Bool.false_and] at k
        exact k
    · have h1 : ¬ 0 < x.length := fun z => c1 (decide_eq_true (by omega))
      rw [decide_eq_false h1, Bool.false_and, Bool.false_and] at k
      exact ⟨_, rfl, iteF k⟩
theorem at_wsS {ws : List Str} {i : Int} (h0 : 0 ≤ i) (h1 : i < ws.length) : ∃ z ∈ ws, atI (ws.map V.str) i = some (V.str z) := by
  have hl : i.toNat < ws.length := by omega
  refine ⟨ws[i.toNat], List.getElem_mem hl, at_of (j := i.toNat) (by omega) ?_⟩
  rw [List.getElem?_map, List.getElem?_eq_getElem hl]
  rfl
def w10 : List Str := ["", "abcdefghijklm", "A", "a-b", "a b", "{a}", "a_", " ", ⟨(List.replicate (13 : Int).toNat ("z" : Str).cps).foldl (· ++ ·) #[]⟩, "<a/b>"]
theorem w10_short : ∀ z ∈ w10, z.length ≤ 20 := by decide +kernel
def strOf : Stmt → Str
  | .Assign _ (.Constant (.str x) _ _) _ => x
  | _ => ""
/-- the signs, as they stand in the text -/
def ODD : Str := strOf ((defBody s__law_odd).getD 3 (.Pass ⟨0, 0, 0, 0⟩))
theorem cut_le (z : Str) (lo hi : Option Int) : (cutS z lo hi).length ≤ z.length := by
  rw [← len_list, ← len_list z]
  unfold cutS
  show ((z.cps.toList.drop _).take _).length ≤ _
  rw [List.length_take, List.length_drop]
  omega
theorem char_at {z : Str} {i : Int} (h0 : 0 ≤ i) (h1 : i < (z.length : Nat)) : ∃ c, atI z.cps.toList i = some c := by
  obtain ⟨n, rfl⟩ : ∃ n : Nat, i = n := ⟨i.toNat, by omega⟩
  have hl : n < z.cps.toList.length := by rw [len_list]; omega
  refine ⟨z.cps.toList[n], ?_⟩
  have h3 : ixN z.cps.toList.length ((n : Nat) : Int) = some n := ixN_nat hl
  unfold atI
  rw [h3]
  exact List.getElem?_eq_getElem hl
def sp__law_odd : Sp := fun vs H Q _ => ∃ st : Addr, vs = [.ref st] ∧ Src H st ∧ ∀ (x : Str) (H' : Hp), Off st H H' → Src H' st → x.length ≤ 100 → Q (.str x) H'
theorem sc__law_odd : FnScope ["state", "words", "pick", "signs", "sign"] ["state"] (defScope s__law_odd) := ⟨rfl, rfl, rfl, by decide +kernel, rfl, by decide +kernel, by decide +kernel⟩
theorem ok__law_odd (Z : Ctx K mg)  : Ok P w K mg base (3) (ga K "_law_odd") ["state"] sp__law_odd := by
  refine ok_of (fd__law_odd Z) sc__law_odd (fun vs H Q E h => ?_) (fun _ _ _ _ _ _ us hl => match us, hl with | [_], _ => rfl) (fun cdv A outer s H vs Q E hr h => ?_)
  · obtain ⟨_, rfl, _⟩ := h
    rfl
  · obtain ⟨st, rfl, S0, k⟩ := h
    refine ⟨_, (pss_cons (ps_s 1 sc__law_odd.nd (pe_lst (pa_cons pe_str (pa_cons pe_str (pa_cons pe_str (pa_cons pe_str (pa_cons pe_str (pa_cons pe_str (pa_cons pe_str (pa_cons pe_str (pa_cons (pe_op ExV.op_mulS pe_str pe_int) (pa_cons pe_str pa_nil))))))))))))
      (pss_cons (ps_s 2 sc__law_odd.nd (pe_cO (ok_pick Z) (hr.mono (by decide)) (g__law_pick Z) (passes_call (takes_of rfl rfl rfl rfl) (fun _ _ _ _ h => h)) (pa_cons (pv 0) (pa_cons pe_int pa_nil))))
      (pss_cons (ps_if (pt_cmpR op_lt (pv 2) pe_int (nomark _)) (pss_one (ps_ret (pe_ix ixL (pv 1) (pv 2) (fun _ _ => rfl)))) pss_nil)
      (pss_cons (ps_s 3 sc__law_odd.nd pe_str)
      (pss_cons (ps_s 4 sc__law_odd.nd (pe_ix ix_str (pv 3) (pe_cO (ok_pick Z) (hr.mono (by decide)) (g__law_pick Z) (passes_call (takes_of rfl rfl rfl rfl) (fun _ _ _ _ h => h)) (pa_cons (pv 0) (pa_cons (pe_callB call_len_str (by rfl) (f_len Z) boot_len (pa_cons (pv 3) pa_nil)) pa_nil))) (fun _ _ => rfl)))
      (pss_one (ps_ret (pe_op op_add_str (pe_op op_add_str (pe_slice sl_str pe_str po_none (po_some (pe_cO (ok_pick Z) (hr.mono (by decide)) (g__law_pick Z) (passes_call (takes_of rfl rfl rfl rfl) (fun _ _ _ _ h => h)) (pa_cons (pv 0) (pa_cons pe_int pa_nil))))) (pv 4)) (pe_slice sl_str pe_str po_none (po_some (pe_cO (ok_pick Z) (hr.mono (by decide)) (g__law_pick Z) (passes_call (takes_of rfl rfl rfl rfl) (fun _ _ _ _ h => h)) (pa_cons (pv 0) (pa_cons pe_int pa_nil))))))))))))), ?_⟩
    refine ⟨_, 13, rfl, rfl, by decide, by decide +kernel, by decide +kernel, by decide, by decide +kernel, by decide +kernel, (by show 10 ≤ sizeLine; decide), fun q nq => ?_⟩
    have s1 : Same H _ := sn (o := .lst (w10.map V.str)) nq
    have e1 : (upd H q (.lst (w10.map V.str))) q = _ := upd_same
    have S1 : Src (upd H q (.lst (w10.map V.str))) st := by
      obtain ⟨c, cs, i, l, m, h1, h2, r⟩ := S0
      exact ⟨c, cs, i, l, m, s1 _ _ h1, s1 _ _ h2, r⟩
    change gName 1 (.ref q) _ (upd H q (.lst (w10.map V.str))) _
    have nq2 : q ≠ st := fun z => by
      obtain ⟨c, cs, i, l, m, h1, _⟩ := S0
      rw [z, h1] at nq
      cases nq
    generalize upd H q (.lst (w10.map V.str)) = H1 at s1 e1 S1 ⊢
    refine ⟨_, rfl, st, 20, rfl, S1, by decide, by decide, fun d H2 d0 d1 k2 S2 => ?_⟩
    have o2 : Off st H H2 := fun b o e n => (k2 b n).trans (s1 b o e)
    refine ⟨_, rfl, _, _, rfl, rfl, _, rfl, ite2 (fun c => ?_) (fun c => ?_)⟩
    · have hd : d < 10 := of_decide_eq_true c
      obtain ⟨z, hz, hat⟩ := at_wsS (ws := w10) d0 hd
      exact ⟨_, rfl, _, rfl, q, _, d, _, rfl, rfl, SqL.of ((k2 q nq2).trans e1), hat, k z H2 o2 S2 (Nat.le_trans (w10_short z hz) (by decide))⟩
    · have ol : ODD.length = 32 := by decide +kernel
      refine ⟨_, rfl, _, rfl, _, rfl, ODD, rfl, small_k (show ODD.length ≤ 100000 by rw [ol]; decide), st, _, rfl, S2, (show (1 : Int) ≤ ((ODD.length : Nat) : Int) by rw [ol]; decide), (show (((ODD.length : Nat) : Int)).natAbs < 2 ^ 200 by rw [ol]; decide), fun d2 H3 e0 e1 k3 S3 => ?_⟩
      obtain ⟨ch, hch⟩ := char_at (z := ODD) e0 e1
      refine ⟨_, _, _, rfl, rfl, small_k (show ODD.length ≤ 100000 by rw [ol]; decide), hch, ?_⟩
      refine ⟨_, rfl, st, 3, rfl, S3, by decide, by decide, fun d3 H4 f0 f1 k4 S4 => ?_⟩
      have l1 := cut_le (Str.ofString "a1") none (some d3)
      have l1' : (Str.ofString "a1").length ≤ 10 := by decide +kernel
      refine ⟨_, rfl, _, rfl, small_k (by omega), _, rfl, _, _, rfl, rfl, small_k (by show _ + 1 ≤ 100000; omega), ?_⟩
      refine ⟨_, rfl, st, 3, rfl, S4, by decide, by decide, fun d5 H5 g0 g1 k5 S5 => ?_⟩
      have l2 := cut_le (Str.ofString "z9") none (some d5)
      have l2' : (Str.ofString "z9").length ≤ 10 := by decide +kernel
      have l3 : (⟨#[ch]⟩ : Str).length = 1 := rfl
      refine ⟨_, rfl, _, rfl, small_k (by omega), _, _, rfl, rfl, small_k (by rw [app_len, l3]; omega), ?_⟩
      exact k _ H5 (fun b o e n => (k5 b n).trans ((k4 b n).trans ((k3 b n).trans (o2 b o e n)))) S5 (by rw [app_len, app_len, l3]; omega)
end
end Lk02

set_option maxHeartbeats 8000000
namespace Lk02
open PySem PySem.Spec PyProof.Rows L2 He HkS Bs Clo Lc2
def mems (n m : Nat) : List Nat := (List.range n).filter fun a => m.testBit a
def outs (n m : Nat) : List Nat := (List.range n).filter fun a => !m.testBit a
def finB (n : Nat) (f : Nat → Nat → Bool) (m : Nat) : Bool := (outs n m).all fun a => !(mems n m).any fun b => f a b
theorem and_eq_iff {m B : Nat} : (m &&& B = B) ↔ ∀ a, B.testBit a = true → m.testBit a = true := by
  constructor
  · intro e a h
    have e2 := congrArg (fun z => Nat.testBit z a) e
    simp only [Nat.testBit_and] at e2
    rw [h, Bool.and_true] at e2
    exact e2
  · intro h
    apply Nat.eq_of_testBit_eq
    intro a
    rw [Nat.testBit_and]
    cases e : B.testBit a with
    | false => rw [Bool.and_false]
    | true => rw [h a e]; rfl
theorem fin_is (n m : Nat) (ws : List (Nat × Nat)) : finB n (clo ws n) m = isDownB n (bel n ws n) m := by
  have e : (finB n (clo ws n) m = true) ↔ (isDownB n (bel n ws n) m = true) := by
    unfold finB isDownB outs mems
    rw [List.all_eq_true, List.all_eq_true]
    constructor
    · intro h i hi
      obtain ⟨hi1, hi2⟩ := List.mem_filter.mp hi
      refine decide_eq_true (and_eq_iff.mpr fun a ha => ?_)
      unfold bel at ha
      rw [bits_test] at ha
      obtain ⟨a1, a2⟩ := ba ha
      have a1 := of_decide_eq_true a1
      cases hm : m.testBit a with
      | true => rfl
      | false =>
        have h2 := h a (List.mem_filter.mpr ⟨List.mem_range.mpr a1, by rw [hm]; rfl⟩)
        have h3 : ((List.range n).filter fun a => m.testBit a).any (fun b => clo ws n a b) = true := List.any_eq_true.mpr ⟨i, hi, a2⟩
        rw [h3] at h2
        cases h2
    · intro h a ha
      obtain ⟨ha1, ha2⟩ := List.mem_filter.mp ha
      have ha1 := List.mem_range.mp ha1
      cases hx : ((List.range n).filter fun a => m.testBit a).any (fun b => clo ws n a b) with
      | false => rfl
      | true =>
        obtain ⟨i, hi, hc⟩ := List.any_eq_true.mp hx
        have h2 := and_eq_iff.mp (of_decide_eq_true (h i hi)) a (by
          unfold bel
          rw [bits_test, decide_eq_true ha1, hc]
          rfl)
        rw [h2] at ha2
        cases ha2
  cases h1 : finB n (clo ws n) m with
  | true => exact (e.mp h1).symm
  | false =>
    cases h2 : isDownB n (bel n ws n) m with
    | false => rfl
    | true =>
      rw [e.mpr h2] at h1
      cases h1
def twinB (n : Nat) (f : Nat → Nat → Bool) (a : Nat) : Bool := (List.range n).any fun b => decide (a ≠ b) && (f a b && f b a)
theorem twin_is (n : Nat) (ws : List (Nat × Nat)) : ((List.range n).any fun a => twinB n (clo ws n) a) = !decide (belI n ws).Nodup := by
  have hb : ∀ a b, a < n → b < n → (bel n ws n a = bel n ws n b ↔ clo ws n a b = true ∧ clo ws n b a = true) := fun a b ha hb => by
    constructor
    · intro e
      have h1 : clo ws n a a = clo ws n a b := bits_inj e ha
      have h2 : clo ws n b a = clo ws n b b := bits_inj e hb
      rw [clo_refl] at h1
      rw [clo_refl] at h2
      exact ⟨h1.symm, h2⟩
    · rintro ⟨h1, h2⟩
      refine bits_congr fun x hx => ?_
      cases e : clo ws n x a with
      | true => exact (clo_tr n a x b ha e h1).symm
      | false =>
        cases e2 : clo ws n x b with
        | false => rfl
        | true =>
          rw [clo_tr n b x a hb e2 h2] at e
          cases e
  have e : ((List.range n).any fun a => twinB n (clo ws n) a) = true ↔ ¬ (belI n ws).Nodup := by
    rw [List.any_eq_true]
    constructor
    · rintro ⟨a, ha, h⟩ nd
      obtain ⟨b, hb2, h2⟩ := List.any_eq_true.mp h
      have ha := List.mem_range.mp ha
      have hb2 := List.mem_range.mp hb2
      obtain ⟨h3, h4⟩ := ba h2
      obtain ⟨h5, h6⟩ := ba h4
      have e2 := (hb a b ha hb2).mpr ⟨h5, h6⟩
      have la : (belI n ws)[a]? = some ((bel n ws n a : Nat) : Int) := by
        unfold belI
        rw [List.getElem?_map, List.getElem?_range ha]
        rfl
      have lb : (belI n ws)[b]? = some ((bel n ws n b : Nat) : Int) := by
        unfold belI
        rw [List.getElem?_map, List.getElem?_range hb2]
        rfl
      rw [e2] at la
      obtain ⟨x1, y1⟩ := List.getElem?_eq_some_iff.mp la
      obtain ⟨x2, y2⟩ := List.getElem?_eq_some_iff.mp lb
      exact (of_decide_eq_true h3) ((List.getElem_inj nd).mp (y1.trans y2.symm))
    · intro nn
      refine Decidable.byContradiction fun z => nn ?_
      unfold belI
      refine List.pairwise_map.mpr (List.Pairwise.imp_of_mem (fun {a b} ha hb2 hlt e2 => ?_) (List.pairwise_lt_range (n := n)))
      have ha := List.mem_range.mp ha
      have hb3 := List.mem_range.mp hb2
      obtain ⟨h5, h6⟩ := (hb a b ha hb3).mp (by omega)
      refine z ⟨a, List.mem_range.mpr ha, List.any_eq_true.mpr ⟨b, hb2, ?_⟩⟩
      show (decide (a ≠ b) && (clo ws n a b && clo ws n b a)) = true
      rw [decide_eq_true (show a ≠ b by omega), h5, h6]
      rfl
  cases h1 : ((List.range n).any fun a => twinB n (clo ws n) a) with
  | true => rw [decide_eq_false (e.mp h1)]; rfl
  | false =>
    have : (belI n ws).Nodup := Decidable.byContradiction fun z => by
      rw [e.mpr z] at h1
      cases h1
    rw [decide_eq_true this]
    rfl
theorem inVB : ∀ bs : List Bool, inV (.bl true) (bs.map V.bl) = bs.any id
  | [] => rfl
  | y :: r => by
    show ((y == true) || inV (.bl true) (r.map V.bl)) = (id y || r.any id)
    rw [inVB r]
    cases y <;> rfl
theorem flatB : ∀ bs : List Bool, (bs.map V.bl).all flatV = true
  | [] => rfl
  | _ :: r => flatB r
theorem hasM (m a : Nat) : decide (V.int ((((m : Nat) : Int) / 2 ^ ((a : Nat) : Int).toNat) % 2) = V.int 1) = m.testBit a := by
  have e1 : ((m : Nat) : Int) / 2 ^ ((a : Nat) : Int).toNat = ((m / 2 ^ a : Nat) : Int) := by
    rw [Int.toNat_natCast]
    norm_cast
  rw [e1, Nat.testBit_eq_decide_div_mod_eq]
  exact decide_eq_decide.mpr ⟨fun z => by injection z with z; omega, fun z => by
    have : ((m / 2 ^ a : Nat) : Int) % 2 = 1 := by omega
    rw [this]⟩
def dueSize (ns : List Str) (ps : List (Str × Str)) (d : Bool) : Int := if d = true then (if okDown ns ps = true then ((downMasks ns.length (wsOf ns ps)).length : Nat) else -1) else (if okOrd ns ps 16 = true then (ns.length : Nat) else -1)
end Lk02

set_option maxHeartbeats 16000000
namespace Lk02
open PySem PySem.Spec PyProof.Rows L2 He HkS Bs Clo Lc2
def memI (n m : Nat) : List Int := (mems n m).map fun a => ((a : Nat) : Int)
def outI (n m : Nat) : List Int := (outs n m).map fun a => ((a : Nat) : Int)
theorem mem_memI {n m i : Nat} (h : i < n) : decide (((i : Nat) : Int) ∈ memI n m) = m.testBit i := by
  unfold memI mems
  cases e : m.testBit i with
  | true => exact decide_eq_true (List.mem_map.mpr ⟨i, List.mem_filter.mpr ⟨List.mem_range.mpr h, e⟩, rfl⟩)
  | false =>
    refine decide_eq_false fun z => ?_
    obtain ⟨j, hj, ej⟩ := List.mem_map.mp z
    have : j = i := by omega
    subst this
    rw [(List.mem_filter.mp hj).2] at e
    cases e
theorem cutV_take {xs : List V} {i : Nat} (h : i ≤ xs.length) : cutV xs none (some ((i : Nat) : Int)) = xs.take i := by
  unfold cutV
  simp only [HT.sIx_none, HT.sIx_nat, Nat.min_eq_left h, Nat.sub_zero, List.drop_zero]
theorem _root_.L2.Same.put' {H H' : Hp} {p : Addr} {o : HO} (s : Same H H') (h : H' p = none) : Same H (upd H' p o) := s.trans (sn h)
section
variable {P : Program} {w : World} {K : PySem.W.Frag} {mg : Str → Option Value} {base : Heap}
def sp__law_size (K : PySem.W.Frag) : Sp := fun vs H Q _ => ∃ (a p : Addr) (ns : List Str) (ps : List (Str × Str)) (d : Bool), vs = [.ref a, .ref p, .bl d] ∧ SqL K H a (ns.map V.str) ∧ ns.length ≤ 100 ∧ (∀ x ∈ ns, x.length ≤ 100) ∧ PairsS K H p ps ∧ ps.length ≤ 100 ∧ ∀ H', Same H H' → Q (.int (dueSize ns ps d)) H'
theorem sc__law_size : FnScope ["names", "pairs", "downs", "most", "k", "pair", "rows", "count", "number", "members", "outside", "fine", "a", "b"] ["names", "pairs", "downs"] (defScope s__law_size) := ⟨rfl, rfl, rfl, by decide +kernel, rfl, by decide +kernel, by decide +kernel⟩
theorem ok__law_size (Z : Ctx K mg)  : Ok P w K mg base (3) (ga K "_law_size") ["names", "pairs", "downs"] (sp__law_size K) := by
  refine ok_of (fd__law_size Z) sc__law_size (fun vs H Q E h => ?_) (fun _ _ _ _ _ _ us hl => match us, hl with | [_, _, _], _ => rfl) (fun cdv A outer s H vs Q E hr h => ?_)
  · obtain ⟨_, _, _, _, _, rfl, _⟩ := h
    rfl
  · obtain ⟨a, p, ns, ps, d, rfl, hS, hn, hx, hp, hpl, k⟩ := h
    refine ⟨_, (C8.pss_cut (ps_s 3 sc__law_size.nd (pe_ifExp (pt_val (pv 2)) pe_int pe_int))
      (pss_cons (ps_if (pt_not (pt_chain op_lt op_le pe_int (pe_callB lenQ (by rfl) (f_len Z) boot_len (pa_cons (pv 0) pa_nil)) (pv 3))) (pss_one (ps_ret (pe_un un_neg pe_int))) pss_nil)
      (pss_cons (ps_for (passes_of rfl) rfl (pi_range1 (by rfl) (f_range Z) (pa_cons (pe_callB lenQ (by rfl) (f_len Z) boot_len (pa_cons (pv 0) pa_nil)) pa_nil)) (pg_n 4 sc__law_size.nd) (pss_one (ps_if (PW.pt (pw_or (pt_not (pt_val (pe_cO (ok__law_right_name Z) (hr.mono (by decide)) (g__law_right_name Z) (passes_call (takes_of rfl rfl rfl rfl) (fun _ _ _ _ h => h)) (pa_cons (pe_ix ixL (pv 0) (pv 4) (fun _ _ => rfl)) pa_nil)))) (pw_or1 (pt_cmpR inQ (pe_ix ixL (pv 0) (pv 4) (fun _ _ => rfl)) (pe_slice slL (pv 0) po_none (po_some (pv 4))) (by rfl))))) (pss_one (ps_ret (pe_un un_neg pe_int))) pss_nil)))
      (pss_cons (ps_for (passes_of rfl) rfl (listI (pv 1)) (pg_n 5 sc__law_size.nd) (pss_one (ps_if (PW.pt (pw_or (pt_cmpR ninQ (pe_ix ixT (pv 5) pe_int (fun _ _ => rfl)) (pv 0) (by rfl)) (pw_or1 (pt_cmpR ninQ (pe_ix ixT (pv 5) pe_int (fun _ _ => rfl)) (pv 0) (by rfl))))) (pss_one (ps_ret (pe_un un_neg pe_int))) pss_nil)))
      (pss_cons (ps_if (pt_not (pt_val (pv 2))) (pss_one (ps_ret (pe_callB lenQ (by rfl) (f_len Z) boot_len (pa_cons (pv 0) pa_nil)))) pss_nil)
      (pss_cons (ps_s 6 sc__law_size.nd (pe_cO (ok__law_closed Z) (hr.mono (by decide)) (g__law_closed Z) (passes_call (takes_of rfl rfl rfl rfl) (fun _ _ _ _ h => h)) (pa_cons (pe_callB lenQ (by rfl) (f_len Z) boot_len (pa_cons (pv 0) pa_nil)) (pa_cons (pe_lc (own := [("pair", 5)]) (g := gName 5) (tt := tYes) rfl sc__law_size.nd (listI (pv 1)) (blkOk_by (N := ["names", "pairs", "downs", "most", "k", "pair", "rows", "count", "number", "members", "outside", "fine", "a", "b"]) (sc := defScope s__law_size) (by decide +kernel)) (fun _ _ _ _ _ => (pg_n 5 sc__law_size.nd)) (fun _ _ _ _ _ => pts_nil) (fun _ _ _ _ _ => (pe_lst (pa_cons (bmQ PySem.F.plainAttrs_list PySem.F.slot_list_index PySem.F.type_list_index mtIx (pv 0) (pa_cons (pe_ix ixT (pv 5) pe_int (fun _ _ => rfl)) pa_nil)) (pa_cons (bmQ PySem.F.plainAttrs_list PySem.F.slot_list_index PySem.F.type_list_index mtIx (pv 0) (pa_cons (pe_ix ixT (pv 5) pe_int (fun _ _ => rfl)) pa_nil)) pa_nil))))) pa_nil))))
      (pss_cons (ps_s 7 sc__law_size.nd pe_int)
      (pss_cons (ps_for (passes_of rfl) rfl (pi_range1 (by rfl) (f_range Z) (pa_cons (pe_op op_shl pe_int (pe_callB lenQ (by rfl) (f_len Z) boot_len (pa_cons (pv 0) pa_nil))) pa_nil)) (pg_n 8 sc__law_size.nd) (pss_cons (ps_s 9 sc__law_size.nd (pe_lc (own := [("a", 12)]) (g := gName 12) rfl sc__law_size.nd (pi_range1 (by rfl) (f_range Z) (pa_cons (pe_callB lenQ (by rfl) (f_len Z) boot_len (pa_cons (pv 0) pa_nil)) pa_nil)) (blkOk_by (N := ["names", "pairs", "downs", "most", "k", "pair", "rows", "count", "number", "members", "outside", "fine", "a", "b"]) (sc := defScope s__law_size) (by decide +kernel)) (fun _ _ _ _ _ => (pg_n 12 sc__law_size.nd)) (fun _ _ _ _ _ => (pts_one (pt_cmpR op_eq (pe_op op_mod (pe_callTy call_int1 (by rfl) (f_int Z) (by decide +kernel) (pa_cons (pe_op op_shr (pv 8) (pv 12)) pa_nil)) pe_int) pe_int (nomark _)))) (fun _ _ _ _ _ => (pv 12))))
      (pss_cons (ps_setLc (i := 10) (own := [("a", 12)]) (g := gName 12) rfl sc__law_size.nd rfl rfl (sw_true rfl rfl rfl (by decide +kernel)) (pi_range1 (by rfl) (f_range Z) (pa_cons (pe_callB lenQ (by rfl) (f_len Z) boot_len (pa_cons (pv 0) pa_nil)) pa_nil)) (blkOk_by (N := ["names", "pairs", "downs", "most", "k", "pair", "rows", "count", "number", "members", "outside", "fine", "a", "b"]) (sc := defScope s__law_size) (by decide +kernel)) (fun _ _ _ _ _ => (pg_n 12 sc__law_size.nd)) (fun _ _ _ _ _ => (pts_one (pt_cmpR ninQ (pv 12) (pv 9) (by rfl)))) (fun _ _ _ _ _ => (pv 12)))
      (pss_cons (ps_s 11 sc__law_size.nd pe_bl)
      (pss_cons (ps_for (passes_of rfl) rfl (listI (pv 10)) (pg_n 12 sc__law_size.nd) (pss_one (ps_s 11 sc__law_size.nd (pe_and (pv 11) (pe_one (pe_cmpR ninQ pe_bl (pe_lc (own := [("b", 13)]) (g := gName 13) (tt := tYes) rfl sc__law_size.nd (listI (pv 9)) (blkOk_by (N := ["names", "pairs", "downs", "most", "k", "pair", "rows", "count", "number", "members", "outside", "fine", "a", "b"]) (sc := defScope s__law_size) (by decide +kernel)) (fun _ _ _ _ _ => (pg_n 13 sc__law_size.nd)) (fun _ _ _ _ _ => pts_nil) (fun _ _ _ _ _ => (pe_ix ixL (pe_ix ixL (pv 6) (pv 12) (fun _ _ => rfl)) (pv 13) (fun _ _ => rfl)))) (by rfl)))))))
      (pss_one (ps_s 7 sc__law_size.nd (pe_op op_add (pv 7) (pe_callTy call_int1 (by rfl) (f_int Z) (by decide +kernel) (pa_cons (pv 11) pa_nil))))))))))
      (pss_cons (ps_for (passes_of rfl) rfl (pi_range1 (by rfl) (f_range Z) (pa_cons (pe_callB lenQ (by rfl) (f_len Z) boot_len (pa_cons (pv 0) pa_nil)) pa_nil)) (pg_n 12 sc__law_size.nd) (pss_one (ps_if (pt_cmpR inQ pe_bl (pe_lc (own := [("b", 13)]) (g := gName 13) (tt := tYes) rfl sc__law_size.nd (pi_range1 (by rfl) (f_range Z) (pa_cons (pe_callB lenQ (by rfl) (f_len Z) boot_len (pa_cons (pv 0) pa_nil)) pa_nil)) (blkOk_by (N := ["names", "pairs", "downs", "most", "k", "pair", "rows", "count", "number", "members", "outside", "fine", "a", "b"]) (sc := defScope s__law_size) (by decide +kernel)) (fun _ _ _ _ _ => (pg_n 13 sc__law_size.nd)) (fun _ _ _ _ _ => pts_nil) (fun _ _ _ _ _ => (pe_and (pe_cmpR op_ne (pv 12) (pv 13) (nomark _)) (pe_and (pe_ix ixL (pe_ix ixL (pv 6) (pv 12) (fun _ _ => rfl)) (pv 13) (fun _ _ => rfl)) (pe_one (pe_ix ixL (pe_ix ixL (pv 6) (pv 13) (fun _ _ => rfl)) (pv 12) (fun _ _ => rfl))))))) (by rfl)) (pss_one (ps_ret (pe_un un_neg pe_int))) pss_nil)))
      (pss_one (ps_ret (pv 7)))))))))))), ?_⟩
    have hl : (ns.map V.str).length = ns.length := List.length_map ..
    have e0 : ∀ i : Nat, (0 : Int) + (i : Nat) = (i : Nat) := fun i => by omega
    refine ⟨fun σ H1 => σ = [some (.ref a), some (.ref p), some (.bl d), some (.int (if d = true then 6 else 16)), none, none, none, none, none, none, none, none, none, none] ∧ H1 = H, ?_, ?_⟩
    · cases d with
      | true => exact ⟨_, rfl, true, rfl, iteT ⟨rfl, rfl⟩⟩
      | false => exact ⟨_, rfl, false, rfl, iteF ⟨rfl, rfl⟩⟩
    rintro σ H1 ⟨rfl, rfl⟩
    have bad : ∀ H', Same H1 H' → okOrd ns ps (if d = true then 6 else 16) = false → Q (.int (-1)) H' := fun H' s e => by
      have q := k H' s
      unfold dueSize okDown at q
      cases d with
      | true =>
        rw [if_pos rfl] at e
        rw [if_pos rfl, e, Bool.false_and, if_neg Bool.false_ne_true] at q
        exact q
      | false =>
        rw [if_neg Bool.false_ne_true] at e
        rw [if_neg Bool.false_ne_true, e, if_neg Bool.false_ne_true] at q
        exact q
    generalize hm : (if d = true then (6 : Int) else 16) = most at bad ⊢
    -- how many
    refine ⟨_, rfl, a, _, rfl, .inl hS, _, _, rfl, rfl, _, rfl, ite2 (fun c1 => ?_) (fun c1 => ?_)⟩
    case refine_2 =>
      have h1 : ¬ 1 ≤ ns.length := fun z => c1 (decide_eq_true (by rw [hl]; omega))
      exact ⟨_, rfl, iteT ⟨_, rfl, bad H1 (Same.refl _) (by unfold okOrd; rw [decide_eq_false h1]; rfl)⟩⟩
    have h1 : 1 ≤ ns.length := by
      have := of_decide_eq_true c1
      omega
    refine ⟨_, rfl, _, _, rfl, rfl, _, rfl, ?_⟩
    rw [hl]
    by_cases h2 : (ns.length : Int) ≤ most
    case neg =>
      rw [decide_eq_false h2]
      exact iteT ⟨_, rfl, bad H1 (Same.refl _) (by unfold okOrd; rw [decide_eq_false h2, Bool.and_false]; rfl)⟩
    rw [decide_eq_true h2]
    refine iteF ?_
    -- the names
    refine ⟨_, rfl, a, _, rfl, .inl hS, _, rfl, by omega, by omega, ?_⟩
    rw [hl, Int.toNat_natCast]
    refine for_range (lo := 0) (n := ns.length) (fun i σ H2 => ∃ v4 : Option V, σ = [some (.ref a), some (.ref p), some (.bl d), some (.int most), v4, none, none, none, none, none, none, none, none, none] ∧ Same H1 H2 ∧ (ns.take i).all right = true ∧ (ns.take i).Nodup) ⟨none, rfl, Same.refl _, rfl, List.nodup_nil⟩ ?_ ?_
    · rintro i σ H2 hi ⟨v4, rfl, s2, al, nd⟩
      rw [e0]
      have hS2 := s2.seq hS
      have at1 : atI (ns.map V.str) ((i : Nat) : Int) = some (V.str (ns.getD i "")) := at_of (j := i) (by omega) (mapS (nm_at hi))
      have et : ns.take (i + 1) = ns.take i ++ [ns.getD i ""] := by
        rw [List.take_succ, nm_at hi]
        rfl
      have badN : (ns.all right = false ∨ ¬ ns.Nodup) → ∀ H', Same H1 H' → Q (.int (-1)) H' := fun z H' s => bad H' s (by
        unfold okOrd
        rcases z with z | z
        · rw [z, Bool.false_and, Bool.and_false, Bool.and_false]
        · rw [decide_eq_false z, Bool.false_and, Bool.and_false])
      refine ⟨_, rfl, _, rfl, a, _, _, _, rfl, rfl, hS2, at1, ns.getD i "", rfl, Nat.le_trans (hx _ (List.mem_of_getElem? (nm_at hi))) (by decide), _, rfl, ite2 (fun t => ?_) (fun t => ?_)⟩
      · have t2 : right (ns.getD i "") = false := by simpa using t
        exact iteT ⟨_, rfl, badN (.inl (Bool.eq_false_iff.mpr fun z => by
          have := List.all_eq_true.mp z _ (List.mem_of_getElem? (nm_at hi))
          rw [t2] at this
          cases this)) H2 s2⟩
      · have t2 : right (ns.getD i "") = true := by simpa using t
        refine ⟨_, rfl, _, rfl, a, _, _, _, rfl, rfl, hS2, at1, _, rfl, _, rfl, _, rfl, a, _, rfl, hS2, fun q nq => ⟨_, _, rfl, .inl (SqL.of upd_same), rfl, ?_, _, rfl, ?_⟩⟩
        · rw [cutV_take (by rw [hl]; omega), ← List.map_take]
          exact flatS _
        · rw [cutV_take (by rw [hl]; omega), ← List.map_take]
          show if inV (V.str (ns.getD i "")) ((ns.take i).map V.str) = true then _ else _
          rw [inVS]
          by_cases m : ns.getD i "" ∈ ns.take i
          · rw [decide_eq_true m]
            refine iteT ⟨_, rfl, badN (.inr fun z => ?_) _ (s2.put' nq)⟩
            have z2 : (ns.take (i + 1)).Nodup := List.Nodup.sublist (List.take_sublist _ _) z
            rw [et, List.nodup_append] at z2
            exact z2.2.2 _ m _ (List.mem_singleton.mpr rfl) rfl
          · rw [decide_eq_false m]
            refine iteF ⟨_, rfl, s2.put' nq, ?_, ?_⟩
            · rw [et, List.all_append, al]
              show (true && (right (ns.getD i "") && true)) = true
              rw [t2]
              rfl
            · rw [et, List.nodup_append]
              refine ⟨nd, by simp, fun x hx y hy e => ?_⟩
              rw [List.mem_singleton] at hy
              rw [e, hy] at hx
              exact m hx
    rintro σ H2 ⟨v4, rfl, s2, al, nd⟩
    rw [List.take_of_length_le (Nat.le_refl _)] at al nd
    obtain ⟨ts, t1, t2, t3⟩ := hp
    -- the pairs
    refine ⟨_, rfl, p, rfl, ⟨_, s2.seq t1⟩, ?_⟩
    refine for_list (K := K) (a := p) (xs := ts.map V.ref) (fun i σ H3 => ∃ v5 : Option V, σ = [some (.ref a), some (.ref p), some (.bl d), some (.int most), v4, v5, none, none, none, none, none, none, none, none] ∧ Same H2 H3 ∧ (ps.take i).all (fun q => decide (q.1 ∈ ns) && decide (q.2 ∈ ns)) = true) ⟨none, rfl, Same.refl _, rfl⟩ (fun i σ H3 _ ⟨_, _, s3, _⟩ => s3.seq (s2.seq t1)) ?_ ?_
    · rintro i x σ H3 hxi ⟨v5, rfl, s3, alp⟩
      rw [List.getElem?_map] at hxi
      obtain ⟨t, ht, rfl⟩ := Option.map_eq_some_iff.mp hxi
      have hi : i < ps.length := by
        rw [← t2]
        exact (List.getElem?_eq_some_iff.mp ht).1
      obtain ⟨q, hq⟩ : ∃ q, ps[i]? = some q := ⟨ps[i], List.getElem?_eq_getElem hi⟩
      have hS3 := s3.seq (s2.seq hS)
      have tq := s3.tup (s2.tup (t3 i t q ht hq))
      have badq : (decide (q.1 ∈ ns) && decide (q.2 ∈ ns)) = false → Q (.int (-1)) H3 := fun z => bad H3 (s2.trans s3) (by
        have z2 : (ps.all fun q => decide (q.1 ∈ ns) && decide (q.2 ∈ ns)) = false := by
          refine Bool.eq_false_iff.mpr fun y => ?_
          have := List.all_eq_true.mp y q (List.mem_of_getElem? hq)
          rw [z] at this
          cases this
        unfold okOrd
        rw [z2, Bool.and_false, Bool.and_false, Bool.and_false])
      refine ⟨_, rfl, t, _, 0, _, rfl, rfl, tq, rfl, _, rfl, _, _, rfl, .inl hS3, rfl, flatS ns, _, rfl, ?_⟩
      show if (!inV (V.str q.1) (ns.map V.str)) = true then _ else _
      rw [inVS]
      by_cases m1 : q.1 ∈ ns
      · rw [decide_eq_true m1]
        refine iteF ⟨_, rfl, t, _, 1, _, rfl, rfl, tq, rfl, _, rfl, _, _, rfl, .inl hS3, rfl, flatS ns, _, rfl, ?_⟩
        show if (!inV (V.str q.2) (ns.map V.str)) = true then _ else _
        rw [inVS]
        by_cases m2 : q.2 ∈ ns
        · rw [decide_eq_true m2]
          refine iteF ⟨_, rfl, s3, ?_⟩
          rw [List.take_succ, hq, List.all_append, alp]
          show (true && ((decide (q.1 ∈ ns) && decide (q.2 ∈ ns)) && true)) = true
          rw [decide_eq_true m1, decide_eq_true m2]
          rfl
        · rw [decide_eq_false m2]
          exact iteT ⟨_, rfl, badq (by rw [decide_eq_false m2, Bool.and_false])⟩
      · rw [decide_eq_false m1]
        exact iteT ⟨_, rfl, badq (by rw [decide_eq_false m1, Bool.false_and])⟩
    rintro σ H3 ⟨v5, rfl, s3, alp⟩
    rw [List.length_map, t2, List.take_of_length_le (Nat.le_refl _)] at alp
    have s13 := s2.trans s3
    have ok : okOrd ns ps most = true := by
      unfold okOrd
      rw [decide_eq_true h1, decide_eq_true h2, decide_eq_true nd, al, alp]
      rfl
    have hS3 := s13.seq hS
    -- no DownLattice
    cases d with
    | false =>
      refine ⟨_, rfl, _, rfl, iteT ⟨_, rfl, a, _, rfl, .inl hS3, ?_⟩⟩
      have q := k H3 s13
      unfold dueSize at q
      rw [if_neg Bool.false_ne_true] at hm
      rw [if_neg Bool.false_ne_true, hm, ok, if_pos rfl] at q
      rw [hl]
      exact q
    | true =>
      rw [if_pos rfl] at hm
      subst hm
      refine ⟨_, rfl, _, rfl, iteF ?_⟩
      obtain ⟨wb, wl⟩ := ws_back alp
      have due : ∀ H', Same H1 H' → Q (.int (if (belI ns.length (wsOf ns ps)).Nodup then (((downMasks ns.length (wsOf ns ps)).length : Nat) : Int) else -1)) H' := fun H' s => by
        have q := k H' s
        unfold dueSize okDown at q
        rw [if_pos rfl, ok, Bool.true_and] at q
        by_cases z : (belI ns.length (wsOf ns ps)).Nodup
        · rw [decide_eq_true z, if_pos rfl] at q
          rw [if_pos z]
          exact q
        · rw [decide_eq_false z, if_neg Bool.false_ne_true] at q
          rw [if_neg z]
          exact q
      -- the pairs by places
      refine ⟨_, rfl, a, _, rfl, .inl hS3, _, rfl, p, rfl, ⟨_, s3.seq (s2.seq t1)⟩, fun D hD => ?_⟩
      rw [hl]
      have wlen : (wsOf ns ps).length = ps.length := by
        unfold wsOf
        rw [List.length_map]
      refine walk_l (K := K) (a := p) (xs := ts.map V.ref) (fun i H4 => Same H3 H4 ∧ ∃ us : List Addr, H4 D = some (.lst (us.map V.ref)) ∧ us.length = i ∧ ∀ (j : Nat) (u : Addr) (w : Nat × Nat), us[j]? = some u → (wsOf ns ps)[j]? = some w → H4 u = some (.lst [.int (w.1 : Nat), .int (w.2 : Nat)])) ⟨sn hD, [], upd_same, rfl, fun j u w z => by simp at z⟩ (fun i H4 _ ⟨s4, _⟩ => s4.seq (s3.seq (s2.seq t1))) ?_ ?_
      · rintro i x H4 hxi ⟨s4, us, hd, ul, ue⟩
        rw [List.getElem?_map] at hxi
        obtain ⟨t, ht, rfl⟩ := Option.map_eq_some_iff.mp hxi
        have hi : i < ps.length := by
          rw [← t2]
          exact (List.getElem?_eq_some_iff.mp ht).1
        obtain ⟨q, hq⟩ : ∃ q, ps[i]? = some q := ⟨ps[i], List.getElem?_eq_getElem hi⟩
        have hS4 := s4.seq hS3
        have tq := s4.tup (s3.tup (s2.tup (t3 i t q ht hq)))
        obtain ⟨qa, qb⟩ := ba (List.all_eq_true.mp alp q (List.mem_of_getElem? hq))
        have qa := of_decide_eq_true qa
        have qb := of_decide_eq_true qb
        have ia : ns[ns.idxOf q.1]? = some q.1 := by
          have lt := List.idxOf_lt_length_of_mem qa
          rw [List.getElem?_eq_getElem lt, List.getElem_idxOf]
        have ib : ns[ns.idxOf q.2]? = some q.2 := by
          have lt := List.idxOf_lt_length_of_mem qb
          rw [List.getElem?_eq_getElem lt, List.getElem_idxOf]
        refine ⟨rfl, _, rfl, .inl ⟨rfl, _, hS4⟩, _, rfl, t, _, 0, _, rfl, rfl, tq, rfl, a, _, _, ns.idxOf q.1, .str q.1, rfl, rfl, hS4, rfl, flatS ns, mapS ia, eqS _, firstS nd ia, ?_⟩
        refine ⟨_, rfl, .inl ⟨rfl, _, hS4⟩, _, rfl, t, _, 1, _, rfl, rfl, tq, rfl, a, _, _, ns.idxOf q.2, .str q.2, rfl, rfl, hS4, rfl, flatS ns, mapS ib, eqS _, firstS nd ib, (by show 2 ≤ sizeLine; decide), fun u nu => ?_⟩
        have nDu : D ≠ u := fun z => by rw [← z, hd] at nu; cases nu
        refine ⟨_, (upd_ne nDu).trans hd, small_k2 (by rw [List.length_map]; omega), (s4.put' nu).put hD, us ++ [u], ?_, by rw [List.length_append, ul]; rfl, fun j v w hv hw => ?_⟩
        · rw [upd_same, List.map_append]
          rfl
        · by_cases jl : j < us.length
          · rw [List.getElem?_append_left jl] at hv
            have e := ue j v w hv hw
            have nv : v ≠ D := fun z => by
              rw [z, hd] at e
              have e := Option.some.inj e
              injection e with e
              cases us with
              | nil => exact absurd jl (Nat.not_lt_zero _)
              | cons _ _ => cases e
            rw [upd_ne nv, upd_ne (ne_of_none e nu)]
            exact e
          · have hjl := (List.getElem?_eq_some_iff.mp hv).1
            rw [List.length_append] at hjl
            have ej : j = us.length := by
              have : ([u] : List Addr).length = 1 := rfl
              omega
            subst ej
            rw [List.getElem?_append_right (Nat.le_refl _), Nat.sub_self] at hv
            have ev : v = u := by
              have : some u = some v := hv
              exact (Option.some.inj this).symm
            subst ev
            rw [ul] at hw
            unfold wsOf at hw
            rw [List.getElem?_map, hq] at hw
            cases hw
            rw [upd_ne (Ne.symm nDu), upd_same]
      rintro H4 ⟨s4, us, hd, ul, ue⟩
      rw [List.length_map, t2] at ul
      have n6 : ns.length ≤ 6 := by omega
      refine ⟨ns.length, D, wsOf ns ps, rfl, by omega, ⟨us, SqL.of hd, by rw [ul, wlen], fun i t w a b => SqL.of (ue i t w a b)⟩, wl, fun R r H5 s5 Rw => ?_⟩
      have s15 := s13.trans (s4.trans s5)
      generalize wsOf ns ps = ws at due wl Rw ⊢
      have hS5 := s15.seq hS
      have p64 : 2 ^ ns.length ≤ 64 := Nat.le_trans (Nat.pow_le_pow_right (by decide) n6) (by decide)
      have e2 : (1 : Int) * 2 ^ (((ns.map V.str).length : Nat) : Int).toNat = ((2 ^ ns.length : Nat) : Int) := by rw [hl, shl1]
      have hb1 : -(2 ^ 62) ≤ (1 : Int) * 2 ^ (((ns.map V.str).length : Nat) : Int).toNat := by
        rw [e2]
        generalize 2 ^ ns.length = z at p64
        omega
      have hb2 : (1 : Int) * 2 ^ (((ns.map V.str).length : Nat) : Int).toNat < 2 ^ 62 := by
        rw [e2]
        generalize 2 ^ ns.length = z at p64
        omega
      refine ⟨_, rfl, a, _, rfl, .inl hS5, _, _, rfl, rfl, ⟨by omega, by omega, by decide⟩, _, rfl, hb1, hb2, ?_⟩
      rw [e2, Int.toNat_natCast]
      refine for_range (lo := 0) (n := 2 ^ ns.length) (fun m σ H6 => ∃ v8 v9 v10 v11 v12 : Option V, σ = [some (.ref a), some (.ref p), some (.bl true), some (.int 6), v4, v5, some (.ref R), some (.int ((((List.range m).filter fun m => isDownB ns.length (bel ns.length ws ns.length) m).length : Nat) : Int)), v8, v9, v10, v11, v12, none] ∧ Same H5 H6) ⟨none, none, none, none, none, rfl, Same.refl _⟩ ?_ ?_
      · rintro m σ H6 hmm ⟨v8, v9, v10, v11, v12, rfl, s6⟩
        rw [e0]
        have hS6 := s6.seq hS5
        -- members
        refine ⟨_, rfl, a, _, rfl, .inl hS6, _, rfl, by omega, by omega, fun D1 hD1 => ?_⟩
        rw [hl, Int.toNat_natCast]
        refine walk_r (lo := 0) (n := ns.length) (fun i H7 => Same H6 H7 ∧ H7 D1 = some (.lst ((((List.range i).filter fun a => m.testBit a).map fun a => ((a : Nat) : Int)).map V.int))) ⟨sn hD1, upd_same⟩ ?_ ?_
        · rintro i H7 hi ⟨sm, hd1⟩
          rw [e0]
          have fl := filt_len (fun a => m.testBit a) i
          refine ⟨rfl, _, rfl, _, rfl, _, _, rfl, rfl, (show (0 : Int) ≤ ((i : Nat) : Int) by omega), .inl ⟨_, rfl, _, _, rfl, rfl, (show (0 : Int) < 2 by decide), rfl, _, rfl, ?_⟩⟩
          show if decide (V.int ((((m : Nat) : Int) / 2 ^ ((i : Nat) : Int).toNat) % 2) = V.int 1) = true then _ else _
          rw [hasM]
          refine ite2 (fun t => ?_) (fun t => ?_)
          · refine ⟨_, rfl, _, hd1, small_k2 (by rw [List.length_map, List.length_map]; omega), sm.put hD1, ?_⟩
            rw [upd_same, filt_succ, if_pos t, List.map_append, List.map_append]
            rfl
          · refine ⟨sm, ?_⟩
            rw [hd1, filt_succ, if_neg t, List.append_nil]
        rintro H7 ⟨s7, hd1⟩
        have hd1 : H7 D1 = some (.lst ((memI ns.length m).map V.int)) := hd1
        -- outside
        refine ⟨_, rfl, a, _, rfl, .inl (s7.seq hS6), _, rfl, by omega, by omega, fun D2 hD2 => ?_⟩
        rw [hl, Int.toNat_natCast]
        refine walk_r (lo := 0) (n := ns.length) (fun i H8 => Same H7 H8 ∧ H8 D2 = some (.lst ((((List.range i).filter fun a => !m.testBit a).map fun a => ((a : Nat) : Int)).map V.int))) ⟨sn hD2, upd_same⟩ ?_ ?_
        · rintro i H8 hi ⟨sm, hd2⟩
          rw [e0]
          have fl := filt_len (fun a => !m.testBit a) i
          refine ⟨rfl, _, rfl, _, rfl, _, _, rfl, .inl (SqL.of (sm _ _ hd1)), rfl, flatI _, _, rfl, ?_⟩
          show if (!inV (V.int ((i : Nat) : Int)) ((memI ns.length m).map V.int)) = true then _ else _
          rw [inVI, mem_memI hi]
          refine ite2 (fun t => ?_) (fun t => ?_)
          · refine ⟨_, rfl, _, hd2, small_k2 (by rw [List.length_map, List.length_map]; omega), sm.put hD2, ?_⟩
            rw [upd_same, filt_succ, if_pos t, List.map_append, List.map_append]
            rfl
          · refine ⟨sm, ?_⟩
            rw [hd2, filt_succ, if_neg t, List.append_nil]
        rintro H8 ⟨s8, hd2⟩
        have hd2 : H8 D2 = some (.lst ((outI ns.length m).map V.int)) := hd2
        have hd1 := s8 _ _ hd1
        have s58 := s6.trans (s7.trans s8)
        have Rw8 := Rw.same s58
        -- fine
        refine ⟨_, rfl, D2, rfl, ⟨_, SqL.of hd2⟩, ?_⟩
        refine for_list (K := K) (a := D2) (xs := (outI ns.length m).map V.int) (fun j σ H9 => ∃ v12 : Option V, σ = [some (.ref a), some (.ref p), some (.bl true), some (.int 6), v4, v5, some (.ref R), some (.int ((((List.range m).filter fun m => isDownB ns.length (bel ns.length ws ns.length) m).length : Nat) : Int)), some (.int (m : Nat)), some (.ref D1), some (.ref D2), some (.bl (((outs ns.length m).take j).all fun a => !(mems ns.length m).any fun b => clo ws ns.length a b)), v12, none] ∧ Same H8 H9) ⟨_, rfl, Same.refl _⟩ (fun j σ H9 _ ⟨_, _, s9⟩ => SqL.of (s9 _ _ hd2)) ?_ ?_
        · rintro j x σ H9 hxj ⟨v12, rfl, s9⟩
          rw [List.getElem?_map] at hxj
          obtain ⟨y, hy, rfl⟩ := Option.map_eq_some_iff.mp hxj
          unfold outI at hy
          rw [List.getElem?_map] at hy
          obtain ⟨b, hb, rfl⟩ := Option.map_eq_some_iff.mp hy
          have hbn : b < ns.length := List.mem_range.mp (List.mem_filter.mp (List.mem_of_getElem? hb)).1
          have Rw9 := Rw8.same s9
          have nextF : (((outs ns.length m).take (j + 1)).all fun a => !(mems ns.length m).any fun b => clo ws ns.length a b) = ((((outs ns.length m).take j).all fun a => !(mems ns.length m).any fun b => clo ws ns.length a b) && !(mems ns.length m).any fun c => clo ws ns.length b c) := by
            rw [List.take_succ, hb, List.all_append]
            show (_ && (_ && true)) = _
            rw [Bool.and_true]
          refine ⟨_, rfl, _, rfl, ite2 (fun t => ?_) (fun t => ?_)⟩
          · refine ⟨_, rfl, D1, rfl, ⟨_, SqL.of (s9 _ _ hd1)⟩, fun D3 hD3 => ?_⟩
            refine walk_l (K := K) (a := D1) (xs := (memI ns.length m).map V.int) (fun i H10 => Same H9 H10 ∧ H10 D3 = some (.lst ((((mems ns.length m).take i).map fun c => clo ws ns.length b c).map V.bl))) ⟨sn hD3, upd_same⟩ (fun i H10 _ ⟨sm, _⟩ => SqL.of (sm _ _ (s9 _ _ hd1))) ?_ ?_
            · rintro i x H10 hxi ⟨sm, hd3⟩
              rw [List.getElem?_map] at hxi
              obtain ⟨y, hy, rfl⟩ := Option.map_eq_some_iff.mp hxi
              unfold memI at hy
              rw [List.getElem?_map] at hy
              obtain ⟨c, hc, rfl⟩ := Option.map_eq_some_iff.mp hy
              have hcn : c < ns.length := List.mem_range.mp (List.mem_filter.mp (List.mem_of_getElem? hc)).1
              have Rw10 := Rw9.same sm
              have ml : (mems ns.length m).length ≤ ns.length := filt_len _ _
              refine ⟨rfl, _, rfl, _, rfl, R, _, _, _, rfl, rfl, SqL.of Rw10.hq, rgl_atI hbn, _, rfl, r b, _, _, _, rfl, rfl, SqL.of (Rw10.hr b hbn), rgl_atI hcn, _, hd3, small_k2 (by rw [List.length_map, List.length_map, List.length_take]; omega), sm.put hD3, ?_⟩
              rw [upd_same, List.take_succ, hc, List.map_append, List.map_append]
              rfl
            · rintro H10 ⟨sm, hd3⟩
              rw [List.length_map, show (memI ns.length m).length = (mems ns.length m).length from List.length_map .., List.take_of_length_le (Nat.le_refl _)] at hd3
              refine ⟨_, _, rfl, .inl (SqL.of hd3), rfl, flatB _, some (.int (b : Nat)), ?_, s9.trans sm⟩
              rw [nextF, t, Bool.true_and]
              have e5 : inV (V.bl true) (((mems ns.length m).map fun c => clo ws ns.length b c).map V.bl) = (mems ns.length m).any fun c => clo ws ns.length b c := by
                rw [inVB, List.any_map]
                rfl
              show [_, _, _, _, _, _, _, _, _, _, _, some (V.bl (!inV (V.bl true) (((mems ns.length m).map fun c => clo ws ns.length b c).map V.bl))), _, _] = _
              rw [e5]
          · refine ⟨some (.int (b : Nat)), ?_, s9⟩
            rw [nextF, Bool.eq_false_iff.mpr t, Bool.false_and]
            rfl
        · rintro σ H9 ⟨v12, rfl, s9⟩
          have oo : (outs ns.length m).length = ((outI ns.length m).map V.int).length := by
            unfold outI
            rw [List.length_map, List.length_map]
          rw [← oo, List.take_of_length_le (Nat.le_refl _)]
          refine ⟨_, rfl, _, rfl, .inr ⟨_, rfl, _, _, rfl, rfl, some (.int (m : Nat)), some (.ref D1), some (.ref D2), some (.bl ((outs ns.length m).all fun a => !(mems ns.length m).any fun b => clo ws ns.length a b)), v12, ?_, s58.trans s9⟩⟩
          have e6 : ((outs ns.length m).all fun a => !(mems ns.length m).any fun b => clo ws ns.length a b) = isDownB ns.length (bel ns.length ws ns.length) m := fin_is ns.length m ws
          rw [e6, filt_succ, List.length_append]
          cases isDownB ns.length (bel ns.length ws ns.length) m with
          | true => rfl
          | false => rfl
      rintro σ H6 ⟨v8, v9, v10, v11, v12, rfl, s6⟩
      have hS6 := s6.seq hS5
      have Rw6 := Rw.same s6
      have s16 := s15.trans s6
      -- twins
      refine ⟨_, rfl, a, _, rfl, .inl hS6, _, rfl, by omega, by omega, ?_⟩
      rw [hl, Int.toNat_natCast]
      refine for_range (lo := 0) (n := ns.length) (fun i σ H7 => ∃ v12 : Option V, σ = [some (.ref a), some (.ref p), some (.bl true), some (.int 6), v4, v5, some (.ref R), some (.int ((((List.range (2 ^ ns.length)).filter fun m => isDownB ns.length (bel ns.length ws ns.length) m).length : Nat) : Int)), v8, v9, v10, v11, v12, none] ∧ Same H6 H7 ∧ ((List.range i).any fun a => twinB ns.length (clo ws ns.length) a) = false) ⟨_, rfl, Same.refl _, rfl⟩ ?_ ?_
      · rintro i σ H7 hi ⟨w12, rfl, s7, nt⟩
        rw [e0]
        have hS7 := s7.seq hS6
        have Rw7 := Rw6.same s7
        refine ⟨_, rfl, a, _, rfl, .inl hS7, _, rfl, by omega, by omega, fun D3 hD3 => ?_⟩
        rw [hl, Int.toNat_natCast]
        refine walk_r (lo := 0) (n := ns.length) (fun j H8 => Same H7 H8 ∧ H8 D3 = some (.lst (((List.range j).map fun b => decide (i ≠ b) && (clo ws ns.length i b && clo ws ns.length b i)).map V.bl))) ⟨sn hD3, upd_same⟩ ?_ ?_
        · rintro j H8 hj ⟨sm, hd3⟩
          rw [e0]
          have Rw8 := Rw7.same sm
          have put : ∀ v : Bool, v = (decide (i ≠ j) && (clo ws ns.length i j && clo ws ns.length j i)) → ∃ acc, H8 D3 = some (.lst acc) ∧ acc.length < sizeLine ∧ Same H7 (upd H8 D3 (.lst (acc ++ [.bl v]))) ∧ (upd H8 D3 (.lst (acc ++ [.bl v]))) D3 = some (.lst (((List.range (j + 1)).map fun b => decide (i ≠ b) && (clo ws ns.length i b && clo ws ns.length b i)).map V.bl)) := fun v e => by
            refine ⟨_, hd3, small_k2 (by rw [List.length_map, List.length_map, List.length_range]; omega), sm.put hD3, ?_⟩
            rw [upd_same, List.range_succ, List.map_append, List.map_append, e]
            rfl
          refine ⟨rfl, _, rfl, _, rfl, rfl, _, rfl, ite2 (fun t => ?_) (fun t => ?_)⟩
          · have ne : i ≠ j := fun z => by
              subst z
              rw [decide_eq_true rfl] at t
              cases t
            refine ⟨_, rfl, _, rfl, R, _, _, _, rfl, rfl, SqL.of Rw8.hq, rgl_atI hi, _, rfl, r i, _, _, _, rfl, rfl, SqL.of (Rw8.hr i hi), rgl_atI hj, _, rfl, ite2 (fun u => ?_) (fun u => ?_)⟩
            · refine ⟨_, rfl, _, rfl, R, _, _, _, rfl, rfl, SqL.of Rw8.hq, rgl_atI hj, _, rfl, r j, _, _, _, rfl, rfl, SqL.of (Rw8.hr j hj), rgl_atI hi, put _ ?_⟩
              rw [decide_eq_true ne, u, Bool.true_and, Bool.true_and]
            · refine put _ ?_
              rw [Bool.eq_false_iff.mpr u, Bool.false_and, Bool.and_false]
          · have e : i = j := Decidable.byContradiction fun z => t (by
              rw [decide_eq_false (fun y => z (by injection y with y; omega))]
              rfl)
            refine put _ ?_
            rw [decide_eq_false (fun z => z e), Bool.false_and]
        · rintro H8 ⟨sm, hd3⟩
          refine ⟨_, _, rfl, .inl (SqL.of hd3), rfl, flatB _, _, rfl, ?_⟩
          show if inV (V.bl true) (((List.range ns.length).map fun b => decide (i ≠ b) && (clo ws ns.length i b && clo ws ns.length b i)).map V.bl) = true then _ else _
          have e5 : inV (V.bl true) (((List.range ns.length).map fun b => decide (i ≠ b) && (clo ws ns.length i b && clo ws ns.length b i)).map V.bl) = twinB ns.length (clo ws ns.length) i := by
            rw [inVB, List.any_map]
            rfl
          rw [e5]
          refine ite2 (fun t => ?_) (fun t => ?_)
          · refine ⟨_, rfl, ?_⟩
            have q := due H8 (s16.trans (s7.trans sm))
            have tw := twin_is ns.length ws
            have any : ((List.range ns.length).any fun a => twinB ns.length (clo ws ns.length) a) = true := List.any_eq_true.mpr ⟨i, List.mem_range.mpr hi, t⟩
            rw [any] at tw
            have nn : ¬ (belI ns.length ws).Nodup := fun z => by
              rw [decide_eq_true z] at tw
              cases tw
            rw [if_neg nn] at q
            exact q
          · refine ⟨_, rfl, s7.trans sm, ?_⟩
            rw [List.range_succ, List.any_append, nt]
            show (false || (twinB ns.length (clo ws ns.length) i || false)) = false
            rw [Bool.eq_false_iff.mpr t]
            rfl
      · rintro σ H7 ⟨w12, rfl, s7, nt⟩
        have q := due H7 (s16.trans s7)
        have tw := twin_is ns.length ws
        rw [nt] at tw
        have nn : (belI ns.length ws).Nodup := Decidable.byContradiction fun z => by
          rw [decide_eq_false z] at tw
          cases tw
        rw [if_pos nn] at q
        exact ⟨_, rfl, q⟩
end
end Lk02

set_option maxHeartbeats 16000000
namespace Lk02
open PySem PySem.Spec PyProof.Rows L2 He HkS Bs Clo Lc2
/-- isinstance(e, c), e what is caught -/
def rIsEX (K : PySem.W.Frag) (a : Addr) (cls : Value) (d : Option Addr) : List V → Hp → VK → Prop := fun xs H Q => ∃ (D : Addr) (c : V) (cv : Value) (b : Bool), xs = [.ref a, c] ∧ cls = .ref D ∧ d = none ∧ ExcC K D ∧ (∀ u, RelV c u → u = cv) ∧ PySem.W.kitOne K (.ref D) cv = some b ∧ Q (.bl b) H
theorem isEX {X : Cx} {K : PySem.W.Frag} {a : Addr} {oe : Obj} {cls : Value} {d : Option Addr} {pn : List (Addr × Obj)} (hz : Zc cls d oe) (hf : ∃ vs, oe.data = .fields vs) (hk : X.K = K := by rfl) : CallR (X.suite a ((a, oe) :: pn)) (.builtin "isinstance") (rIsEX K a cls d) := by
  subst hk
  intro pins s σ H xs us Q I r h
  obtain ⟨D, c, cv, b, e1, rfl, rfl, T, r1, r2, q⟩ := h
  exact call_isE T hz hf pins s σ H xs us Q I r ⟨c, cv, b, e1, r1, r2, q⟩
theorem Src.same {H H' : Hp} {st : Addr} (h : Src H st) (s : Same H H') : Src H' st := by
  obtain ⟨c, cs, i, l, m, h1, h2, r⟩ := h
  exact ⟨c, cs, i, l, m, s _ _ h1, s _ _ h2, r⟩
/-- the names and the pairs that are being made -/
structure J (H : Hp) (st na pa : Addr) (ns : List Str) (ps : List (Str × Str)) : Prop where
  src : Src H st
  hn : H na = some (.lst (ns.map V.str))
  hp : ∃ ts : List Addr, H pa = some (.lst (ts.map V.ref)) ∧ ts.length = ps.length ∧ ∀ (i : Nat) (t : Addr) (q : Str × Str), ts[i]? = some t → ps[i]? = some q → H t = some (.tup [.str q.1, .str q.2])
  n1 : na ≠ st
  n2 : pa ≠ st
  n3 : na ≠ pa
  lx : ∀ x ∈ ns, x.length ≤ 100
  lp : ps.length ≤ 5
  px : ∀ x ∈ flatP ps, x.length ≤ 100
theorem tup_ne {H : Hp} {t a : Addr} {xs ys : List V} (h : H t = some (.tup xs)) (g : H a = some (.lst ys)) : t ≠ a := fun z => by
  rw [z, g] at h
  cases h
theorem src_lst {H : Hp} {st : Addr} (h : Src H st) : ∃ ys, H st = some (.lst ys) := by
  obtain ⟨c, cs, i, l, m, h1, _⟩ := h
  exact ⟨_, h1⟩
theorem J.same {H H' : Hp} {st na pa : Addr} {ns : List Str} {ps : List (Str × Str)} (j : J H st na pa ns ps) (s : Same H H') : J H' st na pa ns ps := by
  obtain ⟨ts, t1, t2, t3⟩ := j.hp
  exact ⟨j.src.same s, s _ _ j.hn, ⟨ts, s _ _ t1, t2, fun i t q a b => s _ _ (t3 i t q a b)⟩, j.n1, j.n2, j.n3, j.lx, j.lp, j.px⟩
theorem J.pick {H H' : Hp} {st na pa : Addr} {ns : List Str} {ps : List (Str × Str)} (j : J H st na pa ns ps) (k : ∀ b o, H b = some o → b ≠ st → H' b = some o) (s : Src H' st) : J H' st na pa ns ps := by
  obtain ⟨ts, t1, t2, t3⟩ := j.hp
  obtain ⟨ys, h0⟩ := src_lst j.src
  exact ⟨s, k _ _ j.hn j.n1, ⟨ts, k _ _ t1 j.n2, t2, fun i t q a b => k _ _ (t3 i t q a b) (tup_ne (t3 i t q a b) h0)⟩, j.n1, j.n2, j.n3, j.lx, j.lp, j.px⟩
theorem map_ne {ns : List Str} {cs : List Int} (h : ns ≠ []) : ns.map V.str ≠ cs.map V.int := by
  cases ns with
  | nil => exact absurd rfl h
  | cons a r =>
    cases cs with
    | nil => exact fun z => by cases z
    | cons b q => exact fun z => by cases z
theorem refs_ne {ts : List Addr} {cs : List Int} (h : ts ≠ []) : ts.map V.ref ≠ cs.map V.int := by
  cases ts with
  | nil => exact absurd rfl h
  | cons a r =>
    cases cs with
    | nil => exact fun z => by cases z
    | cons b q => exact fun z => by cases z
theorem J.setN {H : Hp} {st na pa : Addr} {ns : List Str} {ps : List (Str × Str)} (j : J H st na pa ns ps) (hne : ns ≠ []) (i : Nat) (x : Str) (hx : x.length ≤ 100) : J (upd H na (.lst ((ns.map V.str).set i (.str x)))) st na pa (ns.set i x) ps := by
  obtain ⟨ts, t1, t2, t3⟩ := j.hp
  obtain ⟨c, cs, a, b, m, h1, h2, r⟩ := j.src
  have nc : na ≠ c := fun z => by
    have e := j.hn
    rw [z, h2] at e
    have e := Option.some.inj e
    injection e with e
    exact map_ne hne e.symm
  refine ⟨⟨c, cs, a, b, m, (upd_ne (Ne.symm j.n1)).trans h1, (upd_ne (Ne.symm nc)).trans h2, r⟩, ?_, ⟨ts, (upd_ne (Ne.symm j.n3)).trans t1, t2, fun i t q a b => (upd_ne (tup_ne (t3 i t q a b) j.hn)).trans (t3 i t q a b)⟩, j.n1, j.n2, j.n3, fun y hy => ?_, j.lp, j.px⟩
  · rw [upd_same, List.map_set]
  · rcases List.mem_or_eq_of_mem_set hy with h | h
    · exact j.lx y h
    · rw [h]
      exact hx
theorem flat_mem {ps : List (Str × Str)} {x : Str} : x ∈ flatP ps ↔ ∃ q ∈ ps, x = q.1 ∨ x = q.2 := by
  unfold flatP
  rw [List.mem_flatMap]
  constructor
  · rintro ⟨q, hq, h⟩
    simp at h
    exact ⟨q, hq, h⟩
  · rintro ⟨q, hq, h⟩
    exact ⟨q, hq, by simp; exact h⟩
theorem J.setP {H : Hp} {st na pa t' : Addr} {ns : List Str} {ps : List (Str × Str)} {ts : List Addr} (j : J H st na pa ns ps) (t1 : H pa = some (.lst (ts.map V.ref))) (t2 : ts.length = ps.length) (t3 : ∀ (i : Nat) (t : Addr) (q : Str × Str), ts[i]? = some t → ps[i]? = some q → H t = some (.tup [.str q.1, .str q.2]))
    (hne : ps ≠ []) (i : Nat) (q' : Str × Str) (ht : H t' = some (.tup [.str q'.1, .str q'.2])) (l1 : q'.1.length ≤ 100) (l2 : q'.2.length ≤ 100) : J (upd H pa (.lst ((ts.map V.ref).set i (.ref t')))) st na pa ns (ps.set i q') := by
  obtain ⟨c, cs, a, b, m, h1, h2, r⟩ := j.src
  have tne : ts ≠ [] := fun z => by
    rw [z] at t2
    cases ps with
    | nil => exact hne rfl
    | cons _ _ => cases t2
  have nc : pa ≠ c := fun z => by
    rw [z, h2] at t1
    have e := Option.some.inj t1
    injection e with e
    exact refs_ne tne e.symm
  refine ⟨⟨c, cs, a, b, m, (upd_ne (Ne.symm j.n2)).trans h1, (upd_ne (Ne.symm nc)).trans h2, r⟩, (upd_ne j.n3).trans j.hn, ⟨ts.set i t', ?_, by rw [List.length_set, List.length_set, t2], fun k t q hk hq => ?_⟩, j.n1, j.n2, j.n3, j.lx, by rw [List.length_set]; exact j.lp, fun x hx => ?_⟩
  · rw [upd_same, List.map_set]
  · rw [List.getElem?_set] at hk hq
    by_cases e : i = k
    · subst e
      rw [if_pos rfl] at hk hq
      have kl : i < ts.length := Decidable.byContradiction fun z => by rw [if_neg z] at hk; cases hk
      rw [if_pos kl] at hk
      rw [if_pos (by omega)] at hq
      cases hk
      cases hq
      exact (upd_ne (tup_ne ht t1)).trans ht
    · rw [if_neg e] at hk hq
      exact (upd_ne (tup_ne (t3 k t q hk hq) t1)).trans (t3 k t q hk hq)
  · obtain ⟨q, hq, h⟩ := flat_mem.mp hx
    rcases List.mem_or_eq_of_mem_set hq with h3 | h3
    · exact j.px x (flat_mem.mpr ⟨q, h3, h⟩)
    · subst h3
      rcases h with h | h
      · rw [h]; exact l1
      · rw [h]; exact l2
theorem J.app {H : Hp} {st na pa t' c : Addr} {cs : List Int} {ns : List Str} {ps : List (Str × Str)} {ts : List Addr} (j : J H st na pa ns ps) (S : SrcC H st c cs) (nc : pa ≠ c) (t1 : H pa = some (.lst (ts.map V.ref))) (t2 : ts.length = ps.length) (t3 : ∀ (i : Nat) (t : Addr) (q : Str × Str), ts[i]? = some t → ps[i]? = some q → H t = some (.tup [.str q.1, .str q.2]))
    (q' : Str × Str) (hl : ps.length < 5) (ht : H t' = some (.tup [.str q'.1, .str q'.2])) (l1 : q'.1.length ≤ 100) (l2 : q'.2.length ≤ 100) : J (upd H pa (.lst (ts.map V.ref ++ [.ref t']))) st na pa ns (ps ++ [q']) ∧ SrcC (upd H pa (.lst (ts.map V.ref ++ [.ref t']))) st c cs := by
  obtain ⟨a, b, m, h1, h2, r⟩ := S
  have S2 : SrcC (upd H pa (.lst (ts.map V.ref ++ [.ref t']))) st c cs := ⟨a, b, m, (upd_ne (Ne.symm j.n2)).trans h1, (upd_ne (Ne.symm nc)).trans h2, r⟩
  refine ⟨⟨⟨c, cs, S2⟩, (upd_ne j.n3).trans j.hn, ⟨ts ++ [t'], ?_, by rw [List.length_append, List.length_append, t2]; rfl, fun k t q hk hq => ?_⟩, j.n1, j.n2, j.n3, j.lx, by rw [List.length_append]; exact hl, fun x hx => ?_⟩, S2⟩
  · rw [upd_same, List.map_append]
    rfl
  · by_cases e : k < ts.length
    · rw [List.getElem?_append_left e] at hk
      rw [List.getElem?_append_left (by omega)] at hq
      exact (upd_ne (tup_ne (t3 k t q hk hq) t1)).trans (t3 k t q hk hq)
    · have hkl := (List.getElem?_eq_some_iff.mp hk).1
      rw [List.length_append] at hkl
      have : ([t'] : List Addr).length = 1 := rfl
      have ek : k = ts.length := by omega
      subst ek
      rw [List.getElem?_append_right (Nat.le_refl _), Nat.sub_self] at hk
      rw [t2, List.getElem?_append_right (Nat.le_refl _), Nat.sub_self] at hq
      cases hk
      cases hq
      exact (upd_ne (tup_ne ht t1)).trans ht
  · rw [flat_snoc, List.mem_append, List.mem_append, List.mem_singleton, List.mem_singleton] at hx
    rcases hx with (hx | hx) | hx
    · exact j.px x hx
    · rw [hx]; exact l1
    · rw [hx]; exact l2
end Lk02

set_option maxHeartbeats 32000000
namespace Lk02
open PySem PySem.Spec PyProof.Rows L2 He HkS Bs Clo Lc2
section
variable {P : Program} {w : World} {K : PySem.W.Frag} {mg : Str → Option Value} {base : Heap}
def sp_law (K : PySem.W.Frag) : Sp := fun vs H Q _ => ∃ (a : Addr) (ns : List Int), vs = [.ref a] ∧ SqL K H a (ns.map V.int) ∧ ns.length ≤ 63 ∧ ∀ H', Q (.bl true) H'
theorem sc_law : FnScope ["script", "state", "downs", "many", "names", "pairs", "k", "spots", "way", "spot", "size", "caught", "e", "due"] ["script"] (defScope s_law) := ⟨rfl, rfl, rfl, by decide +kernel, rfl, by decide +kernel, by decide +kernel⟩
theorem ok_law (Z : Ctx K mg)  (hP : P = PG) : Ok P w K mg base (9) (ga K "law") ["script"] (sp_law K) := by
  refine ok_of (fd_law Z) sc_law (fun vs H Q E h => ?_) (fun _ _ _ _ _ _ us hl => match us, hl with | [_], _ => rfl) (fun cdv A outer s H vs Q E hr h => ?_)
  · obtain ⟨_, _, rfl, _⟩ := h
    rfl
  · subst hP
    obtain ⟨sc, zs, rfl, hS, hlen, k⟩ := h
    have ok_Down := ok_DownLattice___init__ (w := w) (base := base) (mg := mg) (K := K) (P := PG)
    have ok_Order := ok_OrderLattice___init__ (w := w) (base := base) (mg := mg) (K := K) (P := PG)
    refine ⟨_, (pss_cons (ps_s 1 sc_law.nd (pe_cO (ok_cells Z) (hr.mono (by decide)) (g__law_cells Z) (passes_call (takes_of rfl rfl rfl rfl) (fun _ _ _ _ h => h)) (pa_cons (pv 0) pa_nil)))
      (pss_cons (ps_s 2 sc_law.nd (pe_cmpR op_eq (pe_cO (ok_pick2 Z) (hr.mono (by decide)) (g__law_pick Z) (passes_call (takes_of rfl rfl rfl rfl) (fun _ _ _ _ h => h)) (pa_cons (pv 1) (pa_cons pe_int pa_nil))) pe_int (nomark _)))
      (pss_cons (ps_s 3 sc_law.nd (pe_cO (ok_pick2 Z) (hr.mono (by decide)) (g__law_pick Z) (passes_call (takes_of rfl rfl rfl rfl) (fun _ _ _ _ h => h)) (pa_cons (pv 1) (pa_cons pe_int pa_nil))))
      (C8.pss_cut (ps_if (pt_cmpR op_eq (pe_cO (ok_pick2 Z) (hr.mono (by decide)) (g__law_pick Z) (passes_call (takes_of rfl rfl rfl rfl) (fun _ _ _ _ h => h)) (pa_cons (pv 1) (pa_cons pe_int pa_nil))) pe_int (nomark _)) (pss_one (ps_s 3 sc_law.nd (pe_op op_add (pe_ix ixL (pe_lst (pa_cons pe_int (pa_cons pe_int pa_nil))) (pe_callTy call_int1 (by rfl) (f_int Z) (by decide +kernel) (pa_cons (pv 2) pa_nil)) (fun _ _ => rfl)) (pe_cO (ok_pick2 Z) (hr.mono (by decide)) (g__law_pick Z) (passes_call (takes_of rfl rfl rfl rfl) (fun _ _ _ _ h => h)) (pa_cons (pv 1) (pa_cons pe_int pa_nil)))))) pss_nil)
      (pss_cons (ps_s 4 sc_law.nd (pe_cO (ok__law_words Z) (hr.mono (by decide)) (g__law_words Z) (passes_call (takes_of rfl rfl rfl rfl) (fun _ _ _ _ h => h)) (pa_cons (pv 1) (pa_cons (pv 3) pa_nil))))
      (pss_cons (ps_s 5 sc_law.nd (pe_lst pa_nil))
      (C8.pss_cut (ps_for (passes_of rfl) rfl (pi_range1 (by rfl) (f_range Z) (pa_cons (pe_ifExp (pt_cmpR op_gt (pv 3) pe_int (nomark _)) (pe_cO (ok_pick2 Z) (hr.mono (by decide)) (g__law_pick Z) (passes_call (takes_of rfl rfl rfl rfl) (fun _ _ _ _ h => h)) (pa_cons (pv 1) (pa_cons pe_int pa_nil))) pe_int) pa_nil)) (pg_n 6 sc_law.nd) (pss_cons (ps_s 7 sc_law.nd (pe_lst (pa_cons (pe_cO (ok_pick2 Z) (hr.mono (by decide)) (g__law_pick Z) (passes_call (takes_of rfl rfl rfl rfl) (fun _ _ _ _ h => h)) (pa_cons (pv 1) (pa_cons (pv 3) pa_nil))) (pa_cons (pe_cO (ok_pick2 Z) (hr.mono (by decide)) (g__law_pick Z) (passes_call (takes_of rfl rfl rfl rfl) (fun _ _ _ _ h => h)) (pa_cons (pv 1) (pa_cons (pv 3) pa_nil))) pa_nil))))
      (C8.pss_cut (ps_if (pt_cmpR op_gt (pe_cO (ok_pick2 Z) (hr.mono (by decide)) (g__law_pick Z) (passes_call (takes_of rfl rfl rfl rfl) (fun _ _ _ _ h => h)) (pa_cons (pv 1) (pa_cons pe_int pa_nil))) pe_int (nomark _)) (pss_one (ps_s 7 sc_law.nd (pe_lst (pa_cons (pe_callB (call_min2 rfl) (by rfl) (f_min Z) (by decide +kernel) (pa_cons (pe_callTy call_int1 (by rfl) (f_int Z) (by decide +kernel) (pa_cons (pe_ix ixL (pv 7) pe_int (fun _ _ => rfl)) pa_nil)) (pa_cons (pe_callTy call_int1 (by rfl) (f_int Z) (by decide +kernel) (pa_cons (pe_ix ixL (pv 7) pe_int (fun _ _ => rfl)) pa_nil)) pa_nil))) (pa_cons (pe_callB (call_max2 rfl) (by rfl) (f_max Z) (by decide +kernel) (pa_cons (pe_callTy call_int1 (by rfl) (f_int Z) (by decide +kernel) (pa_cons (pe_ix ixL (pv 7) pe_int (fun _ _ => rfl)) pa_nil)) (pa_cons (pe_callTy call_int1 (by rfl) (f_int Z) (by decide +kernel) (pa_cons (pe_ix ixL (pv 7) pe_int (fun _ _ => rfl)) pa_nil)) pa_nil))) pa_nil))))) pss_nil)
      (pss_one (ps_expr (bmQ PySem.F.plainAttrs_list PySem.F.slot_list_append PySem.F.type_list_append mt_append (pv 5) (pa_cons (pe_tup (pa_cons (pe_ix ixL (pv 4) (pe_ix ixL (pv 7) pe_int (fun _ _ => rfl)) (fun _ _ => rfl)) (pa_cons (pe_ix ixL (pv 4) (pe_ix ixL (pv 7) pe_int (fun _ _ => rfl)) (fun _ _ => rfl)) pa_nil))) pa_nil)))))))
      (pss_cons (ps_for (passes_of rfl) rfl (pi_range1 (by rfl) (f_range Z) (pa_cons (pe_cO (ok_pick2 Z) (hr.mono (by decide)) (g__law_pick Z) (passes_call (takes_of rfl rfl rfl rfl) (fun _ _ _ _ h => h)) (pa_cons (pv 1) (pa_cons pe_int pa_nil))) pa_nil)) (pg_n 6 sc_law.nd) (pss_cons (ps_s 8 sc_law.nd (pe_cO (ok_pick2 Z) (hr.mono (by decide)) (g__law_pick Z) (passes_call (takes_of rfl rfl rfl rfl) (fun _ _ _ _ h => h)) (pa_cons (pv 1) (pa_cons pe_int pa_nil))))
      (C8.pss_cut (ps_s 9 sc_law.nd (pe_ifExp (pt_cmpR op_gt (pv 3) pe_int (nomark _)) (pe_cO (ok_pick2 Z) (hr.mono (by decide)) (g__law_pick Z) (passes_call (takes_of rfl rfl rfl rfl) (fun _ _ _ _ h => h)) (pa_cons (pv 1) (pa_cons (pv 3) pa_nil))) pe_int))
      (C8.pss_cut (ps_if (PW.pt (pw_and (pt_cmpR op_eq (pv 8) pe_int (nomark _)) (pw_and1 (pt_cmpR op_gt (pv 3) pe_int (nomark _))))) (pss_one (ps_asg (pe_ix ixL (pv 4) (pe_cO (ok_pick2 Z) (hr.mono (by decide)) (g__law_pick Z) (passes_call (takes_of rfl rfl rfl rfl) (fun _ _ _ _ h => h)) (pa_cons (pv 1) (pa_cons (pv 3) pa_nil))) (fun _ _ => rfl)) (pg_sub (pv 4) (pv 9) set_list))) pss_nil)
      (C8.pss_cut (ps_if (PW.pt (pw_and (pt_cmpR op_eq (pv 8) pe_int (nomark _)) (pw_and1 (pt_cmpR op_gt (pv 3) pe_int (nomark _))))) (pss_one (ps_asg (pe_cO (ok__law_odd Z) (hr.mono (by decide)) (g__law_odd Z) (passes_call (takes_of rfl rfl rfl rfl) (fun _ _ _ _ h => h)) (pa_cons (pv 1) pa_nil)) (pg_sub (pv 4) (pv 9) set_list))) pss_nil)
      (pss_one (ps_if (PW.pt (pw_and (pt_cmpR op_eq (pv 8) pe_int (nomark _)) (pw_and1 (pt_cmpR op_gt (pe_callB lenQ (by rfl) (f_len Z) boot_len (pa_cons (pv 5) pa_nil)) pe_int (nomark _))))) (pss_one (ps_asg (pe_ix ixL (pe_lst (pa_cons (pe_tup (pa_cons pe_str (pa_cons (pe_ix ixL (pv 4) (pv 9) (fun _ _ => rfl)) pa_nil))) (pa_cons (pe_tup (pa_cons (pe_ix ixL (pv 4) (pv 9) (fun _ _ => rfl)) (pa_cons pe_str pa_nil))) pa_nil))) (pe_cO (ok_pick2 Z) (hr.mono (by decide)) (g__law_pick Z) (passes_call (takes_of rfl rfl rfl rfl) (fun _ _ _ _ h => h)) (pa_cons (pv 1) (pa_cons pe_int pa_nil))) (fun _ _ => rfl)) (pg_sub (pv 5) (pe_cO (ok_pick2 Z) (hr.mono (by decide)) (g__law_pick Z) (passes_call (takes_of rfl rfl rfl rfl) (fun _ _ _ _ h => h)) (pa_cons (pv 1) (pa_cons (pe_callB lenQ (by rfl) (f_len Z) boot_len (pa_cons (pv 5) pa_nil)) pa_nil))) set_list))) pss_nil)))))))
      (pss_cons (ps_s 10 sc_law.nd (pe_un un_neg pe_int))
      (pss_cons (ps_s 11 sc_law.nd (pe_lst pa_nil))
      (C8.pss_cut (ps_try_as (i := 12) (tb := fun W => tAsg (tIf (tB (tVar 2)) (tFld K (tMakeS (ga K "DownLattice") (sp_down K) (WE W) (tCons (tVar 4) (tCons (tVar 5) tNil))) "size") (tFld K (tMakeS (ga K "OrderLattice") (sp_order K) (WE W) (tCons (tVar 4) (tCons (tVar 5) tNil))) "size")) (gName 10)) (ts := fun a cls d => tAsg (tLst (tCons (tCB (rIsEX K a cls d) (tCons (tVar 12) (tCons (tC (.ref (ga K "LatticeError"))) tNil))) (tCons (tCB (rIsEX K a cls d) (tCons (tVar 12) (tCons (tC (.ty "ValueError")) tNil))) (tCons (tCB (rIsEX K a cls d) (tCons (tVar 12) (tCons (tC (.ref (ga K "MixedLattices"))) tNil))) tNil)))) (gName 11)) (Wout := fun _ _ _ _ => False) rfl rfl sc_law.nd rfl rfl ⟨rfl, by decide, Or.inl (g_BadLattice Z)⟩ takes0
        (fun W pn xe tk _ => (pss_one (ps_s 10 sc_law.nd (pe_ifExp (pt_val (pv 2)) (fldQ (pe_kOS (k_DownLattice Z) (ok_Down Z rfl) (hr.mono (by decide)) (g_DownLattice Z) (fun σ => passAt tk σ) (pa_cons (pv 4) (pa_cons (pv 5) pa_nil)))) (fldQ (pe_kOS (k_OrderLattice Z) (ok_Order Z rfl) (hr.mono (by decide)) (g_OrderLattice Z) (fun σ => passAt tk σ) (pa_cons (pv 4) (pa_cons (pv 5) pa_nil))))))))
        (fun a oe cls d pn hz hf => (pss_one (ps_s 11 sc_law.nd (pe_lst (pa_cons (pe_callB (isEX hz hf) (by rfl) (f_isinstance Z) (by decide +kernel) (pa_cons (pv 12) (pa_cons (pe_glob (v := .ref (ga K "LatticeError")) (by rfl) (g_LatticeError Z) rfl) pa_nil))) (pa_cons (pe_callB (isEX hz hf) (by rfl) (f_isinstance Z) (by decide +kernel) (pa_cons (pv 12) (pa_cons (pe_bltn (v := .ty "ValueError") (by rfl) (f_ValueError Z) (by decide +kernel) rfl) pa_nil))) (pa_cons (pe_callB (isEX hz hf) (by rfl) (f_isinstance Z) (by decide +kernel) (pa_cons (pv 12) (pa_cons (pe_glob (v := .ref (ga K "MixedLattices")) (by rfl) (g_MixedLattices Z) rfl) pa_nil))) pa_nil))))))))
      (pss_cons (ps_s 13 sc_law.nd (pe_cO (ok__law_size Z) (hr.mono (by decide)) (g__law_size Z) (passes_call (takes_of rfl rfl rfl rfl) (fun _ _ _ _ h => h)) (pa_cons (pv 4) (pa_cons (pv 5) (pa_cons (pv 2) pa_nil)))))
      (pss_one (ps_ret (pe_and (pe_cmpR op_eq (pv 10) (pv 13) (nomark _)) (pe_one (pe_cmpR (eqDQ hr.units) (pv 11) (pe_ifExp (pt_cmpR op_lt (pv 13) pe_int (nomark _)) (pe_lst (pa_cons pe_bl (pa_cons pe_bl (pa_cons pe_bl pa_nil)))) (pe_lst pa_nil)) (nomark _)))))))))))))))))), ?_⟩
    have ex := x_extra Z
    unfold extra at ex
    obtain ⟨ea, ex⟩ := ba ex
    obtain ⟨eb, ex⟩ := ba ex
    obtain ⟨ec, ed⟩ := ba ex
    have xC := ExV.exCB_ok ea
    have eb := of_decide_eq_true eb
    have ec := of_decide_eq_true ec
    have ed := of_decide_eq_true ed
    -- state, downs, many
    refine ⟨_, rfl, sc, zs, rfl, hS, hlen, fun H1 st s1 f1 S1 => ?_⟩
    obtain ⟨c1, cs1, S1⟩ := S1
    refine ⟨_, rfl, st, 2, c1, cs1, rfl, S1, by decide, by decide, fun d0 H2 d00 d01 k2 S2 => ⟨rfl, ?_⟩⟩
    change gName 2 (.bl (decide (V.int d0 = V.int 0))) _ H2 _
    generalize decide (V.int d0 = V.int 0) = d
    refine ⟨_, rfl, st, 6, c1, cs1, rfl, S2, by decide, by decide, fun m0 H3 m00 m01 k3 S3 => ?_⟩
    obtain ⟨m0, rfl⟩ : ∃ n : Nat, m0 = n := ⟨m0.toNat, by omega⟩
    refine ⟨fun σ H' => ∃ many : Nat, σ = [some (.ref sc), some (.ref st), some (.bl d), some (.int (many : Nat)), none, none, none, none, none, none, none, none, none, none] ∧ SrcC H' st c1 cs1 ∧ many ≤ 17, ?_, ?_⟩
    · refine ⟨_, rfl, st, 8, c1, cs1, rfl, S3, by decide, by decide, fun e H4 e0 e1 k4 S4 => ⟨rfl, _, rfl, ite2 (fun _ => ?_) (fun _ => ⟨m0, rfl, S4, by omega⟩)⟩⟩
      have hd : atI [V.int 16, V.int 6] (if d = true then 1 else 0) = some (V.int (if d = true then 6 else 16)) := by cases d <;> rfl
      refine ⟨(by show 2 ≤ sizeLine; decide), fun q nq => ⟨_, rfl, .inr ⟨_, rfl, q, _, _, _, rfl, rfl, SqL.of upd_same, hd, ?_⟩⟩⟩
      have S5 : SrcC (upd H4 q (.lst [.int 16, .int 6])) st c1 cs1 := by
        obtain ⟨i, l, m, h1, h2, r⟩ := S4
        exact ⟨i, l, m, sn nq _ _ h1, sn nq _ _ h2, r⟩
      refine ⟨_, rfl, st, 2, c1, cs1, rfl, S5, by decide, by decide, fun x H5 x0 x1 k5 S6 => ⟨_, _, rfl, rfl, ?_⟩⟩
      refine ⟨((if d = true then (6 : Int) else 16) + x).toNat, ?_, S6, ?_⟩
      · have : ((((if d = true then (6 : Int) else 16) + x).toNat : Nat) : Int) = (if d = true then 6 else 16) + x := by
          cases d <;> (simp only [if_true, if_false, Bool.false_eq_true]; omega)
        rw [this]
        rfl
      · cases d <;> (simp only [if_true, if_false, Bool.false_eq_true]; omega)
    rintro σ H4 ⟨many, rfl, S4, hm17⟩
    -- names, pairs
    refine ⟨_, rfl, _, rfl, st, many, rfl, ⟨c1, cs1, S4⟩, by omega, fun na ns H5 o5 S5 f5 h5 Nm => ?_⟩
    obtain ⟨c2, cs2, S5⟩ := S5
    refine ⟨(by show 0 ≤ sizeLine; decide), fun pa npa => ?_⟩
    have nas : na ≠ st := fun z => by
      obtain ⟨i, l, m, h1, _⟩ := S4
      rw [z, h1] at f5
      cases f5
    have s6 : Same H5 (upd H5 pa (.lst [])) := sn npa
    have S6 : SrcC (upd H5 pa (.lst [])) st c2 cs2 := by
      obtain ⟨i, l, m, h1, h2, r⟩ := S5
      exact ⟨i, l, m, s6 _ _ h1, s6 _ _ h2, r⟩
    have pc : pa ≠ c2 := fun z => by
      obtain ⟨i, l, m, h1, h2, r⟩ := S5
      rw [← z, npa] at h2
      cases h2
    have j6 : J (upd H5 pa (.lst [])) st na pa ns [] := by
      refine ⟨⟨c2, cs2, S6⟩, s6 _ _ h5, ⟨[], upd_same, rfl, fun i t q z => by simp at z⟩, nas, fun z => ?_, fun z => ?_, fun x hx => Nat.le_trans (Nm.ok x hx).2 (by decide), by decide, fun x hx => by cases hx⟩
      · obtain ⟨i, l, m, h1, _⟩ := S5
        rw [z, h1] at npa
        cases npa
      · rw [← z, h5] at npa
        cases npa
    change gName 5 (.ref pa) _ (upd H5 pa (.lst [])) _
    generalize upd H5 pa (.lst []) = H6 at s6 S6 j6 ⊢
    -- how the pairs are drawn
    refine ⟨fun σ H' => ∃ (ps : List (Str × Str)) (v6 v7 : Option V), σ = [some (.ref sc), some (.ref st), some (.bl d), some (.int (many : Nat)), some (.ref na), some (.ref pa), v6, v7, none, none, none, none, none, none] ∧ J H' st na pa ns ps ∧ (ps ≠ [] → 0 < many), ?_, ?_⟩
    · refine ⟨_, rfl, _, _, rfl, rfl, _, rfl, ite2 (fun c => ?_) (fun c => ?_)⟩
      case refine_2 =>
        refine ⟨_, rfl, by decide, by decide, ?_⟩
        refine for_range (lo := 0) (n := 0) (fun _ σ H' => σ = [some (.ref sc), some (.ref st), some (.bl d), some (.int (many : Nat)), some (.ref na), some (.ref pa), none, none, none, none, none, none, none, none] ∧ H' = H6) ⟨rfl, rfl⟩ (fun i σ H' h _ => absurd h (Nat.not_lt_zero _)) ?_
        rintro σ H' ⟨rfl, rfl⟩
        exact ⟨[], none, none, rfl, j6, fun h => absurd rfl h⟩
      have mpos : 0 < many := by
        have h : (0 : Int) < ((many : Nat) : Int) := of_decide_eq_true c
        omega
      have nl := Nm.len
      refine ⟨_, rfl, st, 6, c2, cs2, rfl, S6, by decide, by decide, fun t H7 t0 t1 k7 S7 => ⟨_, rfl, by omega, by omega, ?_⟩⟩
      have j7 := j6.pick (fun b o e n => (k7 b n).trans e) ⟨c2, cs2, S7⟩
      refine for_range (lo := 0) (n := t.toNat) (fun i σ H' => ∃ (ps : List (Str × Str)) (v6 v7 : Option V), σ = [some (.ref sc), some (.ref st), some (.bl d), some (.int (many : Nat)), some (.ref na), some (.ref pa), v6, v7, none, none, none, none, none, none] ∧ J H' st na pa ns ps ∧ SrcC H' st c2 cs2 ∧ ps.length = i) ⟨[], none, none, rfl, j7, S7, rfl⟩ ?_ ?_
      · rintro i σ H8 hi ⟨ps, v6, v7, rfl, j8, S8, pl⟩
        refine ⟨_, rfl, _, rfl, st, _, c2, cs2, rfl, S8, by omega, by omega, fun a0 H9 a00 a01 k9 S9 => ?_⟩
        have j9 := j8.pick (fun b o e n => (k9 b n).trans e) ⟨c2, cs2, S9⟩
        refine ⟨_, rfl, _, rfl, st, _, c2, cs2, rfl, S9, by omega, by omega, fun b0 H10 b00 b01 k10 S10 => ⟨(by show 2 ≤ sizeLine; decide), fun q nq => ?_⟩⟩
        have j10 := j9.pick (fun b o e n => (k10 b n).trans e) ⟨c2, cs2, S10⟩
        have srcs : ∀ {Ha Hb : Hp}, Same Ha Hb → SrcC Ha st c2 cs2 → SrcC Hb st c2 cs2 := fun s ⟨i, l, m, h1, h2, r⟩ => ⟨i, l, m, s _ _ h1, s _ _ h2, r⟩
        -- upwards
        refine ⟨fun σ H' => ∃ (a b : Int) (q : Addr), σ = [some (.ref sc), some (.ref st), some (.bl d), some (.int (many : Nat)), some (.ref na), some (.ref pa), some (.int (0 + (i : Nat))), some (.ref q), none, none, none, none, none, none] ∧ J H' st na pa ns ps ∧ SrcC H' st c2 cs2 ∧ H' q = some (.lst [.int a, .int b]) ∧ 0 ≤ a ∧ a < many ∧ 0 ≤ b ∧ b < many, ?_, ?_⟩
        · have hq : (upd H10 q (.lst [.int a0, .int b0])) q = some (.lst [.int a0, .int b0]) := upd_same
          have j11 := j10.same (sn (o := .lst [.int a0, .int b0]) nq)
          have S11 := srcs (sn (o := .lst [.int a0, .int b0]) nq) S10
          change tIfS _ _ _ _ _ (upd H10 q (.lst [.int a0, .int b0]))
          have qs : q ≠ st := fun z => by
            obtain ⟨i, l, m, h1, _⟩ := S10
            rw [z, h1] at nq
            cases nq
          generalize upd H10 q (.lst [.int a0, .int b0]) = H11 at hq j11 S11 ⊢
          refine ⟨_, rfl, st, 6, c2, cs2, rfl, S11, by decide, by decide, fun x H12 x0 x1 k12 S12 => ⟨_, _, rfl, rfl, _, rfl, ite2 (fun _ => ?_) (fun _ => ?_)⟩⟩
          · have j12 := j11.pick (fun b o e n => (k12 b n).trans e) ⟨c2, cs2, S12⟩
            have hq2 := (k12 q qs).trans hq
            refine ⟨_, rfl, q, _, 0, _, rfl, rfl, SqL.of hq2, rfl, .inl ⟨_, rfl, _, rfl, q, _, 1, _, rfl, rfl, SqL.of hq2, rfl, .inl ⟨_, rfl, _, _, rfl, _, rfl, q, _, 0, _, rfl, rfl, SqL.of hq2, rfl, .inl ⟨_, rfl, _, rfl, q, _, 1, _, rfl, rfl, SqL.of hq2, rfl, .inl ⟨_, rfl, _, _, rfl, (by show 2 ≤ sizeLine; decide), fun q2 nq2 => ?_⟩⟩⟩⟩⟩
            refine ⟨_, _, q2, rfl, j12.same (sn nq2), srcs (sn nq2) S12, upd_same, ?_, ?_, ?_, ?_⟩ <;> split <;> omega
          · exact ⟨a0, b0, q, rfl, j11.pick (fun b o e n => (k12 b n).trans e) ⟨c2, cs2, S12⟩, S12, (k12 q qs).trans hq, a00, by omega, b00, by omega⟩
        rintro σ H11 ⟨a, b, q1, rfl, j11, S11, hq, a1, a2, b1, b2⟩
        obtain ⟨x, hx, hax⟩ := at_wsS (ws := ns) a1 (by omega)
        obtain ⟨y, hy, hby⟩ := at_wsS (ws := ns) b1 (by omega)
        obtain ⟨ts, u1, u2, u3⟩ := j11.hp
        refine ⟨_, rfl, .inl ⟨rfl, _, SqL.of u1⟩, _, rfl, _, rfl, q1, _, 0, _, rfl, rfl, SqL.of hq, rfl, na, _, a, _, rfl, rfl, SqL.of j11.hn, hax, _, rfl, _, rfl, q1, _, 1, _, rfl, rfl, SqL.of hq, rfl, na, _, b, _, rfl, rfl, SqL.of j11.hn, hby, (by show 2 ≤ sizeLine; decide), fun tp ntp => ?_⟩
        have s12 : Same H11 (upd H11 tp (.tup [.str x, .str y])) := sn ntp
        have ap := (j11.same s12).app (srcs s12 S11) pc (s12 _ _ u1) u2 (fun i t q a b => s12 _ _ (u3 i t q a b)) (x, y) (by omega) (t' := tp) upd_same (j11.lx x hx) (j11.lx y hy)
        refine ⟨pa, _, _, rfl, rfl, s12 _ _ u1, small_k2 (by rw [List.length_map, u2]; omega), ps ++ [(x, y)], _, _, rfl, ap.1, ap.2, by rw [List.length_append, pl]; rfl⟩
      · rintro σ H8 ⟨ps, v6, v7, rfl, j8, S8, pl⟩
        exact ⟨ps, v6, v7, rfl, j8, fun _ => mpos⟩
    rintro σ H7 ⟨ps, v6, v7, rfl, j7, pm⟩
    have nl := Nm.len
    obtain ⟨c3, cs3, S7⟩ := j7.src
    refine ⟨_, rfl, st, 3, c3, cs3, rfl, S7, by decide, by decide, fun t H8 t0 t1 k8 S8 => ⟨_, rfl, by omega, by omega, ?_⟩⟩
    have j8 := j7.pick (fun b o e n => (k8 b n).trans e) ⟨c3, cs3, S8⟩
    refine for_range (lo := 0) (n := t.toNat) (fun i σ H' => ∃ (ns : List Str) (ps : List (Str × Str)) (v6 v7 v8 v9 : Option V), σ = [some (.ref sc), some (.ref st), some (.bl d), some (.int (many : Nat)), some (.ref na), some (.ref pa), v6, v7, v8, v9, none, none, none, none] ∧ J H' st na pa ns ps ∧ ns.length = many ∧ (ps ≠ [] → 0 < many)) ⟨ns, ps, v6, v7, none, none, rfl, j8, nl, pm⟩ ?_ ?_
    · rintro i σ H9 hi ⟨ns, ps, v6, v7, v8, v9, rfl, j9, nl, pm⟩
      obtain ⟨c, cs, S9⟩ := j9.src
      refine ⟨_, rfl, st, 4, c, cs, rfl, S9, by decide, by decide, fun way H10 w0 w1 k10 S10 => ?_⟩
      have j10 := j9.pick (fun b o e n => (k10 b n).trans e) ⟨c, cs, S10⟩
      -- spot
      refine ⟨fun σ H' => ∃ spot : Int, σ = [some (.ref sc), some (.ref st), some (.bl d), some (.int (many : Nat)), some (.ref na), some (.ref pa), some (.int (0 + (i : Nat))), v7, some (.int way), some (.int spot), none, none, none, none] ∧ (0 < many → 0 ≤ spot ∧ spot < many) ∧ J H' st na pa ns ps, ?_, ?_⟩
      · refine ⟨_, rfl, _, _, rfl, rfl, _, rfl, ite2 (fun h => ?_) (fun h => ?_)⟩
        · have mp : (0 : Int) < ((many : Nat) : Int) := of_decide_eq_true h
          exact ⟨_, rfl, _, rfl, st, _, c, cs, rfl, S10, by omega, by omega, fun x H11 x0 x1 k11 S11 => ⟨x, rfl, fun _ => ⟨x0, x1⟩, j10.pick (fun b o e n => (k11 b n).trans e) ⟨c, cs, S11⟩⟩⟩
        · have mn : ¬ 0 < many := fun z => h (decide_eq_true (by omega))
          exact ⟨0, rfl, fun z => absurd z mn, j10⟩
      rintro σ H11 ⟨spot, rfl, hsp, j11⟩
      -- a name twice
      refine ⟨fun σ H' => ∃ ns : List Str, σ = [some (.ref sc), some (.ref st), some (.bl d), some (.int (many : Nat)), some (.ref na), some (.ref pa), some (.int (0 + (i : Nat))), v7, some (.int way), some (.int spot), none, none, none, none] ∧ J H' st na pa ns ps ∧ ns.length = many, ?_, ?_⟩
      · refine ⟨_, rfl, rfl, _, rfl, ite2 (fun _ => ⟨_, rfl, _, _, rfl, rfl, _, rfl, ite2 (fun h => ?_) (fun _ => ⟨ns, rfl, j11, nl⟩)⟩) (fun _ => ⟨ns, rfl, j11, nl⟩)⟩
        have mp : (0 : Int) < ((many : Nat) : Int) := of_decide_eq_true h
        obtain ⟨p0, p1⟩ := hsp (by omega)
        obtain ⟨sp, rfl⟩ : ∃ n : Nat, spot = n := ⟨spot.toNat, by omega⟩
        obtain ⟨c, cs, S11⟩ := j11.src
        refine ⟨_, rfl, _, rfl, _, rfl, st, _, c, cs, rfl, S11, by omega, by omega, fun x H12 x0 x1 k12 S12 => ?_⟩
        have j12 := j11.pick (fun b o e n => (k12 b n).trans e) ⟨c, cs, S12⟩
        obtain ⟨z, hz, hat⟩ := at_wsS (ws := ns) x0 (by omega)
        exact ⟨na, _, x, _, rfl, rfl, SqL.of j12.hn, hat, _, rfl, _, rfl, na, _, _, sp, rfl, rfl, j12.hn, ixN_nat (by rw [List.length_map]; omega), ns.set sp z, rfl, j12.setN (fun e => by rw [e] at nl; have : ([] : List Str).length = 0 := rfl; omega) sp z (j12.lx z hz), by rw [List.length_set]; exact nl⟩
      rintro σ H12 ⟨ns, rfl, j12, nl⟩
      -- no name
      refine ⟨fun σ H' => ∃ ns : List Str, σ = [some (.ref sc), some (.ref st), some (.bl d), some (.int (many : Nat)), some (.ref na), some (.ref pa), some (.int (0 + (i : Nat))), v7, some (.int way), some (.int spot), none, none, none, none] ∧ J H' st na pa ns ps ∧ ns.length = many, ?_, ?_⟩
      · refine ⟨_, rfl, rfl, _, rfl, ite2 (fun _ => ⟨_, rfl, _, _, rfl, rfl, _, rfl, ite2 (fun h => ?_) (fun _ => ⟨ns, rfl, j12, nl⟩)⟩) (fun _ => ⟨ns, rfl, j12, nl⟩)⟩
        have mp : (0 : Int) < ((many : Nat) : Int) := of_decide_eq_true h
        obtain ⟨p0, p1⟩ := hsp (by omega)
        obtain ⟨sp, rfl⟩ : ∃ n : Nat, spot = n := ⟨spot.toNat, by omega⟩
        refine ⟨_, rfl, st, rfl, j12.src, fun x H13 o13 S13 hx => ?_⟩
        have j13 := j12.pick o13 S13
        exact ⟨_, rfl, _, rfl, na, _, _, sp, rfl, rfl, j13.hn, ixN_nat (by rw [List.length_map]; omega), ns.set sp x, rfl, j13.setN (fun e => by rw [e] at nl; have : ([] : List Str).length = 0 := rfl; omega) sp x hx, by rw [List.length_set]; exact nl⟩
      rintro σ H13 ⟨ns, rfl, j13, nl⟩
      -- a pair of another name
      obtain ⟨ts, t1, t2, t3⟩ := j13.hp
      have stay : ∃ (ns : List Str) (ps : List (Str × Str)) (w6 w7 w8 w9 : Option V), [some (.ref sc), some (.ref st), some (.bl d), some (.int (many : Nat)), some (.ref na), some (.ref pa), some (.int (0 + (i : Nat))), v7, some (.int way), some (.int spot), none, none, none, none] = [some (V.ref sc), some (.ref st), some (.bl d), some (.int (many : Nat)), some (.ref na), some (.ref pa), w6, w7, w8, w9, none, none, none, none] ∧ J H13 st na pa ns ps ∧ ns.length = many ∧ (ps ≠ [] → 0 < many) := ⟨ns, ps, _, _, _, _, rfl, j13, nl, pm⟩
      refine ⟨_, rfl, rfl, _, rfl, ite2 (fun _ => ⟨_, rfl, pa, _, rfl, .inl (SqL.of t1), _, _, rfl, rfl, _, rfl, ite2 (fun h => ?_) (fun _ => stay)⟩) (fun _ => stay)⟩
      have tl : 0 < ps.length := by
        have h2 := of_decide_eq_true h
        rw [List.length_map, t2] at h2
        omega
      have pne : ps ≠ [] := fun e => by rw [e] at tl; exact absurd tl (Nat.lt_irrefl _)
      obtain ⟨p0, p1⟩ := hsp (pm pne)
      obtain ⟨z, hz, hat⟩ := at_wsS (ws := ns) p0 (by omega)
      have zz : (Str.ofString "zz").length ≤ 100 := by decide +kernel
      have zl := j13.lx z hz
      refine ⟨_, rfl, _, rfl, na, _, spot, _, rfl, rfl, SqL.of j13.hn, hat, (by show 2 ≤ sizeLine; decide), fun ta nta => ?_⟩
      have s14 : Same H13 (upd H13 ta (.tup [.str (Str.ofString "zz"), .str z])) := sn nta
      have e14 : (upd H13 ta (.tup [.str (Str.ofString "zz"), .str z])) ta = some (.tup [.str (Str.ofString "zz"), .str z]) := upd_same
      generalize upd H13 ta (.tup [.str (Str.ofString "zz"), .str z]) = H14 at s14 e14 ⊢
      refine ⟨_, rfl, _, rfl, na, _, spot, _, rfl, rfl, SqL.of (s14 _ _ j13.hn), hat, (by show 2 ≤ sizeLine; decide), fun tb ntb => ?_⟩
      have s15 : Same H14 (upd H14 tb (.tup [.str z, .str (Str.ofString "zz")])) := sn ntb
      have e15 : (upd H14 tb (.tup [.str z, .str (Str.ofString "zz")])) tb = some (.tup [.str z, .str (Str.ofString "zz")]) := upd_same
      generalize upd H14 tb (.tup [.str z, .str (Str.ofString "zz")]) = H15 at s15 e15 ⊢
      refine ⟨(by show 2 ≤ sizeLine; decide), fun q nq => ?_⟩
      have s16 : Same H15 (upd H15 q (.lst [.ref ta, .ref tb])) := sn nq
      have e16 : (upd H15 q (.lst [.ref ta, .ref tb])) q = some (.lst [.ref ta, .ref tb]) := upd_same
      change tCons _ _ _ (upd H15 q (.lst [.ref ta, .ref tb])) _
      generalize upd H15 q (.lst [.ref ta, .ref tb]) = H16 at s16 e16 ⊢
      have j16 := j13.same (s14.trans (s15.trans s16))
      obtain ⟨c, cs, S16⟩ := j16.src
      have qs : q ≠ st := fun y => by
        obtain ⟨i, l, m, h1, _⟩ := S16
        rw [y, h1] at e16
        have e := Option.some.inj e16
        injection e with e
        cases e
      have u1 := (s14.trans (s15.trans s16)) _ _ t1
      have u3 : ∀ (i : Nat) (t : Addr) (q : Str × Str), ts[i]? = some t → ps[i]? = some q → H16 t = some (.tup [.str q.1, .str q.2]) := fun i t q a b => (s14.trans (s15.trans s16)) _ _ (t3 i t q a b)
      obtain ⟨ys, h0⟩ := src_lst ⟨c, cs, S16⟩
      refine ⟨_, rfl, st, 2, c, cs, rfl, S16, by decide, by decide, fun x H17 x0 x1 k17 S17 => ?_⟩
      have j17 := j16.pick (fun b o e n => (k17 b n).trans e) ⟨c, cs, S17⟩
      have v1 := (k17 pa j16.n2).trans u1
      have v3 : ∀ (i : Nat) (t : Addr) (q : Str × Str), ts[i]? = some t → ps[i]? = some q → H17 t = some (.tup [.str q.1, .str q.2]) := fun i t q a b => (k17 t (tup_ne (u3 i t q a b) h0)).trans (u3 i t q a b)
      have ea17 := (k17 ta (tup_ne ((s15.trans s16) _ _ e14) h0)).trans ((s15.trans s16) _ _ e14)
      have eb17 := (k17 tb (tup_ne (s16 _ _ e15) h0)).trans (s16 _ _ e15)
      obtain ⟨tt, q', hx, ht, l1, l2⟩ : ∃ (tt : Addr) (q' : Str × Str), atI [V.ref ta, V.ref tb] x = some (.ref tt) ∧ H17 tt = some (.tup [.str q'.1, .str q'.2]) ∧ q'.1.length ≤ 100 ∧ q'.2.length ≤ 100 := by
        have hx : x = 0 ∨ x = 1 := by omega
        rcases hx with rfl | rfl
        · exact ⟨ta, (Str.ofString "zz", z), rfl, ea17, zz, zl⟩
        · exact ⟨tb, (z, Str.ofString "zz"), rfl, eb17, zl, zz⟩
      refine ⟨q, _, x, _, rfl, rfl, SqL.of ((k17 q qs).trans e16), hx, ?_⟩
      refine ⟨_, rfl, _, rfl, _, rfl, pa, _, rfl, .inl (SqL.of v1), st, _, c, cs, rfl, S17, ?_, ?_, fun y H18 y0 y1 k18 S18 => ?_⟩
      · rw [List.length_map]
        omega
      · rw [List.length_map]
        have := j17.lp
        omega
      rw [List.length_map] at y1
      obtain ⟨y, rfl⟩ : ∃ n : Nat, y = n := ⟨y.toNat, by omega⟩
      have j18 := j17.pick (fun b o e n => (k18 b n).trans e) ⟨c, cs, S18⟩
      obtain ⟨ys2, h02⟩ := src_lst ⟨c, cs, S17⟩
      have w1 := (k18 pa j17.n2).trans v1
      refine ⟨pa, _, _, y, rfl, rfl, w1, ixN_nat (by rw [List.length_map]; omega), ns, ps.set y q', _, _, _, _, rfl, j18.setP w1 t2 (fun i t q a b => (k18 t (tup_ne (v3 i t q a b) h02)).trans (v3 i t q a b)) pne y q' ((k18 tt (tup_ne ht h02)).trans ht) l1 l2, nl, fun _ => pm pne⟩
    rintro σ H9 ⟨ns, ps, v6, v7, v8, v9, rfl, j9, nl, pm⟩
    -- size, caught
    refine ⟨_, rfl, (by show 0 ≤ sizeLine; decide), fun cq ncq => ?_⟩
    have j10 := j9.same (sn (o := .lst []) ncq)
    have hc10 : (upd H9 cq (.lst [])) cq = some (.lst []) := upd_same
    change gName 11 (.ref cq) _ (upd H9 cq (.lst [])) _
    generalize upd H9 cq (.lst []) = H10 at j10 hc10 ⊢
    refine ⟨fun σ H' => ∃ cq : Addr, σ = [some (.ref sc), some (.ref st), some (.bl d), some (.int (many : Nat)), some (.ref na), some (.ref pa), v6, v7, v8, v9, some (.int (dueSize ns ps d)), some (.ref cq), none, none] ∧ J H' st na pa ns ps ∧ H' cq = some (.lst ((if dueSize ns ps d < 0 then [true, true, false] else ([] : List Bool)).map V.bl)), ?_, ?_⟩
    · have pairs : ∀ {H' : Hp}, J H' st na pa ns ps → PairsS K H' pa ps := fun j => by
        obtain ⟨ts, t1, t2, t3⟩ := j.hp
        exact ⟨ts, SqL.of t1, t2, fun i t q a b => .inl (Rd.of (t3 i t q a b))⟩
      have lp := j10.lp
      refine ⟨_, rfl, d, rfl, ?_⟩
      cases d with
      | true =>
        refine iteT ⟨_, rfl, _, rfl, fun x dx hx hdx hne => ?_⟩
        have sx : Same H10 (upd (upd H10 dx (.own x)) x (.ins (ga K "DownLattice") dx [])) := (sn hdx).trans (sn ((upd_ne (Ne.symm hne)).trans hx))
        have jx := j10.same sx
        refine ⟨x, dx, na, pa, ns, ps, rfl, upd_same, SqL.of jx.hn, by omega, jx.lx, pairs jx, by omega, jx.px, fun ok l1 l2 l3 H' off f1 f2 f3 g1 g2 g3 hp hv1 hv2 hv3 => ⟨rfl, ?_⟩, fun no H' off => ?_⟩
        · have so : Same H10 H' := fun b o e => off b o (sx _ _ e) (fun z => by rw [z, hx] at e; cases e)
          have hd : dueSize ns ps true = (((downMasks ns.length (wsOf ns ps)).length : Nat) : Int) := by
            unfold dueSize
            rw [if_pos rfl, if_pos ok]
          refine ⟨x, _, dx, _, _, rfl, hp, c_DownLattice Z, n_DownLattice_size Z, (by kernel_rfl), cq, by rw [hd]; rfl, j10.same so, ?_⟩
          rw [hd, if_neg (by omega)]
          exact so _ _ hc10
        · have so : Same H10 H' := fun b o e => off b o (sx _ _ e) (fun z => by rw [z, hx] at e; cases e)
          have hd : dueSize ns ps true = -1 := by
            unfold dueSize
            rw [if_pos rfl, no, if_neg Bool.false_ne_true]
          refine ⟨true, e_BadLattice_BadLattice Z, fun _ a _ => ?_, fun q => Bool.noConfusion q⟩
          refine ⟨_, rfl, _, _, _, _, rfl, rfl, rfl, xC, fun u r => r, eb, _, rfl, _, _, _, _, rfl, rfl, rfl, xC, fun u r => r, ec, _, rfl, _, _, _, _, rfl, rfl, rfl, xC, fun u r => r, ed, (by show 3 ≤ sizeLine; decide), fun c2 nc2 => ?_⟩
          refine ⟨c2, by rw [hd]; rfl, (j10.same so).same (sn nc2), ?_⟩
          rw [hd, if_pos (by decide)]
          exact upd_same
      | false =>
        refine iteF ⟨_, rfl, _, rfl, fun x dx hx hdx hne => ?_⟩
        have sx : Same H10 (upd (upd H10 dx (.own x)) x (.ins (ga K "OrderLattice") dx [])) := (sn hdx).trans (sn ((upd_ne (Ne.symm hne)).trans hx))
        have jx := j10.same sx
        refine ⟨x, dx, na, pa, ns, ps, rfl, upd_same, SqL.of jx.hn, by omega, jx.lx, pairs jx, by omega, jx.px, fun ok l1 l2 l3 H' off f1 f2 f3 g1 g2 g3 hp hv1 hv2 hv3 => ⟨rfl, ?_⟩, fun no H' off => ?_⟩
        · have so : Same H10 H' := fun b o e => off b o (sx _ _ e) (fun z => by rw [z, hx] at e; cases e)
          have hd : dueSize ns ps false = ((ns.length : Nat) : Int) := by
            unfold dueSize
            rw [if_neg Bool.false_ne_true, if_pos ok]
          refine ⟨x, _, dx, _, _, rfl, hp, c_OrderLattice Z, n_OrderLattice_size Z, (by kernel_rfl), cq, by rw [hd]; rfl, j10.same so, ?_⟩
          rw [hd, if_neg (by omega)]
          exact so _ _ hc10
        · have so : Same H10 H' := fun b o e => off b o (sx _ _ e) (fun z => by rw [z, hx] at e; cases e)
          have hd : dueSize ns ps false = -1 := by
            unfold dueSize
            rw [if_neg Bool.false_ne_true, no, if_neg Bool.false_ne_true]
          refine ⟨true, e_BadLattice_BadLattice Z, fun _ a _ => ?_, fun q => Bool.noConfusion q⟩
          refine ⟨_, rfl, _, _, _, _, rfl, rfl, rfl, xC, fun u r => r, eb, _, rfl, _, _, _, _, rfl, rfl, rfl, xC, fun u r => r, ec, _, rfl, _, _, _, _, rfl, rfl, rfl, xC, fun u r => r, ed, (by show 3 ≤ sizeLine; decide), fun c2 nc2 => ?_⟩
          refine ⟨c2, by rw [hd]; rfl, (j10.same so).same (sn nc2), ?_⟩
          rw [hd, if_pos (by decide)]
          exact upd_same
    rintro σ H11 ⟨cq, rfl, j11, hcq⟩
    have lp := j11.lp
    obtain ⟨ts, t1, t2, t3⟩ := j11.hp
    refine ⟨_, rfl, _, rfl, _, rfl, na, pa, ns, ps, d, rfl, SqL.of j11.hn, by omega, j11.lx, ⟨ts, SqL.of t1, t2, fun i t q a b => .inl (Rd.of (t3 i t q a b))⟩, by omega, fun H12 s12 => ?_⟩
    generalize dueSize ns ps d = due at hcq ⊢
    refine ⟨_, rfl, _, rfl, rfl, _, rfl, ?_⟩
    rw [decide_eq_true rfl]
    refine iteT ⟨_, rfl, _, rfl, _, _, rfl, rfl, _, rfl, ite2 (fun c => ?_) (fun c => ?_)⟩
    · rw [if_pos (of_decide_eq_true c)] at hcq
      refine ⟨(by show 3 ≤ sizeLine; decide), fun q nq => ⟨.list [.bool true, .bool true, .bool false], .list [.bool true, .bool true, .bool false], .lst (SqL.of (sn nq _ _ (s12 _ _ hcq))) (.cons (.bl _) (.cons (.bl _) (.cons (.bl _) .nil))), .lst (SqL.of upd_same) (.cons (.bl _) (.cons (.bl _) (.cons (.bl _) .nil))), by rfl, by rfl, ?_⟩⟩
      rw [SeqAt.eqv_refl _ (by rfl)]
      exact k _
    · rw [if_neg (fun z => c (decide_eq_true z))] at hcq
      refine ⟨(by show 0 ≤ sizeLine; decide), fun q nq => ⟨.list [], .list [], .lst (SqL.of (sn nq _ _ (s12 _ _ hcq))) .nil, .lst (SqL.of upd_same) .nil, by rfl, by rfl, ?_⟩⟩
      rw [SeqAt.eqv_refl _ (by rfl)]
      exact k _
end
end Lk02

set_option maxHeartbeats 0
namespace Lk02
open PySem PySem.Spec PyProof.Rows L2 He HkS Bs
abbrev R : PySem.W.OpenRow := PySem.W.OpenLaw.row PySem.Challenge.rw_latticewish_k02_bad_orders
abbrev hk : PySem.W.Hook := hookM 5 PG fal fnl exl more
def ob (s : PySem.W.SharedT) : AlM := obsMG 5 PG fal fnl exl more (HandSHeadRun.getT s)
theorem ob_eq (s : PySem.W.SharedT) : ob s = hk.obs s.abs := obsMG_eq (HandSHeadRun.getT_eq s)
def loose : List PySem.Str := ["_wall", "__name__", "LatticeError", "BadLattice", "MixedLattices", "_SIGNS", "_LONGEST", "is_told_rightly", "check_order", "masks_below", "masks_above", "has_place", "order_label", "_MOST_NAMES", "Lattice", "OrderLattice", "_first_place", "_MOST_MARKS", "DownLattice", "_is_down", "_set_name", "_law_cells", "_law_pick", "_law_words", "_law_closed", "_law_odd", "_law_right_name", "_law_size"]
theorem run (w : World) : HandSHeadRun.RunEq R (PySem.W.view R.prog [32]) hk ob 8000 loose w := by
  intro os
  kernel_rfl
end Lk02
open PySem PySem.W PySem.Calls PyProof.Rows
theorem PySem.Challenge.cw_latticewish_k02_bad_orders_holds : PySem.Challenge.rw_latticewish_k02_bad_orders.Holds := by
  w_on; o_law
  refine HandSHeadRun.head_any (r := OpenLaw.row PySem.Challenge.rw_latticewish_k02_bad_orders) (q := view (OpenLaw.row PySem.Challenge.rw_latticewish_k02_bad_orders).prog [32]) (H := Lk02.hk) (ob := Lk02.ob) (M := 8000) (loose := Lk02.loose) (d := HandSHeadRun.topDef (OpenLaw.row PySem.Challenge.rw_latticewish_k02_bad_orders).prog 32) (kwd := []) Lk02.ob_eq
    (by kernel_rfl) (fun s => by kernel_rfl) Lk02.run (by kernel_rfl) (by kernel_rfl) (by kernel_rfl) (by rfl) (by first | assumption | decide +kernel) (by decide +kernel) ⟨rfl, rfl, rfl, rfl, rfl, by decide +kernel⟩ ?hw ?hc
  case hw => w_witness2
  case hc =>
    refine L2.walk_ofE (l := PySem.Challenge.rw_latticewish_k02_bad_orders) (n := 63) (k := 9) (x := "script") (CX := L2.CX0) rfl (by decide) (by kernel_rfl) ⟨rfl, by decide, by decide⟩ ?F (fun _ _ _ _ z => z)
    intro w mg fa h Y G hmg0
    obtain ⟨K, KX, c⟩ := Y
    have hmg : mg ("law" : PySem.Str) = some (.ref fa) := by
      have e : (HandSHeadRun.topDef (OpenLaw.row PySem.Challenge.rw_latticewish_k02_bad_orders).prog 32).name = ("law" : PySem.Str) := by kernel_rfl
      rw [← e]
      exact hmg0
    have Z := Lk02.ctx_of KX G c
    have e := hmg.symm.trans (Lk02.g_law Z)
    cases e
    obtain ⟨fd0, F0⟩ := Lk02.fd_law Z
    have hb0 := L2.FunD.bindsA (ps := ["script"]) F0 fun _ _ _ _ _ _ us hl => match us, hl with | [_], _ => rfl
    exact Bs.law_end KX F0 (fun s u => hb0 s [u] rfl) (fun base => Lk02.ok_law (P := (PySem.Challenge.rw_latticewish_k02_bad_orders).prog) (w := w) (base := base) Z rfl) (fun H a ns hl hS => ⟨a, ns, rfl, hS, hl, fun _ => rfl⟩)


