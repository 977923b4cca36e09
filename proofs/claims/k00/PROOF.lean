import PyProof.Rows.All
import Wide.All
import OpenK.AllK
import Wide.FinOn
import PyProof.EqAt
import PyProof.EqKinds
import PyProof.TupleCall
import KE.KExcSuper
import HandS.ForMost
import HandS.ExcInit
import HandS.ExcValue
import HandS.IsInst
import KE.KExcIs
import HandS.Zip
import HandS.More
import PySem.Challenge.RW_stillfound_k00_errors_and_their_fields
set_option Elab.async false
set_option linter.all false
set_option maxRecDepth 100000
set_option maxHeartbeats 4000000
/-! Errors with one field, whose __init__ says super().__init__(a text) and then keeps the field. -/
namespace EF
open PySem PySem.W PySem.Calls PyProof.Rows
def eA (f : Str) (p1 p2 : Pos) : Arguments :=
  { posonlyargs := [], args := [⟨"self", none, p1⟩, ⟨f, none, p2⟩], vararg := none, kwonlyargs := [], kw_defaults := [], kwarg := none, defaults := [] }
def eB (f tx : Str) (q1 q2 q3 q4 q5 q6 q7 q8 q9 q10 : Pos) : List Stmt :=
  [.Expr (.Call (.Attribute (.Call (.Name "super" q1) [] [] q2) "__init__" q3) [.Constant (.str tx) 0 q4] [] q5) q6,
   .Assign [.Attribute (.Name "self" q7) f q8] (.Name f q9) q10]
def eS (f : Str) : Scope :=
  { kind := .function, names := [("self", .local), (f, .local), ("__class__", .free), ("super", .globalImplicit)], isGenerator := false, isCoroutine := false, more := [] }
/-- the field's name is none of the other names -/
structure FOk (f : Str) : Prop where
  l1 : (eS f).names.lookup ("self" : Str) = some .local
  l2 : (eS f).names.lookup f = some .local
  l3 : (eS f).names.lookup ("__class__" : Str) = some .free
  l4 : (eS f).names.lookup ("super" : Str) = some .globalImplicit
  ne : ("self" : Str) ≠ f
  nd : (f == ("__debug__" : Str)) = false
  bd : ∀ (qual : Str) (p1 p2 : Pos) (body : List Stmt) (kV dc pm : Value) (an : Option Addr) (cdv ct : Value) (cc : Addr) (a b : Value),
    bindArgs (ksFn "__init__" qual (eA f p1 p2) body (eS f) .none kV dc pm an cdv ct cc) ⟨[a, b], []⟩ = pure [(("self" : Str), a), (f, b)]
/-- what the written part says of such a class, at C; its __init__ is at fI -/
structure ErrC (prog : Program) (K : Frag) (mg : Str → Option Value) (C : Addr) (f : Str) : Prop where
  fok : FOk f
  cls : ∃ nm q N bs bm sn sub ab col dd k0 k1 k2 k3 k5, K.lookup C = some (excClassObj nm q C N bs bm true sn sub ab col dd k0 k1 k2 k3 k5 "ValueError.__new__") ∧ PySem.HandSPX.refsVE bm = true
  sa : findIn K (.ref C) "__setattr__" = some (some (.builtin "object.__setattr__"))
  ga : findIn K (.ref C) "__getattribute__" = some (some (.builtin "BaseException.__getattribute__"))
  gg : findIn K (.ref C) "__getattr__" = some none
  noF : findIn K (.ref C) f = some none
  exC : subIn K (.ref C) (.type "BaseException") = some true
  veC : subIn K (.ref C) (.type "ValueError") = some true
  meC : mroIn K C (.ref C) = some true
  tyC : typeIn K (.ref C) = some (.type "type")
  hdC : hasDictIn K C = true
  kC : keepIn K (.ref C) = true
  noSup : mg "super" = none
  noTop : (prog.main.scope.names.lookup ("super" : Str)).isSome = false
  sup : ks_superIn K C C "__init__" = some (some (.builtin "ValueError.__init__"))
  any : nsIn K cStatics "thirdparty.any" = some none
  ini : ∃ fI : Addr, findIn K (.ref C) "__init__" = some (some (.ref fI)) ∧ typeIn K (.ref fI) = some (.type "function") ∧
    ∃ (oc dc pm ct qt : Value) (od an : Option Addr) (osl : Array (Option Value)) (qual tx : Str) (cda cc : Addr) (p1 p2 q1 q2 q3 q4 q5 q6 q7 q8 q9 q10 : Pos),
      K.lookup fI = some ⟨oc, od, .func (ksFn "__init__" qual (eA f p1 p2) (eB f tx q1 q2 q3 q4 q5 q6 q7 q8 q9 q10) (eS f) .none qt dc pm an (.ref cda) ct cc), osl⟩ ∧
      codeIn K (.ref cda) qual = true ∧ (q3.endLine == q5.line) = true ∧
      (∃ (c1 : Value) (c2 : Option Addr) (vs : Array Value) (c3 : Array (Option Value)) (file : Str) (tf : Tok), K.lookup cda = some ⟨c1, c2, .fields vs, c3⟩ ∧ vs[2]? = some (.str file tf) ∧ ((prog.main.file : Str) == file) = true) ∧
      ∃ (c1 : Value) (c2 : Option Addr) (c3 : Array (Option Value)), K.lookup cc = some ⟨c1, c2, .cell (some (.ref C)), c3⟩
/-- what __init__ leaves of a fresh error at x -/
structure InitEnd (f : Str) (h h' : Heap) (x C dx t1 : Addr) (v : Value) : Prop where
  keep : ∀ b o, b ≠ x → h.get? b = some o → h'.get? b = some o
  obj : h'.get? x = some { cls := .ref C, dict := some dx, data := .fields #[.ref t1, .none, .none, .none, .bool false, .none] }
  dbig : h.objs.size ≤ dx
  dne : dx ≠ x
  ns : h'.Ns1 dx (fun y => if y = f then some v else none)
section
variable {prog : Program} {w : World} {A : Around} {E : Value → Shared → Prop} {R : Result → Shared → Prop} {s : Shared} {K : Frag} {mg mb : Str → Option Value} {C : Addr} {f : Str}
/-- the built-in __init__, bound to the error at x, is called -/
theorem bound_called (T : ErrC prog K mg C f) (X : K.In s.heap) {u x t0 : Addr} {rest : List Value} {Q : Value → Shared → Prop} (hu : s.heap.get? u = some (kxs_mw "ValueError.__init__" x)) (hx : s.heap.get? x = some (PySem.HandSPX.excO C t0))
    (hr : rest.length ≤ sizeLine) (hq : ∀ h' t1, (∀ b o, b ≠ x → s.heap.get? b = some o → h'.get? b = some o) → h'.get? x = some (PySem.HandSPX.excO C t1) → Q .none { s with heap := h' }) :
    wpAny (model prog w) A (call (.ref u) rest) Q E s := by
  obtain ⟨nm, q, N, bs, bm, sn, sub, ab, col, dd, k0, k1, k2, k3, k5, hC, hbm⟩ := T.cls
  have FB := F.excBase_ValueError
  obtain ⟨hh, g, d, tk, os⟩ := s
  refine wpAny_call (codeAny_of_tree (show wpAny _ A.in1 (callAny (.ref u) ⟨rest, []⟩) _ _ _ from ?_))
  unfold callAny
  refine wpAny_bind (wpAny_load hu ?_)
  have tm : (Value.type "method-wrapper" == Value.type "method" || Value.type "method-wrapper" == Value.type "builtin_function_or_method" || Value.type "method-wrapper" == Value.type "method-wrapper") = true := by decide
  simp only [kxs_mw, tm, if_true]
  refine KFB.if_so (by decide) (wpAny_bind (check_bound_init FB.toExcCallFacts (X _ _ hC) hx rfl (wpAny_bind (wpAny_pure (wpAny_pure ⟨plainId_quiet FB.init.plain _, codeAny_builtin FB.initEntry ?_⟩)))))
  exact exc_init_tree (cls := .ref C) (t0 := t0) (dv := none) (c2 := .none) (c3 := .none) (b4 := .bool false) hx hr fun h' k e _ => hq h' _ k e
theorem meth_call {env : Env} {q1 q2 q3 q4 q5 : Pos} {name tx : Str} (hl : (q3.endLine == q5.line) = true) :
    eval (.Call (.Attribute (.Call (.Name "super" q1) [] [] q2) name q3) [.Constant (.str tx) 0 q4] [] q5) env = (do
      let ov ← attributeBase (.Call (.Name "super" q1) [] [] q2) name env (eval (.Call (.Name "super" q1) [] [] q2) env)
      standAt q3.atName
      let (f, first) ← holding [ov] (getMethod ov name (do return (← importBound (.Call (.Name "super" q1) [] [] q2) env).getD true))
      callWith q5 f first (backTo q5 (starEach [.Constant (.str tx) 0 q4] env)) []) := by
  show (do
    let ov ← attributeBase (.Call (.Name "super" q1) [] [] q2) name env (eval (.Call (.Name "super" q1) [] [] q2) env)
    standAt q3.atName
    methodCall (.Call (.Name "super" q1) [] [] q2) name q3 q5 env ov 1 (backTo q5 (starEach [.Constant (.str tx) 0 q4] env)) []) = _
  have e : ∀ b : Bool, methodCallPos b (.Call (.Name "super" q1) [] [] q2) env q3 q5 = pure q5 := fun b => by
    unfold methodCallPos
    rw [hl, Bool.or_true, if_pos rfl]
  have e2 : ∀ ov, methodCall (.Call (.Name "super" q1) [] [] q2) name q3 q5 env ov 1 (backTo q5 (starEach [.Constant (.str tx) 0 q4] env)) [] = (do
      let (f, first) ← holding [ov] (getMethod ov name (do return (← importBound (.Call (.Name "super" q1) [] [] q2) env).getD true))
      callWith q5 f first (backTo q5 (starEach [.Constant (.str tx) 0 q4] env)) []) := fun ov => by
    unfold methodCall
    simp only [e, pure_bind]
    rfl
  simp only [e2]
/-- __init__ run over a fresh error at x -/
theorem init_run (T : ErrC prog K mg C f) (X : K.In s.heap) (hlim : s.heap.NoLimit) (hg : s.heap.Ns mainGlobals mg) (hb : s.heap.Ns builtinsNs mb) (hbs : mb "super" = some (.type "super")) {fI x t0 : Addr} {v : Value}
    (hfI : findIn K (.ref C) "__init__" = some (some (.ref fI))) (hx : s.heap.get? x = some (PySem.HandSPX.excO C t0)) (hxK : K.lookup x = none) (hroom : A.depth < recursionLimit)
    (hq : ∀ h' tk dx t1, InitEnd f s.heap h' x C dx t1 v → R (.ok (.ret .none)) { s with heap := h', toks := tk }) :
    codeAny (model prog w) A (.call (.ref fI) ⟨[.ref x, v], []⟩) R s := by
  obtain ⟨fI', hfI', tI, oc, dc, pm, ct, qt, od, an, osl, qual, tx, cda, cc, p1, p2, q1, q2, q3, q4, q5, q6, q7, q8, q9, q10, lk, hcd, hln, ⟨c1, c2, vs, c3, file, tf, lcda, hvs, hfile⟩, ⟨e1, e2, e3, lcc⟩⟩ := T.ini
  obtain rfl : fI' = fI := by
    rw [hfI] at hfI'
    cases hfI'
    rfl
  obtain ⟨nm, q, N, bs, bm, sn, sub, ab, col, dd, k0, k1', k2, k3, k5, hC, hbm⟩ := T.cls
  have hcl : clsIn K C = some { name := nm, bases := bs, mro := .ref C :: bm, ns := N, qualname := q, hasDict := true, slotNames := sn, subclasses := sub, abstract := ab, collection := col, hasDel := false } := by
    unfold clsIn; rw [hC] <;> rfl
  have nsf := T.fok.ne
  refine ks_codeAny_call_defAt (fd := ksFn "__init__" qual (eA f p1 p2) (eB f tx q1 q2 q3 q4 q5 q6 q7 q8 q9 q10) (eS f) .none qt dc pm an (.ref cda) ct cc) (body := eB f tx q1 q2 q3 q4 q5 q6 q7 q8 q9 q10) (binds := [("self", .ref x), (f, v)])
    hroom (X _ _ lk) rfl hlim (codeRec_of X hcd) rfl ?_ ?_ ?_ (fun h1 hns k1 => ?_)
  · exact BindsTo.of_eq (T.fok.bd _ _ _ _ _ _ _ _ _ _ _ _ _)
  · intro y hy
    rcases List.mem_cons.mp hy with rfl | hy
    · decide
    rcases List.mem_cons.mp hy with rfl | hy
    · show NameKind.local ≠ NameKind.cell
      decide
    rcases List.mem_cons.mp hy with rfl | hy
    · decide
    rcases List.mem_cons.mp hy with rfl | hy
    · decide
    · cases hy
  · intro y hy
    rcases List.mem_cons.mp hy with rfl | hy
    · exact T.fok.l1
    rcases List.mem_cons.mp hy with rfl | hy
    · exact T.fok.l2
    · cases hy
  · have X1 : K.In h1 := X.keeps k1
    have hx1 := k1 _ _ hx
    have m1 : ([(("self" : Str), Value.ref x), (f, v)].reverse.lookup ("self" : Str)) = some (.ref x) := by
      simp [List.lookup, beq_false_of_ne nsf]
    have m2 : ([(("self" : Str), Value.ref x), (f, v)].reverse.lookup f) = some v := by
      simp [List.lookup]
    show _root_.PySem.wpAt (model prog w) (A.deeper (ksEnv qual (eS f) s.heap.objs.size fI' (.ref cda) cc)) (.func _ (ksEnv qual (eS f) s.heap.objs.size fI' (.ref cda) cc)) (execs _ (ksEnv qual (eS f) s.heap.objs.size fI' (.ref cda) cc)) _ _ _
    have hD : h1.get? C = some (excClassObj nm q C N bs bm true sn sub ab col dd k0 k1' k2 k3 k5 "ValueError.__new__") := X1 _ _ hC
    refine ks_wpAt_execs_cons (ks_wpAt_Expr_any (ks_wpAt_MethodCall ?_ (meth_call hln)))
    refine ks_wpAt_super_base (env := ksEnv qual (eS f) s.heap.objs.size fI' (.ref cda) cc) T.fok.l4 T.fok.l3 (by decide) rfl (X1 _ _ lk) rfl rfl rfl (X1 _ _ lcda) rfl hvs hfile T.noTop ?_
    refine ks_loadName_global rfl T.fok.l4 (loadGlobal_builtin (env := ksEnv qual (eS f) s.heap.objs.size fI' (.ref cda) cc) (hg.keeps k1) T.noSup (hb.keeps k1) hbs ⟨rfl, ?_⟩)
    refine wpAny_loadName_free rfl T.fok.l3 rfl ⟨_, X1 _ _ lcc, rfl⟩ ?_
    refine wpAny_loadName_local rfl T.fok.l1 hns m1 ?_
    refine ks_wpAny_isType_cls hD rfl ⟨rfl, ?_⟩
    refine ks_wpAny_call_super hD rfl hx1 rfl (fun c e => nomatch e) (looks_mroIn X1 T.meC) (fun h2 hso k2' => ?_)
    have X2 : K.In h2 := X1.keeps k2'
    have hx2 := k2' _ _ hx1
    have ne : ∀ {b : Addr} {o : Obj}, s.heap.get? b = some o → b ≠ s.heap.objs.size := fun {b o} z => Nat.ne_of_lt (Heap.lt_size z)
    have hsp : alongIn K "__init__" ((((Value.ref C :: bm).dropWhile (· != .ref C))).drop 1) = some (some (.builtin "ValueError.__init__")) := by
      have z := T.sup
      unfold ks_superIn at z
      rw [hcl] at z
      exact z
    have I2 : InstAt h2 x (PySem.HandSPX.excO C t0) C none := ⟨hx2, rfl, rfl, trivial⟩
    have xC : x ≠ C := ks_ne X2 I2 hcl
    refine kxs_getMethod kxs_ValueError hso (looks_opaque X2 T.any) (l₀ := .ref C :: bm) (fun A Q E s k q => wpAny_bind ((looks_clsIn X2 hcl) A _ E s k (wpAny_pure q))) rfl X2 hsp (I2.type.andThen (looks_subIn X2 T.veC)) xC (by decide) ?_
    have hu3 : (h2.push (kxs_mw "ValueError.__init__" x)).get? h2.objs.size = some (kxs_mw "ValueError.__init__" x) := Heap.get?_push_at rfl rfl
    have k3 : ∀ b o, h2.get? b = some o → (h2.push (kxs_mw "ValueError.__init__" x)).get? b = some o := fun b o e => Heap.get?_push_of_some _ e
    generalize h2.push (kxs_mw "ValueError.__init__" x) = h3 at hu3 k3 ⊢
    refine kxs_callWith (i := "ValueError.__init__") (x := x) rfl (evalArgs_plain ?_)
    show wpAny _ _ (spliced [(false, eval (.Constant (.str tx) 0 q4) (ksEnv qual (eS f) s.heap.objs.size fI' (.ref cda) cc))]) _ _ _
    refine Calls.spliced_cons ?_
    refine Calls.Constant_str ?_
    refine Calls.spliced_nil ?_
    refine ⟨hu3, ?_⟩
    have X3 : K.In h3 := X2.keeps k3
    refine bound_called (s := ⟨h3, _, _, _, _⟩) T X3 hu3 (k3 _ _ hx2) (by show 1 ≤ sizeLine; rw [sizeLine_eq]; decide) fun h4 t1 k4 hx4 => ?_
    have old : ∀ b o, b ≠ x → h1.get? b = some o → h4.get? b = some o := fun b o hb e => k4 b o hb (k3 _ _ (k2' _ _ e))
    have X4 : K.In h4 := fun b o e => old b o (fun z => by
      rw [z, hxK] at e
      cases e) (X1 _ _ e)
    have hns4 : h4.Ns s.heap.objs.size (fun y => [(("self" : Str), Value.ref x), (f, v)].reverse.lookup y) :=
      hns.at fun o e => old _ o (fun z => (ne hx) z.symm) e
    refine wpAt_of_wpAny ?_
    show wpAny _ _ (execs _ _) _ _ _
    refine wpAny_execs_cons (plainObj_wpAny_Assign_Attribute ?_)
    refine wpAny_Name (wpAny_loadName_local rfl T.fok.l2 hns4 m2 ?_) T.fok.nd
    refine wpAny_Name (wpAny_loadName_local rfl T.fok.l1 hns4 m1 ?_) (by decide)
    refine set_plain (s := ⟨h4, _, _, _, _⟩) X4 (ox := PySem.HandSPX.excO C t1) (od := none) ⟨hx4, rfl, rfl, trivial⟩ T.sa ?_
    refine PySem.HandSPX.exc_osa X4 hx4 hcl (show PySem.HandSPX.refsVE (.ref C :: bm) = true from hbm) rfl T.noF (fun h5 tk5 dx k5 dn dne hx5 hn5 => ?_)
    show wpAny _ _ (execs _ _) _ _ _
    refine wpAny_execs_nil (hq h5 tk5 dx t1 ⟨fun b o hb e => k5 b o hb (old b o hb (k1 _ _ e)), hx5, ?_, dne, hn5⟩)
    exact Nat.le_trans (Nat.le_of_lt hns4.lt) dn
/-- C(v): a new error -/
theorem made (T : ErrC prog K mg C f) (X : K.In s.heap) (hlim : s.heap.NoLimit) (hg : s.heap.Ns mainGlobals mg) (hb : s.heap.Ns builtinsNs mb) (hbs : mb "super" = some (.type "super")) {v : Value} (hroom : A.depth + 1 < recursionLimit)
    (hq : ∀ h' tk x dx t1, (∀ b o, s.heap.get? b = some o → h'.get? b = some o) → s.heap.objs.size ≤ x → s.heap.objs.size ≤ dx → dx ≠ x →
      h'.get? x = some { cls := .ref C, dict := some dx, data := .fields #[.ref t1, .none, .none, .none, .bool false, .none] } → h'.Ns1 dx (fun y => if y = f then some v else none) → R (.ok (.ret (.ref x))) { s with heap := h', toks := tk }) :
    codeAny (model prog w) A (.call (.ref C) ⟨[v], []⟩) R s := by
  obtain ⟨fI, hfI, tI, _⟩ := T.ini
  obtain ⟨nm, q, N, bs, bm, sn, sub, ab, col, dd, k0, k1, k2, k3, k5, hC, hbm⟩ := T.cls
  obtain ⟨hp, g, dr, tk, os⟩ := s
  have kk : ∀ b o, hp.get? b = some o → ((hp.push (kdv_tup [v])).push (PySem.HandSPX.excO C hp.objs.size)).get? b = some o := fun b o e => Heap.get?_push_of_some _ (Heap.get?_push_of_some _ e)
  have hget : ((hp.push (kdv_tup [v])).push (PySem.HandSPX.excO C hp.objs.size)).get? (hp.objs.size + 1) = some (PySem.HandSPX.excO C hp.objs.size) := by heap_get
  have hxK : K.lookup (hp.objs.size + 1) = none := by
    cases e : K.lookup (hp.objs.size + 1) with
    | none => rfl
    | some o => exact absurd (Nat.lt_of_succ_lt (Heap.lt_size (X _ _ e))) (Nat.lt_irrefl _)
  refine PySem.HandSPX.call_own F.excBase_ValueError (fun Y => PySem.HandSPX.refsVE_contains Y bm hbm) (X _ _ hC) (looks_findIn X hfI) (fun self => bind_fn X self tI) (by show 1 ≤ sizeLine; rw [sizeLine_eq]; decide) ?_
  refine init_run (s := ⟨(hp.push (kdv_tup [v])).push (PySem.HandSPX.excO C hp.objs.size), g, dr, tk, os⟩) T (X.keeps kk) (hlim.keeps kk) (hg.keeps kk) (hb.keeps kk) hbs hfI hget hxK hroom fun h' tk' dx t1 Z => ?_
  have old : ∀ b o, hp.get? b = some o → h'.get? b = some o := fun b o e => Z.keep b o (Nat.ne_of_lt (Nat.lt_succ_of_lt (Heap.lt_size e))) (kk b o e)
  have z : hp.objs.size + 1 + 1 ≤ dx := by
    have q := Z.dbig
    simp only [Heap.size_push] at q
    exact q
  exact ⟨rfl, hq h' tk' (hp.objs.size + 1) dx t1 old (Nat.le_succ _) (Nat.le_trans (Nat.le_trans (Nat.le_succ _) (Nat.le_succ _)) z) Z.dne Z.obj Z.ns⟩
end
end EF

set_option maxHeartbeats 4000000
namespace EF
open PySem PySem.Spec PyProof.Rows L2
open PySem.W (Frag findIn subIn mroIn clsIn nsIn specialIn takesIn keepIn hasDictIn InstAt)
/-- an error stands at a: of the class at C, and its fields if it has some -/
def ErrAt (H : Hp) (a C : Addr) (fs : List (Str × V)) : Prop :=
  (∃ d, H a = some (exo a C (some d)) ∧ H d = some (exd d fs)) ∨ (fs = [] ∧ H a = some (ExO (.ref C) a))
theorem ErrAt.ext {H H' : Hp} {a C : Addr} {fs : List (Str × V)} (h : ErrAt H a C fs) (e : ∀ b o, H b = some o → H' b = some o) : ErrAt H' a C fs := by
  rcases h with ⟨d, h1, h2⟩ | ⟨h0, h1⟩
  · exact .inl ⟨d, e _ _ h1, e _ _ h2⟩
  · exact .inr ⟨h0, e _ _ h1⟩
/-- two new objects laid at once -/
theorem laid2 {X : Cx} {pins : List (Addr × Obj)} {σ : L2.St} {H : Hp} {s : Shared} {h' : Heap} {t' : Nat} {a d : Addr} {oa od : HO} (I : Inv X pins σ H s) (k : ∀ b o, s.heap.get? b = some o → h'.get? b = some o) (ha : H a = none) (hd : H d = none) (hda : d ≠ a)
    (na : s.heap.get? a = none) (nd : s.heap.get? d = none) (oka : ObjOk X.prog X.w (upd (upd H d od) a oa) h' a oa) (okd : ObjOk X.prog X.w (upd (upd H d od) a oa) h' d od) :
    Inv X pins σ (upd (upd H d od) a oa) { s with heap := h', toks := t' } := by
  have n1 : ∀ {b : Addr} {o : Obj}, s.heap.get? b = some o → b ≠ a := fun {b o} e z => by
    rw [z, na] at e
    cases e
  have n2 : ∀ {b : Addr} {o : Obj}, s.heap.get? b = some o → b ≠ d := fun {b o} e z => by
    rw [z, nd] at e
    cases e
  have up : ∀ {b : Addr} {o : HO}, H b = some o → upd (upd H d od) a oa b = some o := fun {b o} e => by
    rw [upd_ne (ne_of_none e ha), upd_ne (ne_of_none e hd)]
    exact e
  refine I.un ⟨fun b o q _ _ _ => k b o q, fun b o q _ _ _ => ⟨o.slots, k b o q⟩, fun b o q n _ => ?_, fun b o q _ => ⟨o, k b o q⟩, fun b xs q => up q, fun b o u q => up q, fun b ps q => ⟨#[], by rw [up q]; simp⟩⟩ fun b o q => ?_
  · rw [upd_ne (n1 q), upd_ne (n2 q)]
    exact n
  · by_cases hb : b = a
    · subst hb
      rw [upd_same] at q
      cases q
      exact oka
    · rw [upd_ne hb] at q
      by_cases hb2 : b = d
      · subst hb2
        rw [upd_same] at q
        cases q
        exact okd
      · rw [upd_ne hb2] at q
        exact (I.hok b o q).stay (fun c v _ z => k c v z) (fun c z => up z) fun c xs z => up z
section
variable {X : Cx} {C : Addr} {f x : Str} {e : Expr} {te : TE} {p pos : Pos}
/-- C(e), an error with a field, as a value -/
theorem pe_err1 (T : ErrC X.prog X.K X.mg C f) (gC : X.mg x = some (.ref C)) (hg : Gl X x) (hr : Room 1 X.A) (he : PE X e te)
    (hs : starEach [e] X.env = (false, eval e X.env) :: starEach [] X.env := by rfl) (hdb : (x == ("__debug__" : Str)) = false := by decide) :
    PE X (.Call (.Name x p) [e] [] pos) (fun σ H Q => te σ H fun v H1 => ∀ a H', ErrAt H' a C [(f, v)] → (∀ b o, H1 b = some o → H' b = some o) → H1 a = none → Q (.ref a) H') := by
  refine ⟨fun pins s σ H Q I h => ?_⟩
  refine wpAny_Call_Name_kw (ld_glob I hg gC ?_ hdb)
  refine PySem.W.callWith_K (h₀ := X.base) I.ok.mod.kin T.kC ?_ hs (by rfl)
  rw [hs]
  show wpAny _ _ (spliced ((false, eval e X.env) :: backTo pos (starEach [] X.env))) _ _ s
  refine Calls.spliced_cons (thn (he.run pins s σ H _ I h) fun u s1 ⟨v, H1, I1, r1, q1⟩ => ?_)
  refine Calls.spliced_nil ⟨I1.kIn, ?_⟩
  show wpAny _ _ (call (.ref C) [u]) _ _ _
  obtain ⟨mb, hb, hbs⟩ := I1.mod.blt
  obtain ⟨hp, g, dr, tk, os⟩ := s1
  refine wpAny_call (made (s := ⟨hp, g, dr, tk, os⟩) T I1.kIn I1.nolimit (I1.mod.glob.keeps I1.bk) (hb.keeps I1.bk) ((hbs "super" (by decide)).trans (by decide +kernel)) (by have := hr.dp; omega) fun h' tk' a d t1 k ga gd hda ho hn => ?_)
  have na : H1 a = none := I1.hok.fresh ga
  have nd : H1 d = none := I1.hok.fresh gd
  have none_at : ∀ b, hp.objs.size ≤ b → hp.get? b = none := fun b hb => by
    cases z : hp.get? b with
    | none => rfl
    | some o => exact absurd (Nat.lt_of_lt_of_le (Heap.lt_size z) hb) (Nat.lt_irrefl _)
  have J := laid2 (t' := tk') (oa := exo a C (some d)) (od := exd d [(f, v)]) I1 k na nd hda (none_at a ga) (none_at d gd) (exo_ok ho)
    (exd_ok hn (fun y => by
      by_cases hy : y = f
      · rw [lookup_put, if_pos hy, if_pos hy]
        exact r1
      · rw [lookup_put, if_neg hy, if_neg hy]
        trivial))
  show EP X pins σ Q (.ref a) ⟨h', g, dr, tk', os⟩
  refine ⟨.ref a, _, J, rfl, q1 a _ (.inl ⟨d, upd_same, by rw [upd_ne hda, upd_same]⟩) (fun b o z => ?_) na⟩
  rw [upd_ne (ne_of_none z na), upd_ne (ne_of_none z nd)]
  exact z
/-- C(), an error without fields, as a value -/
theorem pe_err0 (q : PySem.W.excIn X.K C PySem.HandSPX.veTail "ValueError.__new__" = true) (gC : X.mg x = some (.ref C)) (kC : keepIn X.K (.ref C) = true) (hg : Gl X x) (hdb : (x == ("__debug__" : Str)) = false := by decide) :
    PE X (.Call (.Name x p) [] [] pos) (fun σ H1 Q => ∀ a H', ErrAt H' a C [] → (∀ b o, H1 b = some o → H' b = some o) → H1 a = none → Q (.ref a) H') := by
  refine ⟨fun pins s σ H Q I h => ?_⟩
  refine wpAny_Call_Name_kw (ld_glob I hg gC ?_ hdb)
  refine PySem.W.callWith_K0 I.kIn kC ?_
  show wpAny _ _ (call (.ref C) []) _ _ _
  obtain ⟨bm, N, nm, qn, bs, hdct, sn, sub, ab, col, dd, k0, k1, k2, k3, k5, mN, hC, hN, hni, T⟩ := exc_obj I.kIn q
  obtain ⟨hp, g, dr, tk, os⟩ := s
  refine wpAny_call_exc_subT F.excBase_ValueError T hC hN hni (fun h' a hm => ?_) (by show 0 ≤ sizeLine; exact Nat.zero_le _)
  have hn : H a = none := I.hok.gone hm.new
  obtain ⟨t, ht, _, _⟩ := hm.there
  refine ⟨.ref a, upd H a (ExO (.ref C) a), I.laidN (s := ⟨hp, g, dr, tk, os⟩) hm.keeps hm.new hn (L2.exO_ok ht ⟨rfl, rfl⟩ rfl rfl rfl (show 4 < 6 by decide)), rfl, h a _ (.inr ⟨rfl, upd_same⟩) (fun b o z => ?_) hn⟩
  rw [upd_ne (ne_of_none z hn)]
  exact z
/-- what the written part says of an error's class when it is asked about -/
structure IsE (K : Frag) (C : Addr) : Prop where
  cl : (clsIn K C).isSome = true
  ga : findIn K (.ref C) "__getattribute__" = some (some (.builtin "BaseException.__getattribute__"))
  gg : findIn K (.ref C) "__getattr__" = some none
  exC : subIn K (.ref C) (.type "BaseException") = some true
  kls : findIn K (.ref C) "__class__" = some (some (.builtin "object.__class__"))
  get : specialIn K (.builtin "object.__class__") "__get__" = some (some (.builtin "getset_descriptor.__get__"))
  tk : takesIn K (.builtin "object.__class__") = some true
  obj : mroIn K C (.type "object") = some true
theorem errInst {P : Program} {w : World} {H : Hp} {h : Heap} {a C : Addr} {fs : List (Str × V)} (ok : HOk P w H h) (e : ErrAt H a C fs) : ∃ ox od, InstAt h a ox C od := by
  rcases e with ⟨d, h1, h2⟩ | ⟨_, h1⟩
  · obtain ⟨t1, q⟩ := exo_at ok h1
    obtain ⟨mA, ⟨od, es, ep, e1, _⟩, _⟩ := exd_at ok h2
    exact ⟨_, some od, q, rfl, rfl, e1⟩
  · obtain ⟨⟨oe, vs, q, z, hd, _⟩, _, _⟩ := ok a _ h1
    refine ⟨oe, none, q, z.1, ?_, ?_⟩
    · unfold PySem.W.notCls
      rw [hd] <;> rfl
    · rw [z.2]
      trivial
/-- isinstance(e, c), e an error -/
def rIsiE (K : Frag) : List V → Hp → VK → Prop := fun xs H Q => ∃ (a C : Addr) (fs : List (Str × V)) (c : V) (u : Value) (b : Bool), xs = [.ref a, c] ∧ ClsV c u ∧ ErrAt H a C fs ∧ IsE K C ∧ PySem.W.kitOne K (.ref C) u = some b ∧ Q (.bl b) H
theorem call_isiE {X : Cx} : CallR X (.builtin "isinstance") (rIsiE X.K) := by
  intro pins s σ H xs us Q I r h
  obtain ⟨a, C, fs, c, u, b, rfl, k, ea, T, e, q⟩ := h
  obtain ⟨u1, u2, rfl, r1, r2⟩ := vals2 r
  have e2 := k.eq r2
  subst e2
  cases (show u1 = Value.ref a from r1)
  obtain ⟨ox, od, J⟩ := errInst I.hok ea
  exact PySem.W.kia_one (PySem.W.kitx_exc T.cl T.ga T.gg T.exC T.kls T.get T.tk T.obj) I.kIn J e (fun z => nomatch z) fun tk => ⟨.bl b, H, I.tok tk, rfl, q⟩
/-- e.f, e an error with fields -/
def tErrF (K : Frag) (f : Str) (te : TE) : TE := fun σ H Q => te σ H fun x H1 => ∃ (a C : Addr) (fs : List (Str × V)) (v : V), x = .ref a ∧ IsE K C ∧ hasDictIn K C = true ∧ findIn K (.ref C) f = some none ∧ ErrAt H1 a C fs ∧ fs.lookup f = some v ∧ Q v H1
theorem pe_errF {X : Cx} {e : Expr} {te : TE} {f : Str} {pos : Pos} (he : PE X e te) (hb : attributeBase e f X.env (eval e X.env) = eval e X.env := by rfl) : PE X (.Attribute e f pos) (tErrF X.K f te) := by
  refine ⟨fun pins s σ H Q I h => ?_⟩
  refine attr_of hb (thn (he.run pins s σ H _ I h) fun u s1 hh => ?_)
  obtain ⟨x, H1, I1, rx, a, C, fs, v, ex, T, hd, hf, ea, hl, q⟩ := hh
  subst ex
  obtain rfl : u = Value.ref a := rx
  rcases ea with ⟨d, h1, h2⟩ | ⟨h0, _⟩
  · obtain ⟨t1, ho⟩ := exo_at I1.hok h1
    obtain ⟨mA, hns, rel⟩ := exd_at I1.hok h2
    obtain ⟨od, hod, hlk⟩ := lookIn_ns hns
    obtain ⟨w, hw, rw'⟩ := RelO.some_of (v := v) (o := mA f) (by rw [← hl]; exact rel f)
    have J : InstAt s1.heap a { cls := .ref C, dict := some d, data := .fields #[.ref t1, .none, .none, .none, .bool false, .none] } C (some od) := ⟨ho, rfl, rfl, hod⟩
    exact PySem.HandSPX.exc_get I1.kIn J T.ga T.gg T.exC (PySem.W.findObj_own hd hf rfl (by rw [hlk, hw])) (handed_of rw') ⟨v, H1, I1.tok _, rw', q⟩
  · subst h0
    cases hl
end
end EF

set_option maxHeartbeats 4000000
namespace Hn
open PySem PySem.Spec PyProof.Rows L2 EF
open PySem.W (Frag keepIn)
/-- the built-ins' names are not the module's -/
structure Bl (mg : Str → Option Value) : Prop where
  b_len : mg "len" = none
  b_int : mg "int" = none
  b_abs : mg "abs" = none
  b_sum : mg "sum" = none
  b_isinstance : mg "isinstance" = none
  b_all : mg "all" = none
  b_any : mg "any" = none
  b_range : mg "range" = none
  b_enumerate : mg "enumerate" = none
  b_zip : mg "zip" = none
  b_tuple : mg "tuple" = none
  b_list : mg "list" = none
  b_bool : mg "bool" = none
  b_sorted : mg "sorted" = none
  b_set : mg "set" = none
  b_ValueError : mg "ValueError" = none
/-- a def of the text -/
def Dfn (K : Frag) (mg : Str → Option Value) (x : Str) (st : Stmt) (ps : List Str) : Prop := ∃ f fd, Fun K x x st f fd ∧ Binds K fd ps [] ∧ mg x = some (.ref f)
/-- a def that keeps a promise and lets no error out -/
def Kept (P : Program) (w : World) (K : Frag) (mg : Str → Option Value) (base : Heap) (k : Nat) (x : Str) (ps : List Str) (sp : Sp) : Prop :=
  ∃ f fd, mg x = some (.ref f) ∧ keepIn K (.ref f) = true ∧ Binds K fd ps [] ∧ FnOk P w K mg base CX0 k f fd ps sp
section
variable {P : Program} {w : World} {K : Frag} {mg : Str → Option Value} {base : Heap}
theorem Kept.mono {j k : Nat} {x : Str} {ps : List Str} {sp : Sp} (G : Kept P w K mg base j x ps sp) (h : j ≤ k) : Kept P w K mg base k x ps sp := by
  obtain ⟨f, fd, a, b, c, d⟩ := G
  exact ⟨f, fd, a, b, c, d.mono h⟩
theorem Dfn.kept {x : Str} {st : Stmt} {N ps : List Str} {k : Nat} {sp : Sp} (D : Dfn K mg x st ps) (S : FnScope N ps (defScope st)) (len : ∀ vs H Q E, sp vs H Q E → vs.length = ps.length)
    (hbody : ∀ (f : Addr) (cdv : Value) (A : Around) (outer : List Env) (s : Shared) (H : Hp) (vs : List V) (Q : VK) (E : XK), Room k (A.deeper (envOfC x (defScope st) s.heap.objs.size f cdv)) → sp vs H Q E →
      ∃ t, PSs (cxOf CX0 P w K mg base N x (defScope st) f cdv A outer s H E).nox (defBody st) t ∧ t { nx := fun _ H' => Q .non H', rt := Q } (start N vs) H) :
    Kept P w K mg base (k + 1) x ps sp := by
  obtain ⟨f, fd, F, b, g⟩ := D
  exact ⟨f, fd, g, F.kp, b, F.ok S len fun cdv A outer s H vs Q E hr h => hbody f cdv A outer s H vs Q E hr h⟩
end
/-- f(e, ..), f a def that keeps its promise -/
def tK (sp : Sp) (t : TA) : TE := fun σ H Q => t σ H fun vs H1 => sp vs H1 Q E0
section
variable {X : Cx} {k : Nat} {x : Str} {ps : List Str} {sp : Sp} {e : Expr} {es : List Expr} {t : TA} {p pos : Pos}
theorem pe_k (G : Kept X.prog X.w X.K X.mg X.base k x ps sp) (hr : Room k X.A) (hg : Gl X x) (ha : PA X (e :: es) t) (hdb : (x == ("__debug__" : Str)) = false := by decide)
    (he : starEach (e :: es) X.env = (false, eval e X.env) :: starEach es X.env := by rfl) (hpl : (backTo pos (starEach es X.env)).any (·.1) = false := by rfl) : PE X (.Call (.Name x p) (e :: es) [] pos) (tK sp t) := by
  obtain ⟨f, fd, gm, kp, b, F⟩ := G
  have h := pe_call (p := p) (pos := pos) F hr hg gm kp b .nil pass0 ha hdb he hpl
  have e : tCall sp [] E0 t = tK sp t := by
    funext σ H Q
    unfold tCall tK
    simp only [List.append_nil]
  rw [e] at h
  exact h
theorem pe_k0 (G : Kept X.prog X.w X.K X.mg X.base k x ps sp) (hr : Room k X.A) (hg : Gl X x) (hdb : (x == ("__debug__" : Str)) = false := by decide) : PE X (.Call (.Name x p) [] [] pos) (tK sp tNil) := by
  obtain ⟨f, fd, gm, kp, b, F⟩ := G
  have h := pe_call0 (p := p) (pos := pos) F hr hg gm kp b .nil pass0 hdb
  have e : tCall sp [] E0 tNil = tK sp tNil := by
    funext σ H Q
    unfold tCall tK
    simp only [List.append_nil]
  rw [e] at h
  exact h
end
/-! ### the drawing bag -/
/-- at b the bag, at g its list of great numbers -/
def BagAt (H : Hp) (b g : Addr) : Prop := b ≠ g ∧ ∃ (s c : Int) (gs : List Int) (al : V), H b = some (.lst [.int s, .int c, .ref g, al]) ∧ H g = some (.lst (gs.map V.int)) ∧ gs.length ≤ 63 ∧ (al = .non ∨ ∃ i, al = .int i)
/-- all that stood stands, but the bag's two lists -/
def But (b g : Addr) (H H' : Hp) : Prop := ∀ a o, a ≠ b → a ≠ g → H a = some o → H' a = some o
theorem But.refl {b g : Addr} {H : Hp} : But b g H H := fun _ _ _ _ e => e
theorem But.trans {b g : Addr} {H H1 H2 : Hp} (x : But b g H H1) (y : But b g H1 H2) : But b g H H2 := fun a o h1 h2 e => y a o h1 h2 (x a o h1 h2 e)
theorem But.of {b g : Addr} {H H' : Hp} (x : Same H H') : But b g H H' := fun a o _ _ e => x a o e
theorem BagAt.same {H H' : Hp} {b g : Addr} (h : BagAt H b g) (e : Same H H') : BagAt H' b g := by
  obtain ⟨n, s, c, gs, al, h1, h2, r⟩ := h
  exact ⟨n, s, c, gs, al, e _ _ h1, e _ _ h2, r⟩
/-- an object of another kind, or a new one, is none of the bag's lists -/
theorem BagAt.ne {H : Hp} {b g a : Addr} (h : BagAt H b g) (n : H a = none) : a ≠ b ∧ a ≠ g := by
  obtain ⟨_, s, c, gs, al, h1, h2, _⟩ := h
  constructor
  · intro z
    rw [z, h1] at n
    cases n
  · intro z
    rw [z, h2] at n
    cases n
def spBag (K : Frag) : Sp := fun vs H Q _ => ∃ (a : Addr) (ns : List Int), vs = [.ref a] ∧ SqL K H a (ns.map V.int) ∧ ns.length ≤ 63 ∧ ∀ b g H', Same H H' → H b = none → H g = none → BagAt H' b g → Q (.ref b) H'
def spPick : Sp := fun vs H Q _ => ∃ (b g : Addr) (m : Int), vs = [.ref b, .int m] ∧ BagAt H b g ∧ 0 < m ∧ m < 1073741824 ∧ ∀ r H', But b g H H' → BagAt H' b g → 0 ≤ r → r < m → Q (.int r) H'
def spSome (K : Frag) : Sp := fun vs H Q _ => ∃ (b g l : Addr) (xs : List V), vs = [.ref b, .ref l] ∧ BagAt H b g ∧ l ≠ b ∧ l ≠ g ∧ (SqL K H l xs ∨ SqT K H l xs) ∧ 0 < xs.length ∧ xs.length ≤ 1000 ∧ ∀ x H', But b g H H' → BagAt H' b g → x ∈ xs → Q x H'
/-! ### data of a bounded depth; its lists stand where N lets them -/
inductive Good (N : Addr → Prop) (H : Hp) : Nat → V → Prop
  | non (n : Nat) : Good N H n .non
  | bl (n : Nat) (b : Bool) : Good N H n (.bl b)
  | int (n : Nat) (i : Int) : Good N H n (.int i)
  | str (n : Nat) (x : Str) : Good N H n (.str x)
  | dic (n : Nat) {a : Addr} {kvs : List (Key × V)} (e : H a = some (.dK kvs)) (nd : (kvs.map (·.1)).Nodup) (fl : ∀ p ∈ kvs, flatB p.2 = true) : Good N H n (.ref a)
  | tup {n : Nat} {a : Addr} {xs : List V} (e : H a = some (.tup xs)) (h : ∀ x ∈ xs, Good N H n x) (l : xs.length ≤ 100) : Good N H (n + 1) (.ref a)
  | lst {n : Nat} {a : Addr} {xs : List V} (e : H a = some (.lst xs)) (h : ∀ x ∈ xs, Good N H n x) (l : xs.length ≤ 100) (na : N a) : Good N H (n + 1) (.ref a)
/-- it stays where what it stands on stays -/
theorem Good.keep {N M : Addr → Prop} {H H' : Hp} (hd : ∀ a kvs, H a = some (.dK kvs) → H' a = some (.dK kvs)) (ht : ∀ a xs, H a = some (.tup xs) → H' a = some (.tup xs)) (hl : ∀ a xs, N a → H a = some (.lst xs) → M a ∧ H' a = some (.lst xs)) :
    ∀ {n : Nat} {x : V}, Good N H n x → Good M H' n x := by
  intro n x g
  induction g with
  | non n => exact .non n
  | bl n b => exact .bl n b
  | int n i => exact .int n i
  | str n x => exact .str n x
  | dic n e nd fl => exact .dic n (hd _ _ e) nd fl
  | tup e h l ih => exact .tup (ht _ _ e) ih l
  | lst e h l na ih => exact .lst (hl _ _ na e).2 ih l (hl _ _ na e).1
theorem Good.same {N : Addr → Prop} {H H' : Hp} (s : Same H H') {n : Nat} {x : V} (g : Good N H n x) : Good N H' n x := g.keep (fun _ _ e => s _ _ e) (fun _ _ e => s _ _ e) fun _ _ na e => ⟨na, s _ _ e⟩
theorem Good.more {N : Addr → Prop} {H : Hp} : ∀ {n m : Nat} {x : V}, Good N H n x → n ≤ m → Good N H m x := by
  intro n m x g
  induction g generalizing m with
  | non n => exact fun _ => .non m
  | bl n b => exact fun _ => .bl m b
  | int n i => exact fun _ => .int m i
  | str n x => exact fun _ => .str m x
  | dic n e nd fl => exact fun _ => .dic m e nd fl
  | tup e h l ih =>
    intro q
    obtain ⟨k, rfl⟩ : ∃ k, m = k + 1 := ⟨m - 1, by omega⟩
    exact .tup e (fun x hx => ih x hx (by omega)) l
  | lst e h l na ih =>
    intro q
    obtain ⟨k, rfl⟩ : ∃ k, m = k + 1 := ⟨m - 1, by omega⟩
    exact .lst e (fun x hx => ih x hx (by omega)) l na
/-- the same datum twice is told to be the same; less than n deep -/
def spIs (n : Nat) : Sp := fun vs H Q _ => ∃ (N : Addr → Prop) (x : V) (m : Nat), vs = [x, x] ∧ m < n ∧ Good N H m x ∧ ∀ H', Same H H' → Q (.bl true) H'
def spDeep : Sp := fun vs H Q _ => vs = [] ∧ ∀ x H', Same H H' → Good (fun a => H a = none) H' 23 x → Q x H'
theorem kept_zero {P : Program} {w : World} {K : Frag} {mg : Str → Option Value} {base : Heap} {x : Str} {st : Stmt} {ps : List Str} {sp : Sp} (D : Dfn K mg x st ps) (no : ∀ vs H Q E, ¬ sp vs H Q E) : Kept P w K mg base 0 x ps sp := by
  obtain ⟨f, fd, F, b, g⟩ := D
  exact ⟨f, fd, g, F.kp, b, ⟨fun vs H Q E h => absurd h (no vs H Q E), fun A outer s H args us vs Q E _ _ _ _ h => absurd h (no vs H Q E)⟩⟩
theorem kitTL {K : Frag} {T : String} {b1 b2 : Bool} (h1 : kitB T "tuple" = some b1) (h2 : kitB T "list" = some b2) : PySem.W.kitAny K (.type T) [.type "tuple", .type "list"] = some (b1 || b2) := by
  refine kitAny_cons (kit_ty h1) (fun e => ?_) (fun e => by rw [e]; rfl)
  rw [e]
  refine kitAny_cons (kit_ty h2) (fun e2 => ?_) (fun e2 => by rw [e2]; rfl)
  rw [e2]
  exact kitAny_nil
theorem twoTys : Paired ClsV [V.ty "tuple", V.ty "list"] [Value.type "tuple", Value.type "list"] := .cons (.ty _) (.cons (.ty _) .nil)
theorem lc_zipL {K : Frag} {a b : Addr} {xs ys : List V} {g : TG} {tt : TT} {te : TE} {vs : List Nat} {σ : L2.St} {H1 : Hp} {D : Addr} {Qd : Hp → Prop} (hl : xs.length = ys.length) (Pv : Nat → Hp → Prop) (h0 : Pv 0 (upd H1 D (.lst [])))
    (hq : ∀ i H, Pv i H → SqL K H a xs ∧ SqL K H b ys)
    (hs : ∀ i x y T H, xs[i]? = some x → ys[i]? = some y → Pv i H → H T = none → g (.ref T) (wipe σ vs) (upd H T (.tup [x, y])) fun σ2 H2 => wipe σ2 vs = wipe σ vs ∧ tt σ2 H2 fun c H3 =>
      if c = true then te σ2 H3 fun z H4 => ∃ acc, H4 D = some (.lst acc) ∧ acc.length < sizeLine ∧ Pv (i + 1) (upd H4 D (.lst (acc ++ [z]))) else Pv (i + 1) H3) (hd : ∀ H, Pv xs.length H → Qd H) :
    ∃ W : Nat → Nat → Hp → Prop, (∃ m, W 0 m (upd H1 D (.lst []))) ∧ ∀ i m H, W i m H →
      ((Itz K a b).stop i H ∧ Qd H) ∨ ((Itz K a b).go i H ∧ ∃ Nx : Hp → Prop, (∀ H', Nx H' → ∃ m', m' < m ∧ W (i + 1) m' H') ∧ ∀ x H', (Itz K a b).yld i H x H' → g x (wipe σ vs) H' fun σ2 H2 => wipe σ2 vs = wipe σ vs ∧ tt σ2 H2 fun c H3 =>
        if c = true then te σ2 H3 fun y H4 => ∃ acc, H4 D = some (.lst acc) ∧ acc.length < sizeLine ∧ Nx (upd H4 D (.lst (acc ++ [y]))) else Nx H3) := by
  refine ⟨fun i m H => m = xs.length - i ∧ i ≤ xs.length ∧ Pv i H, ⟨xs.length, by simp, Nat.zero_le _, h0⟩, ?_⟩
  rintro i m H ⟨rfl, hi, p⟩
  obtain ⟨q1, q2⟩ := hq i H p
  by_cases h : i < xs.length
  · have e1 : xs[i]? = some xs[i] := List.getElem?_eq_getElem h
    have e2 : ys[i]? = some (ys[i]'(hl ▸ h)) := List.getElem?_eq_getElem _
    refine .inr ⟨⟨xs, ys, _, _, q1, q2, e1, e2⟩, Pv (i + 1), fun H' z => ⟨xs.length - (i + 1), by omega, rfl, h, z⟩, fun x H' hy => ?_⟩
    obtain ⟨T, x1, x2, rfl, nT, rfl, f1, f2⟩ := hy
    exact hs i x1 x2 T H (f1 _ q1) (f2 _ q2) p nT
  · have e : i = xs.length := by omega
    subst e
    exact .inl ⟨⟨xs, ys, q1, q2, .inl (Nat.le_refl _)⟩, hd H p⟩
theorem lc_zipT {K : Frag} {a b : Addr} {xs ys : List V} {g : TG} {tt : TT} {te : TE} {vs : List Nat} {σ : L2.St} {H1 : Hp} {D : Addr} {Qd : Hp → Prop} (hl : xs.length = ys.length) (Pv : Nat → Hp → Prop) (h0 : Pv 0 (upd H1 D (.lst [])))
    (hq : ∀ i H, Pv i H → SqT K H a xs ∧ SqT K H b ys)
    (hs : ∀ i x y T H, xs[i]? = some x → ys[i]? = some y → Pv i H → H T = none → g (.ref T) (wipe σ vs) (upd H T (.tup [x, y])) fun σ2 H2 => wipe σ2 vs = wipe σ vs ∧ tt σ2 H2 fun c H3 =>
      if c = true then te σ2 H3 fun z H4 => ∃ acc, H4 D = some (.lst acc) ∧ acc.length < sizeLine ∧ Pv (i + 1) (upd H4 D (.lst (acc ++ [z]))) else Pv (i + 1) H3) (hd : ∀ H, Pv xs.length H → Qd H) :
    ∃ W : Nat → Nat → Hp → Prop, (∃ m, W 0 m (upd H1 D (.lst []))) ∧ ∀ i m H, W i m H →
      ((RZ.ItzT K a b).stop i H ∧ Qd H) ∨ ((RZ.ItzT K a b).go i H ∧ ∃ Nx : Hp → Prop, (∀ H', Nx H' → ∃ m', m' < m ∧ W (i + 1) m' H') ∧ ∀ x H', (RZ.ItzT K a b).yld i H x H' → g x (wipe σ vs) H' fun σ2 H2 => wipe σ2 vs = wipe σ vs ∧ tt σ2 H2 fun c H3 =>
        if c = true then te σ2 H3 fun y H4 => ∃ acc, H4 D = some (.lst acc) ∧ acc.length < sizeLine ∧ Nx (upd H4 D (.lst (acc ++ [y]))) else Nx H3) := by
  refine ⟨fun i m H => m = xs.length - i ∧ i ≤ xs.length ∧ Pv i H, ⟨xs.length, by simp, Nat.zero_le _, h0⟩, ?_⟩
  rintro i m H ⟨rfl, hi, p⟩
  obtain ⟨q1, q2⟩ := hq i H p
  by_cases h : i < xs.length
  · have e1 : xs[i]? = some xs[i] := List.getElem?_eq_getElem h
    have e2 : ys[i]? = some (ys[i]'(hl ▸ h)) := List.getElem?_eq_getElem _
    refine .inr ⟨⟨xs, ys, _, _, q1, q2, e1, e2⟩, Pv (i + 1), fun H' z => ⟨xs.length - (i + 1), by omega, rfl, h, z⟩, fun x H' hy => ?_⟩
    obtain ⟨T, x1, x2, rfl, nT, rfl, f1, f2⟩ := hy
    exact hs i x1 x2 T H (f1 _ q1) (f2 _ q2) p nT
  · have e : i = xs.length := by omega
    subst e
    exact .inl ⟨⟨xs, ys, q1, q2, .inl (Nat.le_refl _)⟩, hd H p⟩
theorem Good.kind {K : Frag} {N : Addr → Prop} {H : Hp} {m : Nat} {x : V} (g : Good N H m x) :
    (∃ T bb, TyX K H x (.type T) ∧ kitB T "tuple" = some false ∧ kitB T "list" = some false ∧ kitB T "bool" = some bb ∧
      (scal x x = true ∨ ∃ a kvs, x = .ref a ∧ H a = some (.dK kvs) ∧ (kvs.map (·.1)).Nodup ∧ ∀ p ∈ kvs, flatB p.2 = true)) ∨
    (∃ a xs n, x = .ref a ∧ m = n + 1 ∧ (∀ y ∈ xs, Good N H n y) ∧ xs.length ≤ 100 ∧ (H a = some (.tup xs) ∨ H a = some (.lst xs))) := by
  cases g with
  | non n => exact .inl ⟨_, false, .base .non, by decide +kernel, by decide +kernel, by decide +kernel, .inl rfl⟩
  | bl n b => exact .inl ⟨_, true, .base (.bl b), by decide +kernel, by decide +kernel, by decide +kernel, .inl rfl⟩
  | int n i => exact .inl ⟨_, false, .base (.int i), by decide +kernel, by decide +kernel, by decide +kernel, .inl rfl⟩
  | str n s => exact .inl ⟨_, false, .base (.str s), by decide +kernel, by decide +kernel, by decide +kernel, .inl rfl⟩
  | dic n e nd fl => exact .inl ⟨_, false, .base (.dK e), by decide +kernel, by decide +kernel, by decide +kernel, .inr ⟨_, _, rfl, e, nd, fl⟩⟩
  | tup e h l => exact .inr ⟨_, _, _, rfl, rfl, h, l, .inl e⟩
  | lst e h l na => exact .inr ⟨_, _, _, rfl, rfl, h, l, .inr e⟩
theorem _root_.L2.Same.seqT {K : Frag} {H H' : Hp} {a : Addr} {xs : List V} (e : Same H H') (h : SqT K H a xs) : SqT K H' a xs := by
  rcases h with (h | ⟨o, h⟩) | h
  · exact .inl (.inl (e _ _ h))
  · exact .inl (.inr ⟨o, e _ _ h⟩)
  · exact .inr h
/-- an error class without a field; one with the field f -/
structure Er0 (K : Frag) (mg : Str → Option Value) (x : Str) (C : Addr) : Prop where
  g : mg x = some (.ref C)
  e : PySem.W.excIn K C PySem.HandSPX.veTail "ValueError.__new__" = true
  k : keepIn K (.ref C) = true
structure Er1 (P : Program) (K : Frag) (mg : Str → Option Value) (x f : Str) (C : Addr) : Prop where
  g : mg x = some (.ref C)
  e : ErrC P K mg C f
theorem BagAt.off {H : Hp} {b g a : Addr} {o : HO} (h : BagAt H b g) (e : H a = some o) (n : ∀ xs, o ≠ .lst xs) : a ≠ b ∧ a ≠ g := by
  obtain ⟨_, s, c, gs, al, h1, h2, _⟩ := h
  constructor
  · intro z
    rw [z, h1] at e
    exact n _ (Option.some.inj e).symm
  · intro z
    rw [z, h2] at e
    exact n _ (Option.some.inj e).symm
theorem But.keep {b g a : Addr} {H H' : Hp} {o : HO} (t : But b g H H') (h : BagAt H b g) (e : H a = some o) (n : ∀ xs, o ≠ .lst xs) : H' a = some o := t a o (h.off e n).1 (h.off e n).2 e
theorem ErrAt.but {b g a C : Addr} {H H' : Hp} {fs : List (Str × V)} (h : ErrAt H a C fs) (hb : BagAt H b g) (t : But b g H H') : ErrAt H' a C fs := by
  rcases h with ⟨d, h1, h2⟩ | ⟨h0, h1⟩
  · exact .inl ⟨d, t.keep hb h1 (fun xs z => nomatch (z : HO.ext _ = HO.lst xs)), t.keep hb h2 (fun xs z => nomatch (z : HO.ext _ = HO.lst xs))⟩
  · exact .inr ⟨h0, t.keep hb h1 (fun xs z => nomatch (z : HO.ext _ = HO.lst xs))⟩
theorem Good.but {N : Addr → Prop} {b g : Addr} {H H' : Hp} {n : Nat} {x : V} (h : Good N H n x) (hb : BagAt H b g) (t : But b g H H') (hN : ∀ a, N a → a ≠ b ∧ a ≠ g) : Good N H' n x :=
  h.keep (fun _ _ e => t.keep hb e (fun _ z => nomatch z)) (fun _ _ e => t.keep hb e (fun _ z => nomatch z)) fun a _ na e => ⟨na, t _ _ (hN a na).1 (hN a na).2 e⟩
theorem for_enumL {K : Frag} {a : Addr} {xs : List V} {g : TG} {tb : TS} {D : Ends} {σ : L2.St} {H : Hp} (Pv : Nat → L2.St → Hp → Prop) (h0 : Pv 0 σ H) (hq : ∀ i σ H, Pv i σ H → SqL K H a xs)
    (hs : ∀ i x T σ H, xs[i]? = some x → Pv i σ H → H T = none → g (.ref T) σ (upd H T (.tup [.int (i : Nat), x])) fun σ2 H2 => tb { D with nx := Pv (i + 1), ct := Pv (i + 1), bk := D.nx } σ2 H2) (hd : ∀ σ H, Pv xs.length σ H → D.nx σ H) :
    ∃ W : Nat → Nat → L2.St → Hp → Prop, (∃ m, W 0 m σ H) ∧ ∀ i m σ H, W i m σ H →
      ((Ite K a).stop i H ∧ D.nx σ H) ∨ ((Ite K a).go i H ∧ ∃ N : L2.St → Hp → Prop, (∀ σ' H', N σ' H' → ∃ m', m' < m ∧ W (i + 1) m' σ' H') ∧ ∀ x H', (Ite K a).yld i H x H' → g x σ H' fun σ2 H2 => tb { D with nx := N, ct := N, bk := D.nx } σ2 H2) := by
  refine ⟨fun i m σ H => m = xs.length - i ∧ i ≤ xs.length ∧ Pv i σ H, ⟨xs.length, by simp, Nat.zero_le _, h0⟩, ?_⟩
  rintro i m σ H ⟨rfl, hi, p⟩
  have q1 := hq i σ H p
  by_cases h : i < xs.length
  · have e1 : xs[i]? = some xs[i] := List.getElem?_eq_getElem h
    refine .inr ⟨⟨xs, _, q1, e1⟩, Pv (i + 1), fun σ' H' z => ⟨xs.length - (i + 1), by omega, rfl, h, z⟩, fun x H' hy => ?_⟩
    obtain ⟨T, x1, rfl, nT, rfl, f1⟩ := hy
    exact hs i x1 T σ H (f1 _ q1) p nT
  · have e : i = xs.length := by omega
    subst e
    exact .inl ⟨⟨xs, q1, Nat.le_refl _⟩, hd σ H p⟩
theorem at0 {α : Type} {x : α} {xs : List α} : atI (x :: xs) 0 = some x := atI_nat (j := 0) rfl
theorem ix0 {α : Type} {x : α} {xs : List α} : ixN (x :: xs).length 0 = some 0 := by
  unfold ixN
  rw [if_pos (Int.le_refl 0), if_pos (by rw [List.length_cons]; omega)]
  rfl
theorem sx0 {α : Type} {x : α} {xs : List α} : seqIndex? 0 (x :: xs).length = some 0 := (ixN_seq ix0).1
theorem cmulL {a b m : Int} (h : 0 < m) (h2 : m ≤ 4294967296) : CMul (a % m) b := by
  have h3 := Int.emod_nonneg a (show m ≠ 0 by omega)
  have h4 := Int.emod_lt_of_pos a h
  exact .inl ⟨by omega, by omega⟩
theorem cut63 {xs : List V} (h : xs.length ≤ 63) : cutV xs none (some 63) = xs := by
  have e : HT.sIx xs.length xs.length (some 63) = min 63 xs.length := HT.sIx_nat xs.length xs.length 63
  unfold cutV
  rw [e, HT.sIx_none, List.drop_zero]
  exact List.take_of_length_le (by omega)
theorem same_new {H : Hp} {p : Addr} {o : HO} (h : H p = none) : Same H (upd H p o) := fun b x e => by
  rw [upd_ne (ne_of_none e h)]
  exact e
theorem same_mut {H H' : Hp} {p : Addr} {o : HO} (e : Same H H') (h : H p = none) : Same H (upd H' p o) := fun b x q => by
  rw [upd_ne (ne_of_none q h)]
  exact e b x q
theorem len_lt {n : Nat} (h : n ≤ 1000) : n < sizeLine := Nat.lt_of_le_of_lt h (by rw [sizeLine_eq]; decide)
theorem len_le {n : Nat} (h : n ≤ 1000) : n ≤ sizeLine := Nat.le_of_lt (len_lt h)
theorem int_at {ns : List Int} {i : Nat} {x : V} (h : (ns.map V.int)[i]? = some x) : ∃ n, x = .int n ∧ i < ns.length := by
  rw [List.getElem?_map] at h
  cases e : ns[i]? with
  | none =>
    rw [e] at h
    cases h
  | some n =>
    rw [e] at h
    have hi : i < ns.length := by
      cases Nat.lt_or_ge i ns.length with
      | inl z => exact z
      | inr z =>
        rw [List.getElem?_eq_none_iff.mpr z] at e
        cases e
    exact ⟨n, (Option.some.inj h).symm, hi⟩
end Hn

set_option maxHeartbeats 4000000
namespace Lw
open PySem PySem.Spec PyProof.Rows L2 EF Hn
open PySem.W (Frag keepIn)
def top (i : Nat) : Stmt := PySem.Challenge.pw_stillfound_k00_errors_and_their_fields.main.body.getD i (.Pass ⟨0, 0, 0, 0⟩)
abbrev s_law_bag : Stmt := top 23
abbrev N_law_bag : List Str := ["script", "seed", "cell", "great", "always"]
theorem sc_law_bag : FnScope N_law_bag ["script"] (defScope s_law_bag) := ⟨rfl, rfl, rfl, by decide +kernel, rfl, by decide +kernel, by decide +kernel⟩
abbrev s_law_pick : Stmt := top 24
abbrev N_law_pick : List Str := ["bag", "many", "great", "digit", "number"]
theorem sc_law_pick : FnScope N_law_pick ["bag", "many"] (defScope s_law_pick) := ⟨rfl, rfl, rfl, by decide +kernel, rfl, by decide +kernel, by decide +kernel⟩
abbrev s_law_some : Stmt := top 25
abbrev N_law_some : List Str := ["bag", "things"]
theorem sc_law_some : FnScope N_law_some ["bag", "things"] (defScope s_law_some) := ⟨rfl, rfl, rfl, by decide +kernel, rfl, by decide +kernel, by decide +kernel⟩
section
variable {P : Program} {w : World} {K : Frag} {mg : Str → Option Value} {base : Heap}
theorem k_pick (B : Bl mg) (D : Dfn K mg "_law_pick" s_law_pick ["bag", "many"]) : Kept P w K mg base 1 "_law_pick" ["bag", "many"] spPick := by
  refine D.kept (N := N_law_pick) sc_law_pick (fun vs H Q E h => ?_) (fun f cdv A outer s H vs Q E hr h => ?_)
  · obtain ⟨b, g, m, rfl, _⟩ := h
    rfl
  obtain ⟨b, g, m, rfl, ⟨nbg, z, c, gs, al, hb, hg, hl, ha⟩, m0, m1, q⟩ := h
  refine ⟨_, (pss_cons (ps_if (pt_cmpR op_notN (pe_ix ix_list (pv 0) pe_int (fun _ _ => rfl)) pe_non (nomark _)) (pss_one (ps_ret (pe_op op_mod (pe_callTy call_int1 (by rfl) B.b_int (by decide +kernel) (pa_cons (pe_ix ix_list (pv 0) pe_int (fun _ _ => rfl)) pa_nil)) (pv 1)))) pss_nil)
      (pss_cons (ps_asg (pe_op op_add (pe_ix ix_list (pv 0) pe_int (fun _ _ => rfl)) pe_int) (pg_sub (pv 0) pe_int set_list))
      (pss_cons (ps_set (i := 2) sc_law_pick.nd rfl (Or.inl rfl) (pe_ix ix_list (pv 0) pe_int (fun _ _ => rfl)))
      (pss_cons (ps_if (pt_cmpR op_gt (pe_callB call_len_seq (by rfl) B.b_len PySem.boot_len (pa_cons (pv 2) pa_nil)) pe_int (nomark _)) (pss_cons (ps_set (i := 3) sc_law_pick.nd rfl (Or.inl rfl) (pe_op op_mod (pe_callTy call_int1 (by rfl) B.b_int (by decide +kernel) (pa_cons (pe_ix ix_list (pv 2) pe_int (fun _ _ => rfl)) pa_nil)) (pv 1)))
      (pss_cons (ps_asg (pe_op op_fdiv (pe_callTy call_int1 (by rfl) B.b_int (by decide +kernel) (pa_cons (pe_ix ix_list (pv 2) pe_int (fun _ _ => rfl)) pa_nil)) (pv 1)) (pg_sub (pv 2) pe_int set_list))
      (pss_cons (ps_if (pt_cmpR op_eq (pe_ix ix_list (pv 2) pe_int (fun _ _ => rfl)) pe_int (nomark _)) (pss_one (ps_expr (pe_bm PySem.F.plainAttrs_list PySem.F.slot_list_pop PySem.F.type_list_pop mt_popAt (pv 2) (pa_cons pe_int pa_nil)))) pss_nil)
      (pss_one (ps_ret (pv 3)))))) pss_nil)
      (pss_cons (ps_set (i := 4) sc_law_pick.nd rfl (Or.inl rfl) (pe_op op_mod (pe_callTy call_int1 (by rfl) B.b_int (by decide +kernel) (pa_cons (pe_op op_mul (pe_op op_add (pe_ix ix_list (pv 0) pe_int (fun _ _ => rfl)) (pe_op op_mul pe_int (pe_ix ix_list (pv 0) pe_int (fun _ _ => rfl)))) pe_int) pa_nil)) pe_int))
      (pss_cons (ps_set (i := 4) sc_law_pick.nd rfl (Or.inl rfl) (pe_op op_mod (pe_callTy call_int1 (by rfl) B.b_int (by decide +kernel) (pa_cons (pe_op op_mul (pv 4) (pe_op op_add (pe_op op_fdiv (pv 4) pe_int) pe_int)) pa_nil)) pe_int))
      (pss_cons (ps_set (i := 4) sc_law_pick.nd rfl (Or.inl rfl) (pe_op op_mod (pe_callTy call_int1 (by rfl) B.b_int (by decide +kernel) (pa_cons (pe_op op_mul (pv 4) (pe_op op_add (pe_op op_fdiv (pv 4) pe_int) pe_int)) pa_nil)) pe_int))
      (pss_one (ps_ret (pe_op op_mod (pe_callTy call_int1 (by rfl) B.b_int (by decide +kernel) (pa_cons (pe_op op_fdiv (pv 4) pe_int) pa_nil)) (pv 1))))))))))), ?_⟩
  have nbg' : g ≠ b := fun e => nbg e.symm
  -- if bag[3] is not None
  refine ⟨_, rfl, b, _, 3, al, rfl, rfl, SqL.of hb, rfl, rfl, _, rfl, ite2 (fun e => ?_) (fun e => ?_)⟩
  · obtain ⟨i, rfl⟩ : ∃ i, al = .int i := by
      rcases ha with rfl | ha
      · cases e
      · exact ha
    refine ⟨_, rfl, b, _, 3, .int i, rfl, rfl, SqL.of hb, rfl, .inl ⟨i, rfl, _, rfl, i, m, rfl, rfl, m0, ?_⟩⟩
    exact q _ H .refl ⟨nbg, z, c, gs, _, hb, hg, hl, .inr ⟨i, rfl⟩⟩ (Int.emod_nonneg _ (by omega)) (Int.emod_lt_of_pos _ m0)
  -- bag[1] = bag[1] + 1
  refine ⟨_, rfl, b, _, 1, .int c, rfl, rfl, SqL.of hb, rfl, c, 1, rfl, rfl, _, rfl, b, _, 1, 1, rfl, rfl, hb, rfl, ?_⟩
  have hb1 : upd H b (.lst [.int z, .int (c + 1), .ref g, al]) b = some (.lst [.int z, .int (c + 1), .ref g, al]) := upd_same
  have hg1 : upd H b (.lst [.int z, .int (c + 1), .ref g, al]) g = some (.lst (gs.map V.int)) := by rw [upd_ne nbg']; exact hg
  have bt1 : But b g H (upd H b (.lst [.int z, .int (c + 1), .ref g, al])) := fun a o n1 n2 e => by rw [upd_ne n1]; exact e
  show tSeq _ _ _ _ (upd H b (.lst [.int z, .int (c + 1), .ref g, al]))
  generalize upd H b (.lst [.int z, .int (c + 1), .ref g, al]) = H1 at hb1 hg1 bt1 ⊢
  -- great = bag[2]
  refine ⟨_, rfl, b, _, 2, .ref g, rfl, rfl, SqL.of hb1, rfl, ?_⟩
  -- if len(great) > 0
  refine ⟨_, rfl, g, _, rfl, .inl (SqL.of hg1), _, 0, rfl, rfl, _, rfl, ite2 (fun e1 => ?_) (fun e1 => ?_)⟩
  · obtain ⟨x, r, rfl⟩ : ∃ x r, gs = x :: r := by
      cases gs with
      | nil => exact absurd (of_decide_eq_true e1) (by decide)
      | cons x r => exact ⟨x, r, rfl⟩
    have hg1 : H1 g = some (.lst (.int x :: r.map V.int)) := hg1
    -- digit = int(great[0]) % many
    refine ⟨_, rfl, g, _, 0, .int x, rfl, rfl, SqL.of hg1, at0, .inl ⟨x, rfl, _, rfl, x, m, rfl, rfl, m0, ?_⟩⟩
    -- great[0] = int(great[0]) // many
    refine ⟨_, rfl, g, _, 0, .int x, rfl, rfl, SqL.of hg1, at0, .inl ⟨x, rfl, _, rfl, x, m, rfl, rfl, ⟨m0, m1⟩, _, rfl, g, _, 0, 0, rfl, rfl, hg1, ix0, ?_⟩⟩
    have hb2 : upd H1 g (.lst (.int (x / m) :: r.map V.int)) b = some (.lst [.int z, .int (c + 1), .ref g, al]) := by rw [upd_ne nbg]; exact hb1
    have hg2 : upd H1 g (.lst (.int (x / m) :: r.map V.int)) g = some (.lst (.int (x / m) :: r.map V.int)) := upd_same
    have bt2 : But b g H (upd H1 g (.lst (.int (x / m) :: r.map V.int))) := bt1.trans fun a o n1 n2 e => by rw [upd_ne n2]; exact e
    show tSeq _ _ _ _ (upd H1 g (.lst (.int (x / m) :: r.map V.int)))
    generalize upd H1 g (.lst (.int (x / m) :: r.map V.int)) = H2 at hb2 hg2 bt2 ⊢
    have lo : 0 ≤ x % m := Int.emod_nonneg _ (by omega)
    have hi : x % m < m := Int.emod_lt_of_pos _ m0
    rw [List.length_cons] at hl
    -- if great[0] == 0: great.pop(0)
    refine ⟨_, rfl, g, _, 0, .int (x / m), rfl, rfl, SqL.of hg2, at0, rfl, _, rfl, ite2 (fun e2 => ?_) (fun e2 => ?_)⟩
    · refine ⟨_, rfl, .inl ⟨rfl, _, SqL.of hg2⟩, g, _, 0, 0, .int (x / m), rfl, rfl, hg2, by decide, by decide, sx0, rfl, ?_⟩
      refine ⟨_, rfl, q _ _ (bt2.trans fun a o n1 n2 e => by rw [upd_ne n2]; exact e) ⟨nbg, z, c + 1, r, al, by rw [upd_ne nbg]; exact hb2, upd_same, by omega, ha⟩ lo hi⟩
    · exact ⟨_, rfl, q _ _ bt2 ⟨nbg, z, c + 1, (x / m) :: r, al, hb2, hg2, by rw [List.length_cons]; omega, ha⟩ lo hi⟩
  · -- the three numbers
    refine ⟨_, rfl, b, _, 0, .int z, rfl, rfl, SqL.of hb1, rfl, _, rfl, b, _, 1, .int (c + 1), rfl, rfl, SqL.of hb1, rfl, 7919, c + 1, rfl, rfl, .inl ⟨by decide, by decide⟩, z, _, rfl, rfl, _, _, rfl, rfl, .inr ⟨by decide, by decide⟩, .inl ⟨_, rfl, _, 2147483647, rfl, rfl, (show (0 : Int) < 2147483647 by decide), ?_⟩⟩
    refine ⟨_, rfl, _, rfl, _, 1009, rfl, rfl, ⟨by decide, by decide⟩, _, 69621, rfl, rfl, _, _, rfl, rfl, cmulL (by decide) (by decide), .inl ⟨_, rfl, _, 2147483647, rfl, rfl, (show (0 : Int) < 2147483647 by decide), ?_⟩⟩
    refine ⟨_, rfl, _, rfl, _, 2003, rfl, rfl, ⟨by decide, by decide⟩, _, 40692, rfl, rfl, _, _, rfl, rfl, cmulL (by decide) (by decide), .inl ⟨_, rfl, _, 2147483399, rfl, rfl, (show (0 : Int) < 2147483399 by decide), ?_⟩⟩
    refine ⟨_, rfl, _, 16, rfl, rfl, ⟨by decide, by decide⟩, .inl ⟨_, rfl, _, rfl, _, m, rfl, rfl, m0, ?_⟩⟩
    exact q _ _ bt1 ⟨nbg, z, c + 1, gs, al, hb1, hg1, hl, ha⟩ (Int.emod_nonneg _ (by omega)) (Int.emod_lt_of_pos _ m0)
theorem k_some (B : Bl mg) (D : Dfn K mg "_law_some" s_law_some ["bag", "things"]) (G_law_pick : Kept P w K mg base 1 "_law_pick" ["bag", "many"] spPick) : Kept P w K mg base 2 "_law_some" ["bag", "things"] (spSome K) := by
  refine D.kept (N := N_law_some) sc_law_some (fun vs H Q E h => ?_) (fun f cdv A outer s H vs Q E hr h => ?_)
  · obtain ⟨b, g, l, xs, rfl, _⟩ := h
    rfl
  obtain ⟨b, g, l, xs, rfl, hb, n1, n2, hl, h0, h1, q⟩ := h
  have fin : ∀ (r : Int) (H' : Hp), But b g H H' → BagAt H' b g → 0 ≤ r → r < (xs.length : Int) → ∃ x, atI xs r = some x ∧ Q x H' := fun r H' bt hb' r0 r1 => by
    obtain ⟨k, rfl⟩ : ∃ k : Nat, r = (k : Int) := ⟨r.toNat, by omega⟩
    have hk : k < xs.length := by omega
    refine ⟨xs[k], ?_, q _ H' bt hb' (List.getElem_mem hk)⟩
    exact atI_nat (List.getElem?_eq_getElem hk)
  have keepL : ∀ H', But b g H H' → SqL K H l xs → SqL K H' l xs := fun H' bt h => by
    rcases h with (h | ⟨o, h⟩) | h
    · exact .inl (.inl (bt _ _ n1 n2 h))
    · exact .inl (.inr ⟨o, bt _ _ n1 n2 h⟩)
    · exact .inr h
  have keepT : ∀ H', But b g H H' → SqT K H l xs → SqT K H' l xs := fun H' bt h => by
    rcases h with (h | ⟨o, h⟩) | h
    · exact .inl (.inl (bt _ _ n1 n2 h))
    · exact .inl (.inr ⟨o, bt _ _ n1 n2 h⟩)
    · exact .inr h
  rcases hl with hl | hl
  · refine ⟨_, (pss_one (ps_ret (pe_ix ix_list (pv 1) (pe_k G_law_pick (hr.mono (by first | decide | omega)) (by rfl) (pa_cons (pv 0) (pa_cons (pe_callB call_len_seq (by rfl) B.b_len PySem.boot_len (pa_cons (pv 1) pa_nil)) pa_nil))) (fun _ _ => rfl)))), ?_⟩
    refine ⟨_, rfl, _, rfl, _, rfl, l, xs, rfl, .inl hl, b, g, _, rfl, hb, by omega, by omega, fun r H' bt hb' r0 r1 => ?_⟩
    obtain ⟨x, e, qx⟩ := fin r H' bt hb' r0 r1
    exact ⟨l, xs, r, x, rfl, rfl, keepL H' bt hl, e, qx⟩
  · refine ⟨_, (pss_one (ps_ret (pe_ix ix_tup (pv 1) (pe_k G_law_pick (hr.mono (by first | decide | omega)) (by rfl) (pa_cons (pv 0) (pa_cons (pe_callB call_len_seq (by rfl) B.b_len PySem.boot_len (pa_cons (pv 1) pa_nil)) pa_nil))) (fun _ _ => rfl)))), ?_⟩
    refine ⟨_, rfl, _, rfl, _, rfl, l, xs, rfl, .inr hl, b, g, _, rfl, hb, by omega, by omega, fun r H' bt hb' r0 r1 => ?_⟩
    obtain ⟨x, e, qx⟩ := fin r H' bt hb' r0 r1
    exact ⟨l, xs, r, x, rfl, rfl, keepT H' bt hl, e, qx⟩
theorem k_bag (B : Bl mg) (D : Dfn K mg "_law_bag" s_law_bag ["script"]) : Kept P w K mg base 1 "_law_bag" ["script"] (spBag K) := by
  refine D.kept (N := N_law_bag) sc_law_bag (fun vs H Q E h => ?_) (fun f cdv A outer s H vs Q E hr h => ?_)
  · obtain ⟨a, ns, rfl, _⟩ := h
    rfl
  obtain ⟨a, ns, rfl, hS, h63, q⟩ := h
  refine ⟨_, (pss_cons (ps_set (i := 1) sc_law_bag.nd rfl (Or.inl rfl) (pe_op op_add pe_int (pe_callB call_len_seq (by rfl) B.b_len PySem.boot_len (pa_cons (pv 0) pa_nil))))
      (pss_cons (ps_for PassesOwn.never rfl (pi_list (pe_slice sl_list (pv 0) po_none (po_some pe_int))) (pg_name (i := 2) sc_law_bag.nd rfl (Or.inl rfl)) (pss_one (ps_set (i := 1) sc_law_bag.nd rfl (Or.inl rfl) (pe_op op_mod (pe_callTy call_int1 (by rfl) B.b_int (by decide +kernel) (pa_cons (pe_op op_add (pe_op op_add (pe_op op_mul (pv 1) pe_int) (pe_op op_mod (pe_callTy call_int1 (by rfl) B.b_int (by decide +kernel) (pa_cons (pv 2) pa_nil)) pe_int)) pe_int) pa_nil)) pe_int))))
      (pss_cons (ps_setLc (i := 3) (own := [("cell", 2)]) (g := gName 2) (by rfl) sc_law_bag.nd rfl rfl (sw_true rfl rfl rfl (by decide +kernel)) (pi_list (pe_slice sl_list (pv 0) po_none (po_some pe_int))) (blkOk_by (own := [("cell", 2)]) (N := N_law_bag) (sc := defScope s_law_bag) (by decide +kernel)) (fun _ _ _ _ _ => (pg_name (i := 2) sc_law_bag.nd rfl (Or.inl rfl))) (fun _ _ _ _ _ => (pts_one (pt_cmpR op_ge (pe_callB call_abs (by rfl) B.b_abs (by decide +kernel) (pa_cons (pe_callTy call_int1 (by rfl) B.b_int (by decide +kernel) (pa_cons (pv 2) pa_nil)) pa_nil)) (pe_op op_pow pe_int pe_int) (nomark _)))) (fun _ _ _ _ _ => (pe_callB call_abs (by rfl) B.b_abs (by decide +kernel) (pa_cons (pe_callTy call_int1 (by rfl) B.b_int (by decide +kernel) (pa_cons (pv 2) pa_nil)) pa_nil))))
      (pss_cons (ps_set (i := 4) sc_law_bag.nd rfl (Or.inl rfl) pe_non)
      (pss_cons (ps_if (pw_and (pt_cmpR op_lt (pe_callB call_len_seq (by rfl) B.b_len PySem.boot_len (pa_cons (pv 0) pa_nil)) pe_int (nomark _)) (pw_and1 (pt_cmpR op_eq (pe_callB call_len_seq (by rfl) B.b_len PySem.boot_len (pa_cons (pv 3) pa_nil)) pe_int (nomark _)))).pt (pss_one (ps_set (i := 4) sc_law_bag.nd rfl (Or.inl rfl) (pe_callB call_abs (by rfl) B.b_abs (by decide +kernel) (pa_cons (pe_callB (cr_sum rfl) (by rfl) B.b_sum (by decide +kernel) (pa_cons (pe_lc (own := [("cell", 2)]) (g := gName 2) (by rfl) sc_law_bag.nd (pi_list (pv 0)) (blkOk_by (own := [("cell", 2)]) (N := N_law_bag) (sc := defScope s_law_bag) (by decide +kernel)) (fun _ _ _ _ _ => (pg_name (i := 2) sc_law_bag.nd rfl (Or.inl rfl))) (fun _ _ _ _ _ => pts_nil) (fun _ _ _ _ _ => (pe_callTy call_int1 (by rfl) B.b_int (by decide +kernel) (pa_cons (pv 2) pa_nil)))) pa_nil)) pa_nil)))) pss_nil)
      (pss_one (ps_ret (pe_lst (pa_cons (pv 1) (pa_cons pe_int (pa_cons (pv 3) (pa_cons (pv 4) pa_nil)))))))))))), ?_⟩
  -- seed = 41 + len(script)
  refine ⟨_, rfl, a, _, rfl, .inl hS, 41, _, rfl, rfl, ?_⟩
  have hl : (ns.map V.int).length = ns.length := List.length_map _
  -- for cell in script[:63]
  have cut : cutV (ns.map V.int) none (some 63) = ns.map V.int := cut63 (by rw [hl]; exact h63)
  refine ⟨_, rfl, _, rfl, a, _, rfl, hS, fun p hp => ?_⟩
  rw [cut]
  have s1 : Same H (upd H p (.lst (ns.map V.int))) := same_new hp
  have hp1 : upd H p (.lst (ns.map V.int)) p = some (.lst (ns.map V.int)) := upd_same
  generalize upd H p (.lst (ns.map V.int)) = H1 at s1 hp1 ⊢
  refine ⟨p, rfl, ⟨_, SqL.of hp1⟩, for_list (K := K) (a := p) (xs := ns.map V.int) (fun i σ H' => H' = H1 ∧ ∃ (sd : Int) (y : Option V), σ = [some (.ref a), some (.int sd), y, none, none])
    ⟨rfl, _, none, rfl⟩ (fun i σ H' _ ⟨e, _⟩ => by rw [e]; exact SqL.of hp1) ?_ ?_⟩
  · rintro i x σ H' hi ⟨rfl, sd, y, rfl⟩
    obtain ⟨n, rfl, _⟩ := int_at hi
    refine ⟨_, rfl, _, _, rfl, rfl, .inr ⟨by decide, by decide⟩, _, rfl, .inl ⟨_, rfl, _, _, rfl, rfl, (show (0 : Int) < 1000003 by decide), _, _, rfl, rfl, _, _, rfl, rfl, .inl ⟨_, rfl, _, _, rfl, rfl, (show (0 : Int) < 2147483647 by decide), ?_⟩⟩⟩
    exact ⟨rfl, _, _, rfl⟩
  rintro σ H' ⟨rfl, sd, y, rfl⟩
  -- great = [..]
  refine ⟨_, rfl, _, rfl, a, _, rfl, s1.seq hS, fun p2 hp2 => ?_⟩
  rw [cut]
  have s2 : Same H (upd H' p2 (.lst (ns.map V.int))) := s1.trans (same_new hp2)
  have hq2 : upd H' p2 (.lst (ns.map V.int)) p2 = some (.lst (ns.map V.int)) := upd_same
  generalize upd H' p2 (.lst (ns.map V.int)) = H2 at s2 hq2 ⊢
  refine ⟨p2, rfl, ⟨_, SqL.of hq2⟩, fun D hD => lc_list (K := K) (a := p2) (xs := ns.map V.int) (fun i H' => ∃ acc : List Int, acc.length ≤ i ∧ H' = upd H2 D (.lst (acc.map V.int)))
    ⟨[], Nat.le_refl _, rfl⟩ (fun i H' _ ⟨acc, _, e⟩ => by rw [e]; exact (same_new hD).seq (SqL.of hq2)) ?_ ?_⟩
  · rintro i x H'' hi ⟨acc, hacc, rfl⟩
    obtain ⟨n, rfl, hin⟩ := int_at hi
    refine ⟨rfl, _, rfl, .inl ⟨n, rfl, n, rfl, 10, 18, rfl, rfl, ⟨by decide, by decide, by decide⟩, _, _, rfl, rfl, _, rfl, ite2 (fun e => ?_) (fun e => ?_)⟩⟩
    · refine ⟨_, rfl, .inl ⟨n, rfl, n, rfl, _, upd_same, ?_, acc ++ [if n < 0 then -n else n], ?_, ?_⟩⟩
      · rw [List.length_map]
        exact len_lt (by omega)
      · rw [List.length_append, List.length_singleton]
        omega
      · rw [upd_upd, List.map_append]
        rfl
    · exact ⟨acc, by omega, rfl⟩
  rintro H3 ⟨gs, hgs, rfl⟩
  have hgs63 : gs.length ≤ 63 := by omega
  have hD0 : H D = none := s2.free hD
  have s3 : Same H (upd H2 D (.lst (gs.map V.int))) := same_mut s2 hD0
  have hDD : upd H2 D (.lst (gs.map V.int)) D = some (.lst (gs.map V.int)) := upd_same
  generalize upd H2 D (.lst (gs.map V.int)) = H3 at s3 hDD ⊢
  -- the test
  have fin : ∀ (H4 : Hp) (al : V), Same H H4 → H4 D = some (.lst (gs.map V.int)) → (al = .non ∨ ∃ i, al = .int i) → ∀ b, H4 b = none → Q (.ref b) (upd H4 b (.lst [.int sd, .int 1, .ref D, al])) := fun H4 al s4 h4 hal b hb4 =>
    q b D _ (s4.trans (same_new hb4)) (s4.free hb4) hD0 ⟨(ne_of_none h4 hb4).symm, sd, 1, gs, al, upd_same, by rw [upd_ne (ne_of_none h4 hb4)]; exact h4, hgs63, hal⟩
  refine ⟨_, rfl, a, _, rfl, .inl (s3.seq hS), _, 2, rfl, rfl, _, rfl, ite2 (fun e1 => ?_) (fun e1 => ?_)⟩
  · refine ⟨_, rfl, D, _, rfl, .inl (SqL.of hDD), rfl, _, rfl, ite2 (fun e2 => ?_) (fun e2 => ?_)⟩
    · refine ⟨_, rfl, a, rfl, ⟨_, s3.seq hS⟩, fun D2 hD2 => lc_list (K := K) (a := a) (xs := ns.map V.int) (fun i H' => ∃ acc : List Int, acc.length ≤ i ∧ H' = upd H3 D2 (.lst (acc.map V.int)))
        ⟨[], Nat.le_refl _, rfl⟩ (fun i H' _ ⟨acc, _, e⟩ => by rw [e]; exact (same_new hD2).seq (s3.seq hS)) ?_ ?_⟩
      · rintro i x H'' hi ⟨acc, hacc, rfl⟩
        obtain ⟨n, rfl, hin⟩ := int_at hi
        refine ⟨rfl, ?_⟩
        refine ⟨_, rfl, .inl ⟨n, rfl, _, upd_same, ?_, acc ++ [n], ?_, ?_⟩⟩
        · rw [List.length_map]
          exact len_lt (by omega)
        · rw [List.length_append, List.length_singleton]
          omega
        · rw [upd_upd, List.map_append]
          rfl
      · rintro H5 ⟨acc, _, rfl⟩
        refine ⟨D2, acc, rfl, SqL.of upd_same, _, rfl, ?_⟩
        refine ⟨_, rfl, _, rfl, _, rfl, (len_le (by show 4 ≤ 1000; decide)), fun b hb => ?_⟩
        exact fin _ _ (s3.trans (same_new hD2)) (by rw [upd_ne (ne_of_none hDD hD2)]; exact hDD) (.inr ⟨_, rfl⟩) b hb
    · refine ⟨_, rfl, _, rfl, _, rfl, (len_le (by show 4 ≤ 1000; decide)), fun b hb => ?_⟩
      exact fin _ _ s3 hDD (.inl rfl) b hb
  · refine ⟨_, rfl, _, rfl, _, rfl, (len_le (by show 4 ≤ 1000; decide)), fun b hb => ?_⟩
    exact fin _ _ s3 hDD (.inl rfl) b hb
end
end Lw

set_option maxHeartbeats 4000000
namespace Lw
open PySem PySem.Spec PyProof.Rows L2 EF Hn
open PySem.W (Frag keepIn)
abbrev s_law_is : Stmt := top 26
abbrev N_law_is : List Str := ["thing", "due", "one", "other"]
theorem sc_law_is : FnScope N_law_is ["thing", "due"] (defScope s_law_is) := ⟨rfl, rfl, rfl, by decide +kernel, rfl, by decide +kernel, by decide +kernel⟩
abbrev s_law_deep : Stmt := top 27
abbrev N_law_deep : List Str := ["thing", "turn"]
theorem sc_law_deep : FnScope N_law_deep [] (defScope s_law_deep) := ⟨rfl, rfl, rfl, by decide +kernel, rfl, by decide +kernel, by decide +kernel⟩
section
variable {P : Program} {w : World} {K : Frag} {mg : Str → Option Value} {base : Heap}
theorem k_deep (B : Bl mg) (D : Dfn K mg "_law_deep" s_law_deep []) : Kept P w K mg base 1 "_law_deep" [] spDeep := by
  refine D.kept (N := N_law_deep) sc_law_deep (fun vs H Q E h => ?_) (fun f cdv A outer s H vs Q E hr h => ?_)
  · obtain ⟨rfl, _⟩ := h
    rfl
  obtain ⟨rfl, q⟩ := h
  refine ⟨_, (pss_cons (ps_set (i := 0) sc_law_deep.nd rfl (Or.inl rfl) (pe_tup pa_nil))
      (pss_cons (ps_for PassesOwn.never rfl (pi_range1 (by rfl) B.b_range (pa_cons pe_int pa_nil)) (pg_name (i := 1) sc_law_deep.nd rfl (Or.inl rfl)) (pss_one (ps_set (i := 0) sc_law_deep.nd rfl (Or.inl rfl) (pe_lst (pa_cons (pe_tup (pa_cons (pv 0) pa_nil)) pa_nil)))))
      (pss_one (ps_ret (pv 0))))), ?_⟩
  refine ⟨len_le (by show 0 ≤ 1000; decide), fun p hp => ?_⟩
  refine ⟨11, rfl, by decide, by decide, for_range (n := 11) (fun i σ H' => ∃ x y, σ = [some x, y] ∧ Same H H' ∧ Good (fun a => H a = none) H' (2 * i + 1) x)
    ⟨.ref p, none, rfl, same_new hp, .tup (n := 0) upd_same (fun x hx => nomatch hx) (Nat.zero_le _)⟩ ?_ ?_⟩
  · rintro i σ H' hi ⟨x, y, rfl, s1, g⟩
    refine ⟨x, rfl, len_le (by show 1 ≤ 1000; decide), fun t ht => ⟨len_le (by show 1 ≤ 1000; decide), fun l hl => ?_⟩⟩
    refine ⟨_, _, rfl, (s1.trans (same_new ht)).trans (same_new hl), ?_⟩
    have g1 : Good (fun a => H a = none) (upd H' t (.tup [x])) (2 * i + 2) (.ref t) := .tup upd_same (fun z hz => by
      rcases List.mem_cons.mp hz with rfl | hz
      · exact g.same (same_new ht)
      · cases hz) (by show 1 ≤ 100; decide)
    exact .lst (n := 2 * i + 2) upd_same (fun z hz => by
      rcases List.mem_cons.mp hz with rfl | hz
      · exact g1.same (same_new hl)
      · cases hz) (by show 1 ≤ 100; decide) ((s1.trans (same_new ht)).free hl)
  · rintro σ H' ⟨x, y, rfl, s1, g⟩
    exact ⟨x, rfl, q x H' s1 g⟩
theorem k_is (B : Bl mg) (D : Dfn K mg "_law_is" s_law_is ["thing", "due"]) : ∀ n, Kept P w K mg base n "_law_is" ["thing", "due"] (spIs n)
  | 0 => kept_zero D fun vs H Q E ⟨_, _, _, _, h, _⟩ => absurd h (Nat.not_lt_zero _)
  | n + 1 => by
    have G_law_is := k_is B D n
    refine D.kept (N := N_law_is) sc_law_is (fun vs H Q E h => ?_) (fun f cdv A outer s H vs Q E hr h => ?_)
    · obtain ⟨N, x, m, rfl, _⟩ := h
      rfl
    obtain ⟨N, x, m, rfl, hm, g, q⟩ := h
    refine ⟨_, (pss_cons (ps_if (pt_val (pe_callB call_isiT (by rfl) B.b_isinstance (by decide +kernel) (pa_cons (pv 1) (pa_cons (pe_tup (pa_cons (pe_bltn (v := .ty "tuple") (by rfl) B.b_tuple (by decide +kernel) rfl) (pa_cons (pe_bltn (v := .ty "list") (by rfl) B.b_list (by decide +kernel) rfl) pa_nil))) pa_nil)))) (pss_cons (ps_if (pw_or (pt_cmpR op_ne (pe_callB call_isi (by rfl) B.b_isinstance (by decide +kernel) (pa_cons (pv 0) (pa_cons (pe_bltn (v := .ty "tuple") (by rfl) B.b_tuple (by decide +kernel) rfl) pa_nil))) (pe_callB call_isi (by rfl) B.b_isinstance (by decide +kernel) (pa_cons (pv 1) (pa_cons (pe_bltn (v := .ty "tuple") (by rfl) B.b_tuple (by decide +kernel) rfl) pa_nil))) (nomark _)) (pw_or1 (pt_cmpR op_ne (pe_callB call_isi (by rfl) B.b_isinstance (by decide +kernel) (pa_cons (pv 0) (pa_cons (pe_bltn (v := .ty "list") (by rfl) B.b_list (by decide +kernel) rfl) pa_nil))) (pe_callB call_isi (by rfl) B.b_isinstance (by decide +kernel) (pa_cons (pv 1) (pa_cons (pe_bltn (v := .ty "list") (by rfl) B.b_list (by decide +kernel) rfl) pa_nil))) (nomark _)))).pt (pss_one (ps_ret pe_bl)) pss_nil)
      (pss_one (ps_ret (pe_and (pe_cmpR op_eq (pe_callB call_len_seq (by rfl) B.b_len PySem.boot_len (pa_cons (pv 0) pa_nil)) (pe_callB call_len_seq (by rfl) B.b_len PySem.boot_len (pa_cons (pv 1) pa_nil)) (nomark _)) (pe_one (pe_callB (cr_all rfl) (by rfl) B.b_all (by decide +kernel) (pa_cons (pe_lc (own := [("one", 2), ("other", 3)]) (g := gTup K 2 (gCons (gName 2) (gCons (gName 3) (gNil)))) (by rfl) sc_law_is.nd (RZ.pi_zipA (by rfl) B.b_zip (pa_cons (pv 0) (pa_cons (pv 1) pa_nil))) (blkOk_by (own := [("one", 2), ("other", 3)]) (N := N_law_is) (sc := defScope s_law_is) (by decide +kernel)) (fun _ _ _ _ _ => (pg_tup rfl (pgs_cons (pg_name (i := 2) sc_law_is.nd rfl (Or.inl rfl)) (pgs_cons (pg_name (i := 3) sc_law_is.nd rfl (Or.inl rfl)) pgs_nil)))) (fun _ _ _ _ _ => pts_nil) (fun _ _ _ _ _ => (pe_k G_law_is (hr.mono (by first | decide | omega)) (by rfl) (pa_cons (pv 2) (pa_cons (pv 3) pa_nil))))) pa_nil))))))) pss_nil)
      (pss_one (ps_ret (pe_and (pe_cmpR op_eq (pe_callB call_isi (by rfl) B.b_isinstance (by decide +kernel) (pa_cons (pv 0) (pa_cons (pe_bltn (v := .ty "bool") (by rfl) B.b_bool (by decide +kernel) rfl) pa_nil))) (pe_callB call_isi (by rfl) B.b_isinstance (by decide +kernel) (pa_cons (pv 1) (pa_cons (pe_bltn (v := .ty "bool") (by rfl) B.b_bool (by decide +kernel) rfl) pa_nil))) (nomark _)) (pe_one (pe_cmpR (OpR.or op_eq (op_eq_dict (Nat.lt_of_succ_lt (hu_of hr)))) (pv 0) (pv 1) (nomark _))))))), ?_⟩
    refine ⟨x, rfl, len_le (by show 2 ≤ 1000; decide), fun tp htp => ?_⟩
    have s1 : Same H (upd H tp (.tup [.ty "tuple", .ty "list"])) := same_new htp
    have htp1 : upd H tp (.tup [.ty "tuple", .ty "list"]) tp = some (.tup [.ty "tuple", .ty "list"]) := upd_same
    generalize upd H tp (.tup [.ty "tuple", .ty "list"]) = H1 at s1 htp1 ⊢
    rcases (g.same s1).kind (K := K) with ⟨T, bb, ty1, k1, k2, k3, hx⟩ | ⟨a, xs, k, rfl, rfl, hk, hlen, ha⟩
    · refine ⟨x, tp, _, .type T, _, false, rfl, htp1, twoTys, ty1, kitTL k1 k2, false, rfl, ?_⟩
      refine ⟨x, rfl, x, _, .type T, _, bb, rfl, .ty _, ty1, kit_ty k3, x, rfl, x, _, .type T, _, bb, rfl, .ty _, ty1, kit_ty k3, rfl, _, rfl, ?_⟩
      rw [decide_eq_true rfl]
      refine iteT ?_
      rcases hx with hx | ⟨a, kvs, rfl, e, nd, fl⟩
      · refine ⟨x, rfl, x, rfl, .inl ⟨hx, ?_⟩⟩
        rw [decide_eq_true rfl]
        exact q H1 s1
      · exact ⟨_, rfl, _, rfl, .inr ⟨a, a, kvs, rfl, rfl, e, e, nd, fl, q H1 s1⟩⟩
    · obtain ⟨T, t1, t2, ty1, k1, k2, k3⟩ : ∃ T b1 b2, TyX K H1 (.ref a) (.type T) ∧ kitB T "tuple" = some b1 ∧ kitB T "list" = some b2 ∧ (b1 || b2) = true := by
        rcases ha with e | e
        · exact ⟨"tuple", true, false, .base (.tup e), by decide +kernel, by decide +kernel, rfl⟩
        · exact ⟨"list", false, true, .base (.lst e), by decide +kernel, by decide +kernel, rfl⟩
      refine ⟨_, tp, _, .type T, _, _, rfl, htp1, twoTys, ty1, kitTL k1 k2, _, rfl, ?_⟩
      rw [k3]
      -- the two kinds are alike
      refine ⟨_, rfl, _, _, .type T, _, t1, rfl, .ty _, ty1, kit_ty k1, _, rfl, _, _, .type T, _, t1, rfl, .ty _, ty1, kit_ty k1, rfl, _, rfl, ?_⟩
      rw [decide_eq_true rfl]
      refine ⟨_, rfl, _, _, .type T, _, t2, rfl, .ty _, ty1, kit_ty k2, _, rfl, _, _, .type T, _, t2, rfl, .ty _, ty1, kit_ty k2, rfl, _, rfl, ?_⟩
      rw [decide_eq_true rfl]
      have hsq : SqL K H1 a xs ∨ SqT K H1 a xs := by
        rcases ha with e | e
        · exact .inr (SqT.of e)
        · exact .inl (SqL.of e)
      refine ⟨_, rfl, a, xs, rfl, hsq, _, rfl, a, xs, rfl, hsq, rfl, _, rfl, ?_⟩
      rw [decide_eq_true rfl]
      refine ⟨_, rfl, _, rfl, a, a, xs, xs, rfl, ?_⟩
      rcases ha with ea | ea
      · refine .inr ⟨SqT.of ea, SqT.of ea, fun D hD => lc_zipT rfl (fun i H' => ∃ bs : List Bool, bs.all id = true ∧ bs.length = i ∧ Same H1 H' ∧ H' D = some (.lst (bs.map V.bl))) ⟨[], rfl, rfl, same_new hD, upd_same⟩
          (fun i H' ⟨_, _, _, sm, _⟩ => ⟨sm.seqT (SqT.of ea), sm.seqT (SqT.of ea)⟩) ?_ ?_⟩
        · rintro i y z Tt H2 hy hz ⟨bs, ball, blen, sm, hD2⟩ nT
          obtain rfl : y = z := Option.some.inj (hy.symm.trans hz)
          have hi : i < xs.length := by
            rcases Nat.lt_or_ge i xs.length with h | h
            · exact h
            · rw [List.getElem?_eq_none_iff.mpr h] at hy
              cases hy
          have gy := hk y (List.mem_of_getElem? hy)
          refine ⟨Tt, _, rfl, SqT.of upd_same, rfl, _, _, rfl, _, _, rfl, rfl, rfl, ?_⟩
          refine ⟨_, rfl, _, rfl, N, y, k, rfl, by omega, gy.same (sm.trans (same_new nT)), fun H3 s3 => ?_⟩
          have e3 : H3 D = some (.lst (bs.map V.bl)) := s3 _ _ ((same_new nT) _ _ hD2)
          refine ⟨bs.map V.bl, e3, by rw [List.length_map]; exact len_lt (by omega), bs ++ [true], by rw [List.all_append, ball]; rfl, by rw [List.length_append, blen]; rfl, same_mut ((sm.trans (same_new nT)).trans s3) hD, by rw [upd_same, List.map_append]; rfl⟩
        · rintro H2 ⟨bs, ball, blen, sm, hD2⟩
          refine ⟨D, bs, rfl, SqL.of hD2, ?_⟩
          rw [ball]
          exact q H2 (s1.trans sm)
      · refine .inl ⟨SqL.of ea, SqL.of ea, fun D hD => lc_zipL rfl (fun i H' => ∃ bs : List Bool, bs.all id = true ∧ bs.length = i ∧ Same H1 H' ∧ H' D = some (.lst (bs.map V.bl))) ⟨[], rfl, rfl, same_new hD, upd_same⟩
          (fun i H' ⟨_, _, _, sm, _⟩ => ⟨sm.seq (SqL.of ea), sm.seq (SqL.of ea)⟩) ?_ ?_⟩
        · rintro i y z Tt H2 hy hz ⟨bs, ball, blen, sm, hD2⟩ nT
          obtain rfl : y = z := Option.some.inj (hy.symm.trans hz)
          have hi : i < xs.length := by
            rcases Nat.lt_or_ge i xs.length with h | h
            · exact h
            · rw [List.getElem?_eq_none_iff.mpr h] at hy
              cases hy
          have gy := hk y (List.mem_of_getElem? hy)
          refine ⟨Tt, _, rfl, SqT.of upd_same, rfl, _, _, rfl, _, _, rfl, rfl, rfl, ?_⟩
          refine ⟨_, rfl, _, rfl, N, y, k, rfl, by omega, gy.same (sm.trans (same_new nT)), fun H3 s3 => ?_⟩
          have e3 : H3 D = some (.lst (bs.map V.bl)) := s3 _ _ ((same_new nT) _ _ hD2)
          refine ⟨bs.map V.bl, e3, by rw [List.length_map]; exact len_lt (by omega), bs ++ [true], by rw [List.all_append, ball]; rfl, by rw [List.length_append, blen]; rfl, same_mut ((sm.trans (same_new nT)).trans s3) hD, by rw [upd_same, List.map_append]; rfl⟩
        · rintro H2 ⟨bs, ball, blen, sm, hD2⟩
          refine ⟨D, bs, rfl, SqL.of hD2, ?_⟩
          rw [ball]
          exact q H2 (s1.trans sm)
end
end Lw

set_option maxHeartbeats 4000000
namespace Lw
open PySem PySem.Spec PyProof.Rows L2 EF Hn
open PySem.W (Frag keepIn)
abbrev s_law_flags : Stmt := top 28
abbrev N_law_flags : List Str := ["e", "flags"]
theorem sc_law_flags : FnScope N_law_flags ["e"] (defScope s_law_flags) := ⟨rfl, rfl, rfl, by decide +kernel, rfl, by decide +kernel, by decide +kernel⟩
abbrev s_law_fields : Stmt := top 29
abbrev N_law_fields : List Str := ["e", "found"]
theorem sc_law_fields : FnScope N_law_fields ["e"] (defScope s_law_fields) := ⟨rfl, rfl, rfl, by decide +kernel, rfl, by decide +kernel, by decide +kernel⟩
abbrev slaw : Stmt := top 30
abbrev Nlaw : List Str := ["script", "bag", "made", "things", "kept", "turn", "number", "error", "at", "told"]
theorem sclaw : FnScope Nlaw ["script"] (defScope slaw) := ⟨rfl, rfl, rfl, by decide +kernel, rfl, by decide +kernel, by decide +kernel⟩
/-- what the written part says of all the errors' classes -/
structure Ers (P : Program) (K : Frag) (mg : Str → Option Value) (c : Nat → Addr) : Prop where
  CNoWeb : Er0 K mg "NoWeb" (c 0)
  CNoStanding : Er0 K mg "NoStanding" (c 1)
  CNoRow : Er0 K mg "NoRow" (c 2)
  CNoShape : Er0 K mg "NoShape" (c 3)
  CNoNumber : Er0 K mg "NoNumber" (c 4)
  CNoRules : Er0 K mg "NoRules" (c 5)
  CNoPerson : Er0 K mg "NoPerson" (c 6)
  CNoLetter : Er0 K mg "NoLetter" (c 7)
  CNoDeed : Er0 K mg "NoDeed" (c 8)
  CFull : Er0 K mg "Full" (c 9)
  CNothingDone : Er0 K mg "NothingDone" (c 10)
  CNoNote : Er0 K mg "NoNote" (c 11)
  CNoNotes : Er0 K mg "NoNotes" (c 12)
  CHeld : Er0 K mg "Held" (c 13)
  CNoCard : Er0 K mg "NoCard" (c 14)
  CNoText : Er0 K mg "NoText" (c 15)
  CNotLet : Er1 P K mg "NotLet" "index" (c 16)
  CBadRule : Er1 P K mg "BadRule" "part" (c 17)
  CTooMany : Er1 P K mg "TooMany" "most" (c 18)
  CBadText : Er1 P K mg "BadText" "line" (c 19)
  iE : ∀ i, i < 20 → IsE K (c i)
  kit : ∀ i j, i < 20 → j < 20 → PySem.W.kitOne K (.ref (c i)) (.ref (c j)) = some (decide (i = j))
  CCardError : Er0 K mg "CardError" (c 20)
  kitB : ∀ i, i < 20 → PySem.W.kitOne K (.ref (c i)) (.ref (c 20)) = some true
  kitV : ∀ i, i < 20 → PySem.W.kitOne K (.ref (c i)) (.type "ValueError") = some true
def flg (i : Nat) : List V := (List.range 20).map fun j => V.bl (decide (i = j))
def spFlags (c : Nat → Addr) : Sp := fun vs H Q _ => ∃ (a : Addr) (i : Nat) (fs : List (Str × V)), vs = [.ref a] ∧ i < 20 ∧ ErrAt H a (c i) fs ∧ ∀ p H', Same H H' → H' p = some (.lst (flg i)) → Q (.ref p) H'
/-- the field's name of the i-th class -/
def fld (i : Nat) : Str := if i = 16 then "index" else if i = 17 then "part" else if i = 18 then "most" else "line"
def spFields (c : Nat → Addr) : Sp := fun vs H Q _ => ∃ (a : Addr) (i : Nat) (v : V), vs = [.ref a] ∧ i < 20 ∧ ErrAt H a (c i) (if i < 16 then [] else [(fld i, v)]) ∧
  ∀ p H', Same H H' → H' p = some (.lst (if i < 16 then [] else [v])) → Q (.ref p) H'
section
variable {P : Program} {w : World} {K : Frag} {mg : Str → Option Value} {base : Heap} {c : Nat → Addr}
theorem k_flags (B : Bl mg) (D : Dfn K mg "_law_flags" s_law_flags ["e"]) (T : Ers P K mg c) : Kept P w K mg base 1 "_law_flags" ["e"] (spFlags c) := by
  refine D.kept (N := N_law_flags) sc_law_flags (fun vs H Q E h => ?_) (fun f cdv A outer s H vs Q E hr h => ?_)
  · obtain ⟨a, i, fs, rfl, _⟩ := h
    rfl
  obtain ⟨a, i, fs, rfl, hi, ea, q⟩ := h
  have iE := T.iE i hi
  have kit := T.kit
  refine ⟨_, (pss_cons (ps_set (i := 1) sc_law_flags.nd rfl (Or.inl rfl) (pe_lst (pa_cons (pe_callB call_isiE (by rfl) B.b_isinstance (by decide +kernel) (pa_cons (pv 0) (pa_cons (pe_glob (v := .ref _) (by rfl) T.CNoWeb.g rfl) pa_nil))) (pa_cons (pe_callB call_isiE (by rfl) B.b_isinstance (by decide +kernel) (pa_cons (pv 0) (pa_cons (pe_glob (v := .ref _) (by rfl) T.CNoStanding.g rfl) pa_nil))) (pa_cons (pe_callB call_isiE (by rfl) B.b_isinstance (by decide +kernel) (pa_cons (pv 0) (pa_cons (pe_glob (v := .ref _) (by rfl) T.CNoRow.g rfl) pa_nil))) (pa_cons (pe_callB call_isiE (by rfl) B.b_isinstance (by decide +kernel) (pa_cons (pv 0) (pa_cons (pe_glob (v := .ref _) (by rfl) T.CNoShape.g rfl) pa_nil))) pa_nil))))))
      (pss_cons (ps_set (i := 1) sc_law_flags.nd rfl (Or.inl rfl) (pe_op op_cat (pv 1) (pe_lst (pa_cons (pe_callB call_isiE (by rfl) B.b_isinstance (by decide +kernel) (pa_cons (pv 0) (pa_cons (pe_glob (v := .ref _) (by rfl) T.CNoNumber.g rfl) pa_nil))) (pa_cons (pe_callB call_isiE (by rfl) B.b_isinstance (by decide +kernel) (pa_cons (pv 0) (pa_cons (pe_glob (v := .ref _) (by rfl) T.CNoRules.g rfl) pa_nil))) (pa_cons (pe_callB call_isiE (by rfl) B.b_isinstance (by decide +kernel) (pa_cons (pv 0) (pa_cons (pe_glob (v := .ref _) (by rfl) T.CNoPerson.g rfl) pa_nil))) (pa_cons (pe_callB call_isiE (by rfl) B.b_isinstance (by decide +kernel) (pa_cons (pv 0) (pa_cons (pe_glob (v := .ref _) (by rfl) T.CNoLetter.g rfl) pa_nil))) pa_nil)))))))
      (pss_cons (ps_set (i := 1) sc_law_flags.nd rfl (Or.inl rfl) (pe_op op_cat (pv 1) (pe_lst (pa_cons (pe_callB call_isiE (by rfl) B.b_isinstance (by decide +kernel) (pa_cons (pv 0) (pa_cons (pe_glob (v := .ref _) (by rfl) T.CNoDeed.g rfl) pa_nil))) (pa_cons (pe_callB call_isiE (by rfl) B.b_isinstance (by decide +kernel) (pa_cons (pv 0) (pa_cons (pe_glob (v := .ref _) (by rfl) T.CFull.g rfl) pa_nil))) (pa_cons (pe_callB call_isiE (by rfl) B.b_isinstance (by decide +kernel) (pa_cons (pv 0) (pa_cons (pe_glob (v := .ref _) (by rfl) T.CNothingDone.g rfl) pa_nil))) (pa_cons (pe_callB call_isiE (by rfl) B.b_isinstance (by decide +kernel) (pa_cons (pv 0) (pa_cons (pe_glob (v := .ref _) (by rfl) T.CNoNote.g rfl) pa_nil))) pa_nil)))))))
      (pss_cons (ps_set (i := 1) sc_law_flags.nd rfl (Or.inl rfl) (pe_op op_cat (pv 1) (pe_lst (pa_cons (pe_callB call_isiE (by rfl) B.b_isinstance (by decide +kernel) (pa_cons (pv 0) (pa_cons (pe_glob (v := .ref _) (by rfl) T.CNoNotes.g rfl) pa_nil))) (pa_cons (pe_callB call_isiE (by rfl) B.b_isinstance (by decide +kernel) (pa_cons (pv 0) (pa_cons (pe_glob (v := .ref _) (by rfl) T.CHeld.g rfl) pa_nil))) (pa_cons (pe_callB call_isiE (by rfl) B.b_isinstance (by decide +kernel) (pa_cons (pv 0) (pa_cons (pe_glob (v := .ref _) (by rfl) T.CNoCard.g rfl) pa_nil))) (pa_cons (pe_callB call_isiE (by rfl) B.b_isinstance (by decide +kernel) (pa_cons (pv 0) (pa_cons (pe_glob (v := .ref _) (by rfl) T.CNoText.g rfl) pa_nil))) pa_nil)))))))
      (pss_one (ps_ret (pe_op op_cat (pv 1) (pe_lst (pa_cons (pe_callB call_isiE (by rfl) B.b_isinstance (by decide +kernel) (pa_cons (pv 0) (pa_cons (pe_glob (v := .ref _) (by rfl) T.CNotLet.g rfl) pa_nil))) (pa_cons (pe_callB call_isiE (by rfl) B.b_isinstance (by decide +kernel) (pa_cons (pv 0) (pa_cons (pe_glob (v := .ref _) (by rfl) T.CBadRule.g rfl) pa_nil))) (pa_cons (pe_callB call_isiE (by rfl) B.b_isinstance (by decide +kernel) (pa_cons (pv 0) (pa_cons (pe_glob (v := .ref _) (by rfl) T.CTooMany.g rfl) pa_nil))) (pa_cons (pe_callB call_isiE (by rfl) B.b_isinstance (by decide +kernel) (pa_cons (pv 0) (pa_cons (pe_glob (v := .ref _) (by rfl) T.CBadText.g rfl) pa_nil))) pa_nil)))))))))))), ?_⟩
  refine ⟨_, rfl, a, c i, fs, _, _, _, rfl, .own _, ea, iE, kit i 0 hi (by decide), _, rfl, a, c i, fs, _, _, _, rfl, .own _, ea, iE, kit i 1 hi (by decide), _, rfl, a, c i, fs, _, _, _, rfl, .own _, ea, iE, kit i 2 hi (by decide), _, rfl, a, c i, fs, _, _, _, rfl, .own _, ea, iE, kit i 3 hi (by decide), len_le (by show 4 ≤ 1000; decide), fun p0 n0 => ?_⟩
  have s0 : Same H (upd H p0 (.lst [.bl (decide (i = 0)), .bl (decide (i = 1)), .bl (decide (i = 2)), .bl (decide (i = 3))])) := same_new n0
  have e0 := upd_same (H := H) (a := p0) (o := .lst [.bl (decide (i = 0)), .bl (decide (i = 1)), .bl (decide (i = 2)), .bl (decide (i = 3))])
  generalize upd H p0 (.lst [.bl (decide (i = 0)), .bl (decide (i = 1)), .bl (decide (i = 2)), .bl (decide (i = 3))]) = H0 at s0 e0 ⊢
  refine ⟨_, rfl, _, rfl, a, c i, fs, _, _, _, rfl, .own _, (ea.ext s0), iE, kit i 4 hi (by decide), _, rfl, a, c i, fs, _, _, _, rfl, .own _, (ea.ext s0), iE, kit i 5 hi (by decide), _, rfl, a, c i, fs, _, _, _, rfl, .own _, (ea.ext s0), iE, kit i 6 hi (by decide), _, rfl, a, c i, fs, _, _, _, rfl, .own _, (ea.ext s0), iE, kit i 7 hi (by decide), len_le (by show 4 ≤ 1000; decide), fun q1 m1 => ⟨_, _, _, _, rfl, rfl, same_new m1 _ _ e0, upd_same, len_le (by show 8 ≤ 1000; decide), fun p1 n1 => ?_⟩⟩
  have s1 : Same H (upd (upd H0 q1 (.lst [.bl (decide (i = 4)), .bl (decide (i = 5)), .bl (decide (i = 6)), .bl (decide (i = 7))])) p1 (.lst [.bl (decide (i = 0)), .bl (decide (i = 1)), .bl (decide (i = 2)), .bl (decide (i = 3)), .bl (decide (i = 4)), .bl (decide (i = 5)), .bl (decide (i = 6)), .bl (decide (i = 7))])) := (s0.trans (same_new m1)).trans (same_new n1)
  have e1 := upd_same (H := upd H0 q1 (.lst [.bl (decide (i = 4)), .bl (decide (i = 5)), .bl (decide (i = 6)), .bl (decide (i = 7))])) (a := p1) (o := .lst [.bl (decide (i = 0)), .bl (decide (i = 1)), .bl (decide (i = 2)), .bl (decide (i = 3)), .bl (decide (i = 4)), .bl (decide (i = 5)), .bl (decide (i = 6)), .bl (decide (i = 7))])
  show tSeq _ _ _ _ (upd (upd H0 q1 (.lst [.bl (decide (i = 4)), .bl (decide (i = 5)), .bl (decide (i = 6)), .bl (decide (i = 7))])) p1 (.lst [.bl (decide (i = 0)), .bl (decide (i = 1)), .bl (decide (i = 2)), .bl (decide (i = 3)), .bl (decide (i = 4)), .bl (decide (i = 5)), .bl (decide (i = 6)), .bl (decide (i = 7))]))
  generalize upd (upd H0 q1 (.lst [.bl (decide (i = 4)), .bl (decide (i = 5)), .bl (decide (i = 6)), .bl (decide (i = 7))])) p1 (.lst [.bl (decide (i = 0)), .bl (decide (i = 1)), .bl (decide (i = 2)), .bl (decide (i = 3)), .bl (decide (i = 4)), .bl (decide (i = 5)), .bl (decide (i = 6)), .bl (decide (i = 7))]) = H1 at s1 e1 ⊢
  refine ⟨_, rfl, _, rfl, a, c i, fs, _, _, _, rfl, .own _, (ea.ext s1), iE, kit i 8 hi (by decide), _, rfl, a, c i, fs, _, _, _, rfl, .own _, (ea.ext s1), iE, kit i 9 hi (by decide), _, rfl, a, c i, fs, _, _, _, rfl, .own _, (ea.ext s1), iE, kit i 10 hi (by decide), _, rfl, a, c i, fs, _, _, _, rfl, .own _, (ea.ext s1), iE, kit i 11 hi (by decide), len_le (by show 4 ≤ 1000; decide), fun q2 m2 => ⟨_, _, _, _, rfl, rfl, same_new m2 _ _ e1, upd_same, len_le (by show 12 ≤ 1000; decide), fun p2 n2 => ?_⟩⟩
  have s2 : Same H (upd (upd H1 q2 (.lst [.bl (decide (i = 8)), .bl (decide (i = 9)), .bl (decide (i = 10)), .bl (decide (i = 11))])) p2 (.lst [.bl (decide (i = 0)), .bl (decide (i = 1)), .bl (decide (i = 2)), .bl (decide (i = 3)), .bl (decide (i = 4)), .bl (decide (i = 5)), .bl (decide (i = 6)), .bl (decide (i = 7)), .bl (decide (i = 8)), .bl (decide (i = 9)), .bl (decide (i = 10)), .bl (decide (i = 11))])) := (s1.trans (same_new m2)).trans (same_new n2)
  have e2 := upd_same (H := upd H1 q2 (.lst [.bl (decide (i = 8)), .bl (decide (i = 9)), .bl (decide (i = 10)), .bl (decide (i = 11))])) (a := p2) (o := .lst [.bl (decide (i = 0)), .bl (decide (i = 1)), .bl (decide (i = 2)), .bl (decide (i = 3)), .bl (decide (i = 4)), .bl (decide (i = 5)), .bl (decide (i = 6)), .bl (decide (i = 7)), .bl (decide (i = 8)), .bl (decide (i = 9)), .bl (decide (i = 10)), .bl (decide (i = 11))])
  show tSeq _ _ _ _ (upd (upd H1 q2 (.lst [.bl (decide (i = 8)), .bl (decide (i = 9)), .bl (decide (i = 10)), .bl (decide (i = 11))])) p2 (.lst [.bl (decide (i = 0)), .bl (decide (i = 1)), .bl (decide (i = 2)), .bl (decide (i = 3)), .bl (decide (i = 4)), .bl (decide (i = 5)), .bl (decide (i = 6)), .bl (decide (i = 7)), .bl (decide (i = 8)), .bl (decide (i = 9)), .bl (decide (i = 10)), .bl (decide (i = 11))]))
  generalize upd (upd H1 q2 (.lst [.bl (decide (i = 8)), .bl (decide (i = 9)), .bl (decide (i = 10)), .bl (decide (i = 11))])) p2 (.lst [.bl (decide (i = 0)), .bl (decide (i = 1)), .bl (decide (i = 2)), .bl (decide (i = 3)), .bl (decide (i = 4)), .bl (decide (i = 5)), .bl (decide (i = 6)), .bl (decide (i = 7)), .bl (decide (i = 8)), .bl (decide (i = 9)), .bl (decide (i = 10)), .bl (decide (i = 11))]) = H2 at s2 e2 ⊢
  refine ⟨_, rfl, _, rfl, a, c i, fs, _, _, _, rfl, .own _, (ea.ext s2), iE, kit i 12 hi (by decide), _, rfl, a, c i, fs, _, _, _, rfl, .own _, (ea.ext s2), iE, kit i 13 hi (by decide), _, rfl, a, c i, fs, _, _, _, rfl, .own _, (ea.ext s2), iE, kit i 14 hi (by decide), _, rfl, a, c i, fs, _, _, _, rfl, .own _, (ea.ext s2), iE, kit i 15 hi (by decide), len_le (by show 4 ≤ 1000; decide), fun q3 m3 => ⟨_, _, _, _, rfl, rfl, same_new m3 _ _ e2, upd_same, len_le (by show 16 ≤ 1000; decide), fun p3 n3 => ?_⟩⟩
  have s3 : Same H (upd (upd H2 q3 (.lst [.bl (decide (i = 12)), .bl (decide (i = 13)), .bl (decide (i = 14)), .bl (decide (i = 15))])) p3 (.lst [.bl (decide (i = 0)), .bl (decide (i = 1)), .bl (decide (i = 2)), .bl (decide (i = 3)), .bl (decide (i = 4)), .bl (decide (i = 5)), .bl (decide (i = 6)), .bl (decide (i = 7)), .bl (decide (i = 8)), .bl (decide (i = 9)), .bl (decide (i = 10)), .bl (decide (i = 11)), .bl (decide (i = 12)), .bl (decide (i = 13)), .bl (decide (i = 14)), .bl (decide (i = 15))])) := (s2.trans (same_new m3)).trans (same_new n3)
  have e3 := upd_same (H := upd H2 q3 (.lst [.bl (decide (i = 12)), .bl (decide (i = 13)), .bl (decide (i = 14)), .bl (decide (i = 15))])) (a := p3) (o := .lst [.bl (decide (i = 0)), .bl (decide (i = 1)), .bl (decide (i = 2)), .bl (decide (i = 3)), .bl (decide (i = 4)), .bl (decide (i = 5)), .bl (decide (i = 6)), .bl (decide (i = 7)), .bl (decide (i = 8)), .bl (decide (i = 9)), .bl (decide (i = 10)), .bl (decide (i = 11)), .bl (decide (i = 12)), .bl (decide (i = 13)), .bl (decide (i = 14)), .bl (decide (i = 15))])
  show tSeq _ _ _ _ (upd (upd H2 q3 (.lst [.bl (decide (i = 12)), .bl (decide (i = 13)), .bl (decide (i = 14)), .bl (decide (i = 15))])) p3 (.lst [.bl (decide (i = 0)), .bl (decide (i = 1)), .bl (decide (i = 2)), .bl (decide (i = 3)), .bl (decide (i = 4)), .bl (decide (i = 5)), .bl (decide (i = 6)), .bl (decide (i = 7)), .bl (decide (i = 8)), .bl (decide (i = 9)), .bl (decide (i = 10)), .bl (decide (i = 11)), .bl (decide (i = 12)), .bl (decide (i = 13)), .bl (decide (i = 14)), .bl (decide (i = 15))]))
  generalize upd (upd H2 q3 (.lst [.bl (decide (i = 12)), .bl (decide (i = 13)), .bl (decide (i = 14)), .bl (decide (i = 15))])) p3 (.lst [.bl (decide (i = 0)), .bl (decide (i = 1)), .bl (decide (i = 2)), .bl (decide (i = 3)), .bl (decide (i = 4)), .bl (decide (i = 5)), .bl (decide (i = 6)), .bl (decide (i = 7)), .bl (decide (i = 8)), .bl (decide (i = 9)), .bl (decide (i = 10)), .bl (decide (i = 11)), .bl (decide (i = 12)), .bl (decide (i = 13)), .bl (decide (i = 14)), .bl (decide (i = 15))]) = H3 at s3 e3 ⊢
  refine ⟨_, rfl, _, rfl, a, c i, fs, _, _, _, rfl, .own _, (ea.ext s3), iE, kit i 16 hi (by decide), _, rfl, a, c i, fs, _, _, _, rfl, .own _, (ea.ext s3), iE, kit i 17 hi (by decide), _, rfl, a, c i, fs, _, _, _, rfl, .own _, (ea.ext s3), iE, kit i 18 hi (by decide), _, rfl, a, c i, fs, _, _, _, rfl, .own _, (ea.ext s3), iE, kit i 19 hi (by decide), len_le (by show 4 ≤ 1000; decide), fun q4 m4 => ⟨_, _, _, _, rfl, rfl, same_new m4 _ _ e3, upd_same, len_le (by show 20 ≤ 1000; decide), fun p4 n4 => ?_⟩⟩
  exact q p4 _ ((s3.trans (same_new m4)).trans (same_new n4)) upd_same
theorem k_fields (B : Bl mg) (D : Dfn K mg "_law_fields" s_law_fields ["e"]) (T : Ers P K mg c) : Kept P w K mg base 1 "_law_fields" ["e"] (spFields c) := by
  refine D.kept (N := N_law_fields) sc_law_fields (fun vs H Q E h => ?_) (fun f cdv A outer s H vs Q E hr h => ?_)
  · obtain ⟨a, i, v, rfl, _⟩ := h
    rfl
  obtain ⟨a, i, v, rfl, hi, ea, q⟩ := h
  refine ⟨_, (pss_cons (ps_set (i := 1) sc_law_fields.nd rfl (Or.inl rfl) (pe_lst pa_nil))
      (pss_cons (ps_if (pt_val (pe_callB call_isiE (by rfl) B.b_isinstance (by decide +kernel) (pa_cons (pv 0) (pa_cons (pe_glob (v := .ref _) (by rfl) T.CNotLet.g rfl) pa_nil)))) (pss_one (ps_expr (pe_bm PySem.F.plainAttrs_list PySem.F.slot_list_append PySem.F.type_list_append mt_append (pv 1) (pa_cons (pe_errF (pv 0)) pa_nil)))) pss_nil)
      (pss_cons (ps_if (pt_val (pe_callB call_isiE (by rfl) B.b_isinstance (by decide +kernel) (pa_cons (pv 0) (pa_cons (pe_glob (v := .ref _) (by rfl) T.CBadRule.g rfl) pa_nil)))) (pss_one (ps_expr (pe_bm PySem.F.plainAttrs_list PySem.F.slot_list_append PySem.F.type_list_append mt_append (pv 1) (pa_cons (pe_errF (pv 0)) pa_nil)))) pss_nil)
      (pss_cons (ps_if (pt_val (pe_callB call_isiE (by rfl) B.b_isinstance (by decide +kernel) (pa_cons (pv 0) (pa_cons (pe_glob (v := .ref _) (by rfl) T.CTooMany.g rfl) pa_nil)))) (pss_one (ps_expr (pe_bm PySem.F.plainAttrs_list PySem.F.slot_list_append PySem.F.type_list_append mt_append (pv 1) (pa_cons (pe_errF (pv 0)) pa_nil)))) pss_nil)
      (pss_cons (ps_if (pt_val (pe_callB call_isiE (by rfl) B.b_isinstance (by decide +kernel) (pa_cons (pv 0) (pa_cons (pe_glob (v := .ref _) (by rfl) T.CBadText.g rfl) pa_nil)))) (pss_one (ps_expr (pe_bm PySem.F.plainAttrs_list PySem.F.slot_list_append PySem.F.type_list_append mt_append (pv 1) (pa_cons (pe_errF (pv 0)) pa_nil)))) pss_nil)
      (pss_one (ps_ret (pv 1)))))))), ?_⟩
  refine ⟨len_le (by show 0 ≤ 1000; decide), fun p n0 => ?_⟩
  have s0 : Same H (upd H p (.lst [])) := same_new n0
  have e0 := upd_same (H := H) (a := p) (o := .lst [])
  generalize upd H p (.lst []) = H0 at s0 e0 ⊢
  by_cases h16 : i < 16
  · rw [if_pos h16] at ea q
    refine ⟨_, rfl, a, c i, _, _, _, _, rfl, .own _, ea.ext s0, T.iE i hi, T.kit i 16 hi (by decide), _, rfl, ite2 (fun e => absurd (of_decide_eq_true e) (by omega)) (fun _ => ?_)⟩
    refine ⟨_, rfl, a, c i, _, _, _, _, rfl, .own _, ea.ext s0, T.iE i hi, T.kit i 17 hi (by decide), _, rfl, ite2 (fun e => absurd (of_decide_eq_true e) (by omega)) (fun _ => ?_)⟩
    refine ⟨_, rfl, a, c i, _, _, _, _, rfl, .own _, ea.ext s0, T.iE i hi, T.kit i 18 hi (by decide), _, rfl, ite2 (fun e => absurd (of_decide_eq_true e) (by omega)) (fun _ => ?_)⟩
    refine ⟨_, rfl, a, c i, _, _, _, _, rfl, .own _, ea.ext s0, T.iE i hi, T.kit i 19 hi (by decide), _, rfl, ite2 (fun e => absurd (of_decide_eq_true e) (by omega)) (fun _ => ?_)⟩
    exact ⟨_, rfl, q p H0 s0 e0⟩
  rw [if_neg h16] at ea q
  have hi4 : i = 16 ∨ i = 17 ∨ i = 18 ∨ i = 19 := by omega
  rcases hi4 with rfl | rfl | rfl | rfl
  · have ea : ErrAt H a (c 16) [("index", v)] := ea
    refine ⟨_, rfl, a, c 16, _, _, _, _, rfl, .own _, ea.ext s0, T.iE 16 hi, T.kit 16 16 hi (by decide), _, rfl, ite2 (fun _ => ?_) (fun e => absurd (decide_eq_true rfl) e)⟩
    refine ⟨_, rfl, .inl ⟨rfl, _, SqL.of e0⟩, _, rfl, a, c 16, _, v, rfl, T.iE 16 hi, T.CNotLet.e.hdC, T.CNotLet.e.noF, ea.ext s0, by rw [lookup_put, if_pos rfl], ?_⟩
    refine ⟨p, _, _, rfl, rfl, e0, len_lt (by show 0 ≤ 1000; decide), ?_⟩
    have s1 : Same H (upd H0 p (.lst ([] ++ [v]))) := same_mut s0 n0
    have e1 := upd_same (H := H0) (a := p) (o := .lst ([] ++ [v]))
    skip
    generalize upd H0 p (.lst ([] ++ [v])) = H1 at s1 e1 ⊢
    refine ⟨_, rfl, a, c 16, _, _, _, _, rfl, .own _, ea.ext s1, T.iE 16 hi, T.kit 16 17 hi (by decide), _, rfl, ite2 (fun e => absurd (of_decide_eq_true e) (by decide)) (fun _ => ?_)⟩
    refine ⟨_, rfl, a, c 16, _, _, _, _, rfl, .own _, ea.ext s1, T.iE 16 hi, T.kit 16 18 hi (by decide), _, rfl, ite2 (fun e => absurd (of_decide_eq_true e) (by decide)) (fun _ => ?_)⟩
    refine ⟨_, rfl, a, c 16, _, _, _, _, rfl, .own _, ea.ext s1, T.iE 16 hi, T.kit 16 19 hi (by decide), _, rfl, ite2 (fun e => absurd (of_decide_eq_true e) (by decide)) (fun _ => ?_)⟩
    exact ⟨_, rfl, q p H1 s1 e1⟩
  · have ea : ErrAt H a (c 17) [("part", v)] := ea
    refine ⟨_, rfl, a, c 17, _, _, _, _, rfl, .own _, ea.ext s0, T.iE 17 hi, T.kit 17 16 hi (by decide), _, rfl, ite2 (fun e => absurd (of_decide_eq_true e) (by decide)) (fun _ => ?_)⟩
    refine ⟨_, rfl, a, c 17, _, _, _, _, rfl, .own _, ea.ext s0, T.iE 17 hi, T.kit 17 17 hi (by decide), _, rfl, ite2 (fun _ => ?_) (fun e => absurd (decide_eq_true rfl) e)⟩
    refine ⟨_, rfl, .inl ⟨rfl, _, SqL.of e0⟩, _, rfl, a, c 17, _, v, rfl, T.iE 17 hi, T.CBadRule.e.hdC, T.CBadRule.e.noF, ea.ext s0, by rw [lookup_put, if_pos rfl], ?_⟩
    refine ⟨p, _, _, rfl, rfl, e0, len_lt (by show 0 ≤ 1000; decide), ?_⟩
    have s1 : Same H (upd H0 p (.lst ([] ++ [v]))) := same_mut s0 n0
    have e1 := upd_same (H := H0) (a := p) (o := .lst ([] ++ [v]))
    skip
    generalize upd H0 p (.lst ([] ++ [v])) = H1 at s1 e1 ⊢
    refine ⟨_, rfl, a, c 17, _, _, _, _, rfl, .own _, ea.ext s1, T.iE 17 hi, T.kit 17 18 hi (by decide), _, rfl, ite2 (fun e => absurd (of_decide_eq_true e) (by decide)) (fun _ => ?_)⟩
    refine ⟨_, rfl, a, c 17, _, _, _, _, rfl, .own _, ea.ext s1, T.iE 17 hi, T.kit 17 19 hi (by decide), _, rfl, ite2 (fun e => absurd (of_decide_eq_true e) (by decide)) (fun _ => ?_)⟩
    exact ⟨_, rfl, q p H1 s1 e1⟩
  · have ea : ErrAt H a (c 18) [("most", v)] := ea
    refine ⟨_, rfl, a, c 18, _, _, _, _, rfl, .own _, ea.ext s0, T.iE 18 hi, T.kit 18 16 hi (by decide), _, rfl, ite2 (fun e => absurd (of_decide_eq_true e) (by decide)) (fun _ => ?_)⟩
    refine ⟨_, rfl, a, c 18, _, _, _, _, rfl, .own _, ea.ext s0, T.iE 18 hi, T.kit 18 17 hi (by decide), _, rfl, ite2 (fun e => absurd (of_decide_eq_true e) (by decide)) (fun _ => ?_)⟩
    refine ⟨_, rfl, a, c 18, _, _, _, _, rfl, .own _, ea.ext s0, T.iE 18 hi, T.kit 18 18 hi (by decide), _, rfl, ite2 (fun _ => ?_) (fun e => absurd (decide_eq_true rfl) e)⟩
    refine ⟨_, rfl, .inl ⟨rfl, _, SqL.of e0⟩, _, rfl, a, c 18, _, v, rfl, T.iE 18 hi, T.CTooMany.e.hdC, T.CTooMany.e.noF, ea.ext s0, by rw [lookup_put, if_pos rfl], ?_⟩
    refine ⟨p, _, _, rfl, rfl, e0, len_lt (by show 0 ≤ 1000; decide), ?_⟩
    have s1 : Same H (upd H0 p (.lst ([] ++ [v]))) := same_mut s0 n0
    have e1 := upd_same (H := H0) (a := p) (o := .lst ([] ++ [v]))
    skip
    generalize upd H0 p (.lst ([] ++ [v])) = H1 at s1 e1 ⊢
    refine ⟨_, rfl, a, c 18, _, _, _, _, rfl, .own _, ea.ext s1, T.iE 18 hi, T.kit 18 19 hi (by decide), _, rfl, ite2 (fun e => absurd (of_decide_eq_true e) (by decide)) (fun _ => ?_)⟩
    exact ⟨_, rfl, q p H1 s1 e1⟩
  · have ea : ErrAt H a (c 19) [("line", v)] := ea
    refine ⟨_, rfl, a, c 19, _, _, _, _, rfl, .own _, ea.ext s0, T.iE 19 hi, T.kit 19 16 hi (by decide), _, rfl, ite2 (fun e => absurd (of_decide_eq_true e) (by decide)) (fun _ => ?_)⟩
    refine ⟨_, rfl, a, c 19, _, _, _, _, rfl, .own _, ea.ext s0, T.iE 19 hi, T.kit 19 17 hi (by decide), _, rfl, ite2 (fun e => absurd (of_decide_eq_true e) (by decide)) (fun _ => ?_)⟩
    refine ⟨_, rfl, a, c 19, _, _, _, _, rfl, .own _, ea.ext s0, T.iE 19 hi, T.kit 19 18 hi (by decide), _, rfl, ite2 (fun e => absurd (of_decide_eq_true e) (by decide)) (fun _ => ?_)⟩
    refine ⟨_, rfl, a, c 19, _, _, _, _, rfl, .own _, ea.ext s0, T.iE 19 hi, T.kit 19 19 hi (by decide), _, rfl, ite2 (fun _ => ?_) (fun e => absurd (decide_eq_true rfl) e)⟩
    refine ⟨_, rfl, .inl ⟨rfl, _, SqL.of e0⟩, _, rfl, a, c 19, _, v, rfl, T.iE 19 hi, T.CBadText.e.hdC, T.CBadText.e.noF, ea.ext s0, by rw [lookup_put, if_pos rfl], ?_⟩
    refine ⟨p, _, _, rfl, rfl, e0, len_lt (by show 0 ≤ 1000; decide), ?_⟩
    have s1 : Same H (upd H0 p (.lst ([] ++ [v]))) := same_mut s0 n0
    have e1 := upd_same (H := H0) (a := p) (o := .lst ([] ++ [v]))
    skip
    generalize upd H0 p (.lst ([] ++ [v])) = H1 at s1 e1 ⊢
    exact ⟨_, rfl, q p H1 s1 e1⟩
end
end Lw

set_option maxHeartbeats 8000000
namespace Lw
open PySem PySem.Spec PyProof.Rows L2 EF Hn
open PySem.W (Frag keepIn)
def spLaw (K : Frag) : Sp := fun vs H Q _ => ∃ (a : Addr) (ns : List Int), vs = [.ref a] ∧ SqL K H a (ns.map V.int) ∧ ns.length ≤ 63 ∧ ∀ H', Q (.bl true) H'
/-- the errors made so far stand, the j-th of the j-th class, with its field -/
def Es (c : Nat → Addr) (v : Nat → V) (H : Hp) (xs : List V) : Prop := ∀ j, j < xs.length → ∃ a, xs[j]? = some (.ref a) ∧ ErrAt H a (c j) (if j < 16 then [] else [(fld j, v j)])
theorem Es.nil {c : Nat → Addr} {v : Nat → V} {H : Hp} : Es c v H [] := fun j hj => absurd hj (Nat.not_lt_zero _)
theorem Es.same {c : Nat → Addr} {v : Nat → V} {H H' : Hp} {xs : List V} (h : Es c v H xs) (s : Same H H') : Es c v H' xs := fun j hj => by
  obtain ⟨a, e, ea⟩ := h j hj
  exact ⟨a, e, ea.ext s⟩
theorem Es.but {c : Nat → Addr} {v : Nat → V} {b g : Addr} {H H' : Hp} {xs : List V} (h : Es c v H xs) (hb : BagAt H b g) (t : But b g H H') : Es c v H' xs := fun j hj => by
  obtain ⟨a, e, ea⟩ := h j hj
  exact ⟨a, e, ErrAt.but ea hb t⟩
theorem Es.snoc {c : Nat → Addr} {v : Nat → V} {H : Hp} {xs : List V} {a : Addr} (h : Es c v H xs) (ea : ErrAt H a (c xs.length) (if xs.length < 16 then [] else [(fld xs.length, v xs.length)])) : Es c v H (xs ++ [.ref a]) := fun j hj => by
  rw [List.length_append, List.length_singleton] at hj
  by_cases e : j = xs.length
  · subst e
    exact ⟨a, by rw [List.getElem?_append_right (Nat.le_refl _), Nat.sub_self]; rfl, ea⟩
  · obtain ⟨a', e', ea'⟩ := h j (by omega)
    exact ⟨a', by rw [List.getElem?_append_left (by omega)]; exact e', ea'⟩
theorem Es.app {c : Nat → Addr} {v : Nat → V} {H : Hp} {xs ys : List V} (h : Es c v H xs) (h2 : ∀ j, j < ys.length → ∃ a, ys[j]? = some (.ref a) ∧ ErrAt H a (c (xs.length + j)) (if xs.length + j < 16 then [] else [(fld (xs.length + j), v (xs.length + j))])) : Es c v H (xs ++ ys) := fun j hj => by
  rw [List.length_append] at hj
  by_cases e : j < xs.length
  · obtain ⟨a', e', ea'⟩ := h j e
    exact ⟨a', by rw [List.getElem?_append_left e]; exact e', ea'⟩
  · obtain ⟨a', e', ea'⟩ := h2 (j - xs.length) (by omega)
    have z : xs.length + (j - xs.length) = j := by omega
    rw [z] at ea'
    exact ⟨a', by rw [List.getElem?_append_right (by omega)]; exact e', ea'⟩
def flgD (i : Nat) : PyData := .list ((List.range 20).map fun j => .bool (decide (i = j)))
theorem dp_bools {K : Frag} {H : Hp} (f : Nat → Bool) : ∀ l : List Nat, DpAll K H (l.map fun j => V.bl (f j)) (l.map fun j => PyData.bool (f j))
  | [] => .nil
  | j :: l => .cons (.bl _) (dp_bools f l)
theorem dp_flg {K : Frag} {H : Hp} {p : Addr} {i : Nat} (h : SqL K H p (flg i)) : Dp K H (.ref p) (flgD i) := .lst h (dp_bools _ _)
theorem flg_ok : ∀ i, i < 20 → SeqAt.shaped (flgD i) = true ∧ PyData.eqv (flgD i) (flgD i) = true := by decide +kernel
section
variable {P : Program} {w : World} {K : Frag} {mg : Str → Option Value} {base : Heap} {c : Nat → Addr}
theorem ok_law {f : Addr} {fd : FuncData} (F : Fun K "law" "law" slaw f fd) (B : Bl mg) (T : Ers P K mg c)
    (G_law_bag : Kept P w K mg base 1 "_law_bag" ["script"] (spBag K)) (G_law_some : Kept P w K mg base 2 "_law_some" ["bag", "things"] (spSome K)) (G_law_deep : Kept P w K mg base 1 "_law_deep" [] spDeep)
    (G_law_is : Kept P w K mg base 24 "_law_is" ["thing", "due"] (spIs 24)) (G_law_flags : Kept P w K mg base 1 "_law_flags" ["e"] (spFlags c)) (G_law_fields : Kept P w K mg base 1 "_law_fields" ["e"] (spFields c)) :
    FnOk P w K mg base CX0 25 f fd ["script"] (spLaw K) := by
  refine F.ok (N := Nlaw) sclaw (fun vs H Q E h => ?_) (fun cdv A outer s H vs Q E hr h => ?_)
  · obtain ⟨a, ns, rfl, _⟩ := h
    rfl
  obtain ⟨a, ns, rfl, hS, h63, q⟩ := h
  refine ⟨_, (pss_cons (ps_set (i := 1) sclaw.nd rfl (Or.inr rfl) (pe_k G_law_bag (hr.mono (by first | decide | omega)) (by rfl) (pa_cons (pv 0) pa_nil)))
      (pss_cons (ps_set (i := 2) sclaw.nd rfl (Or.inl rfl) (pe_lst (pa_cons (pe_err0 T.CNoWeb.e T.CNoWeb.g T.CNoWeb.k (by rfl)) (pa_cons (pe_err0 T.CNoStanding.e T.CNoStanding.g T.CNoStanding.k (by rfl)) (pa_cons (pe_err0 T.CNoRow.e T.CNoRow.g T.CNoRow.k (by rfl)) (pa_cons (pe_err0 T.CNoShape.e T.CNoShape.g T.CNoShape.k (by rfl)) (pa_cons (pe_err0 T.CNoNumber.e T.CNoNumber.g T.CNoNumber.k (by rfl)) (pa_cons (pe_err0 T.CNoRules.e T.CNoRules.g T.CNoRules.k (by rfl)) (pa_cons (pe_err0 T.CNoPerson.e T.CNoPerson.g T.CNoPerson.k (by rfl)) (pa_cons (pe_err0 T.CNoLetter.e T.CNoLetter.g T.CNoLetter.k (by rfl)) (pa_cons (pe_err0 T.CNoDeed.e T.CNoDeed.g T.CNoDeed.k (by rfl)) (pa_cons (pe_err0 T.CFull.e T.CFull.g T.CFull.k (by rfl)) pa_nil))))))))))))
      (pss_cons (ps_set (i := 2) sclaw.nd rfl (Or.inl rfl) (pe_op op_cat (pv 2) (pe_lst (pa_cons (pe_err0 T.CNothingDone.e T.CNothingDone.g T.CNothingDone.k (by rfl)) (pa_cons (pe_err0 T.CNoNote.e T.CNoNote.g T.CNoNote.k (by rfl)) (pa_cons (pe_err0 T.CNoNotes.e T.CNoNotes.g T.CNoNotes.k (by rfl)) (pa_cons (pe_err0 T.CHeld.e T.CHeld.g T.CHeld.k (by rfl)) (pa_cons (pe_err0 T.CNoCard.e T.CNoCard.g T.CNoCard.k (by rfl)) (pa_cons (pe_err0 T.CNoText.e T.CNoText.g T.CNoText.k (by rfl)) pa_nil)))))))))
      (pss_cons (ps_set (i := 3) sclaw.nd rfl (Or.inr rfl) (pe_lst (pa_cons pe_int (pa_cons (pe_un un_neg pe_int) (pa_cons pe_bl (pa_cons pe_non (pa_cons pe_str (pa_cons (pe_tup (pa_cons pe_int (pa_cons pe_str pa_nil))) (pa_cons (pe_lst (pa_cons pe_int pa_nil)) (pa_cons (pe_disp (pps_cons pe_int pe_int pps_nil) (by rfl) (by rfl) (fun z => by cases z) (by decide)) (pa_cons (pe_tup (pa_cons pe_int (pa_cons pe_int pa_nil))) (pa_cons (pe_op op_pow pe_int pe_int) (pa_cons pe_str (pa_cons (pe_k0 G_law_deep (hr.mono (by first | decide | omega)) (by rfl)) pa_nil))))))))))))))
      (pss_cons (ps_setLc (i := 4) (own := [("turn", 5)]) (g := gName 5) (by rfl) sclaw.nd rfl rfl (sw_true rfl rfl rfl (by decide +kernel)) (pi_range1 (by rfl) B.b_range (pa_cons pe_int pa_nil)) (blkOk_by (own := [("turn", 5)]) (N := Nlaw) (sc := defScope slaw) (by decide +kernel)) (fun _ _ _ _ _ => (pg_name (i := 5) sclaw.nd rfl (Or.inl rfl))) (fun _ _ _ _ _ => pts_nil) (fun _ _ _ _ _ => (pe_k G_law_some (hr.mono (by first | decide | omega)) (by rfl) (pa_cons (pv 1) (pa_cons (pv 3) pa_nil)))))
      (pss_cons (ps_set (i := 2) sclaw.nd rfl (Or.inl rfl) (pe_op op_cat (pv 2) (pe_lst (pa_cons (pe_err1 T.CNotLet.e T.CNotLet.g (by rfl) (hr.mono (by first | decide | omega)) (pe_ix ix_list (pv 4) pe_int (fun _ _ => rfl))) (pa_cons (pe_err1 T.CBadRule.e T.CBadRule.g (by rfl) (hr.mono (by first | decide | omega)) (pe_ix ix_list (pv 4) pe_int (fun _ _ => rfl))) (pa_cons (pe_err1 T.CTooMany.e T.CTooMany.g (by rfl) (hr.mono (by first | decide | omega)) (pe_ix ix_list (pv 4) pe_int (fun _ _ => rfl))) (pa_cons (pe_err1 T.CBadText.e T.CBadText.g (by rfl) (hr.mono (by first | decide | omega)) (pe_ix ix_list (pv 4) pe_int (fun _ _ => rfl))) pa_nil)))))))
      (pss_cons (ps_for PassesOwn.never rfl (pi_enum (by rfl) B.b_enumerate (pa_cons (pv 2) pa_nil)) (pg_tup rfl (pgs_cons (pg_name (i := 6) sclaw.nd rfl (Or.inr rfl)) (pgs_cons (pg_name (i := 7) sclaw.nd rfl (Or.inl rfl)) pgs_nil))) (pss_cons (ps_if (pw_or (pt_cmpR (op_neD hr.units) (pe_k G_law_flags (hr.mono (by first | decide | omega)) (by rfl) (pa_cons (pv 7) pa_nil)) (pe_lc (own := [("at", 8)]) (g := gName 8) (by rfl) sclaw.nd (pi_range1 (by rfl) B.b_range (pa_cons pe_int pa_nil)) (blkOk_by (own := [("at", 8)]) (N := Nlaw) (sc := defScope slaw) (by decide +kernel)) (fun _ _ _ _ _ => (pg_name (i := 8) sclaw.nd rfl (Or.inl rfl))) (fun _ _ _ _ _ => pts_nil) (fun _ _ _ _ _ => (pe_cmpR op_eq (pv 8) (pv 6) (nomark _)))) (nomark _)) (pw_or1 (pt_not (pt_val (pe_callB call_isiE (by rfl) B.b_isinstance (by decide +kernel) (pa_cons (pv 7) (pa_cons (pe_glob (v := .ref _) (by rfl) T.CCardError.g rfl) pa_nil))))))).pt (pss_one (ps_ret pe_bl)) pss_nil)
      (pss_cons (ps_set (i := 9) sclaw.nd rfl (Or.inl rfl) (pe_k G_law_fields (hr.mono (by first | decide | omega)) (by rfl) (pa_cons (pv 7) pa_nil)))
      (pss_cons (ps_if (pw_or (pt_not (pt_val (pe_callB call_isiE (by rfl) B.b_isinstance (by decide +kernel) (pa_cons (pv 7) (pa_cons (pe_bltn (v := .ty "ValueError") (by rfl) B.b_ValueError (by decide +kernel) rfl) pa_nil))))) (pw_or1 (pt_cmpR op_ne (pe_callB call_len_seq (by rfl) B.b_len PySem.boot_len (pa_cons (pv 9) pa_nil)) (pe_callTy call_int1 (by rfl) B.b_int (by decide +kernel) (pa_cons (pe_cmpR op_gt (pv 6) pe_int (nomark _)) pa_nil)) (nomark _)))).pt (pss_one (ps_ret pe_bl)) pss_nil)
      (pss_one (ps_if (pw_and (pt_cmpR op_gt (pv 6) pe_int (nomark _)) (pw_and1 (pt_not (pt_val (pe_k G_law_is (hr.mono (by first | decide | omega)) (by rfl) (pa_cons (pe_ix ix_list (pv 9) pe_int (fun _ _ => rfl)) (pa_cons (pe_ix ix_list (pv 4) (pe_op op_sub (pv 6) pe_int) (fun _ _ => rfl)) pa_nil))))))).pt (pss_one (ps_ret pe_bl)) pss_nil))))))
      (pss_one (ps_ret pe_bl))))))))), ?_⟩
  -- bag = _law_bag(script)
  refine ⟨_, rfl, a, ns, rfl, hS, h63, fun b g H1 s1 nb ng hb => ?_⟩
  intro a0 J0 e0 S0 n0 a1 J1 e1 S1 n1 a2 J2 e2 S2 n2 a3 J3 e3 S3 n3 a4 J4 e4 S4 n4 a5 J5 e5 S5 n5 a6 J6 e6 S6 n6 a7 J7 e7 S7 n7 a8 J8 e8 S8 n8 a9 J9 e9 S9 n9
  refine ⟨len_le (by show 10 ≤ 1000; decide), fun p1 m1 => ?_⟩
  have es1 : ∀ v, Es c v (upd J9 p1 (.lst [.ref a0, .ref a1, .ref a2, .ref a3, .ref a4, .ref a5, .ref a6, .ref a7, .ref a8, .ref a9])) [.ref a0, .ref a1, .ref a2, .ref a3, .ref a4, .ref a5, .ref a6, .ref a7, .ref a8, .ref a9] := fun v => Es.same (fun j hj => match j, hj with
    | 0, _ => ⟨a0, rfl, e0.ext (Same.trans (Same.trans (Same.trans (Same.trans (Same.trans (Same.trans (Same.trans (Same.trans S1 S2) S3) S4) S5) S6) S7) S8) S9)⟩
    | 1, _ => ⟨a1, rfl, e1.ext (Same.trans (Same.trans (Same.trans (Same.trans (Same.trans (Same.trans (Same.trans S2 S3) S4) S5) S6) S7) S8) S9)⟩
    | 2, _ => ⟨a2, rfl, e2.ext (Same.trans (Same.trans (Same.trans (Same.trans (Same.trans (Same.trans S3 S4) S5) S6) S7) S8) S9)⟩
    | 3, _ => ⟨a3, rfl, e3.ext (Same.trans (Same.trans (Same.trans (Same.trans (Same.trans S4 S5) S6) S7) S8) S9)⟩
    | 4, _ => ⟨a4, rfl, e4.ext (Same.trans (Same.trans (Same.trans (Same.trans S5 S6) S7) S8) S9)⟩
    | 5, _ => ⟨a5, rfl, e5.ext (Same.trans (Same.trans (Same.trans S6 S7) S8) S9)⟩
    | 6, _ => ⟨a6, rfl, e6.ext (Same.trans (Same.trans S7 S8) S9)⟩
    | 7, _ => ⟨a7, rfl, e7.ext (Same.trans S8 S9)⟩
    | 8, _ => ⟨a8, rfl, e8.ext S9⟩
    | 9, _ => ⟨a9, rfl, e9.ext (Same.refl _)⟩
    | n + 10, h => absurd h (by show ¬ n + 10 < 10; omega)) (same_new m1)
  have s2 : Same H1 (upd J9 p1 (.lst [.ref a0, .ref a1, .ref a2, .ref a3, .ref a4, .ref a5, .ref a6, .ref a7, .ref a8, .ref a9])) := (Same.trans S0 (Same.trans (Same.trans (Same.trans (Same.trans (Same.trans (Same.trans (Same.trans (Same.trans S1 S2) S3) S4) S5) S6) S7) S8) S9)).trans (same_new m1)
  have u1 := upd_same (H := J9) (a := p1) (o := .lst [.ref a0, .ref a1, .ref a2, .ref a3, .ref a4, .ref a5, .ref a6, .ref a7, .ref a8, .ref a9])
  generalize upd J9 p1 (.lst [.ref a0, .ref a1, .ref a2, .ref a3, .ref a4, .ref a5, .ref a6, .ref a7, .ref a8, .ref a9]) = H2 at es1 s2 u1 ⊢
  -- made = made + [..]
  refine ⟨_, rfl, fun a10 J10 e10 S10 n10 a11 J11 e11 S11 n11 a12 J12 e12 S12 n12 a13 J13 e13 S13 n13 a14 J14 e14 S14 n14 a15 J15 e15 S15 n15 => ⟨len_le (by show 6 ≤ 1000; decide), fun p2 m2 => ⟨p1, p2, _, _, rfl, rfl, same_new m2 _ _ (Same.trans S10 (Same.trans (Same.trans (Same.trans (Same.trans S11 S12) S13) S14) S15) _ _ u1), upd_same, len_le (by show 16 ≤ 1000; decide), fun p3 m3 => ?_⟩⟩⟩
  have s3 : Same H1 (upd (upd J15 p2 (.lst [.ref a10, .ref a11, .ref a12, .ref a13, .ref a14, .ref a15])) p3 (.lst ([.ref a0, .ref a1, .ref a2, .ref a3, .ref a4, .ref a5, .ref a6, .ref a7, .ref a8, .ref a9] ++ [.ref a10, .ref a11, .ref a12, .ref a13, .ref a14, .ref a15]))) := ((s2.trans (Same.trans S10 (Same.trans (Same.trans (Same.trans (Same.trans S11 S12) S13) S14) S15))).trans (same_new m2)).trans (same_new m3)
  have es3 : ∀ v, Es c v (upd (upd J15 p2 (.lst [.ref a10, .ref a11, .ref a12, .ref a13, .ref a14, .ref a15])) p3 (.lst ([.ref a0, .ref a1, .ref a2, .ref a3, .ref a4, .ref a5, .ref a6, .ref a7, .ref a8, .ref a9] ++ [.ref a10, .ref a11, .ref a12, .ref a13, .ref a14, .ref a15]))) ([.ref a0, .ref a1, .ref a2, .ref a3, .ref a4, .ref a5, .ref a6, .ref a7, .ref a8, .ref a9] ++ [.ref a10, .ref a11, .ref a12, .ref a13, .ref a14, .ref a15]) := fun v =>
    (((es1 v).same (Same.trans S10 (Same.trans (Same.trans (Same.trans (Same.trans S11 S12) S13) S14) S15))).app (fun j hj => match j, hj with
    | 0, _ => ⟨a10, rfl, e10.ext (Same.trans (Same.trans (Same.trans (Same.trans S11 S12) S13) S14) S15)⟩
    | 1, _ => ⟨a11, rfl, e11.ext (Same.trans (Same.trans (Same.trans S12 S13) S14) S15)⟩
    | 2, _ => ⟨a12, rfl, e12.ext (Same.trans (Same.trans S13 S14) S15)⟩
    | 3, _ => ⟨a13, rfl, e13.ext (Same.trans S14 S15)⟩
    | 4, _ => ⟨a14, rfl, e14.ext S15⟩
    | 5, _ => ⟨a15, rfl, e15.ext (Same.refl _)⟩
    | n + 6, h => absurd h (by show ¬ n + 6 < 6; omega))).same ((same_new m2).trans (same_new m3))
  have u3 := upd_same (H := upd J15 p2 (.lst [.ref a10, .ref a11, .ref a12, .ref a13, .ref a14, .ref a15])) (a := p3) (o := .lst ([.ref a0, .ref a1, .ref a2, .ref a3, .ref a4, .ref a5, .ref a6, .ref a7, .ref a8, .ref a9] ++ [.ref a10, .ref a11, .ref a12, .ref a13, .ref a14, .ref a15]))
  have hl3 : ([.ref a0, .ref a1, .ref a2, .ref a3, .ref a4, .ref a5, .ref a6, .ref a7, .ref a8, .ref a9] ++ [.ref a10, .ref a11, .ref a12, .ref a13, .ref a14, .ref a15] : List V).length = 16 := rfl
  generalize upd (upd J15 p2 (.lst [.ref a10, .ref a11, .ref a12, .ref a13, .ref a14, .ref a15])) p3 (.lst ([.ref a0, .ref a1, .ref a2, .ref a3, .ref a4, .ref a5, .ref a6, .ref a7, .ref a8, .ref a9] ++ [.ref a10, .ref a11, .ref a12, .ref a13, .ref a14, .ref a15])) = H3 at s3 es3 u3 ⊢
  generalize ([.ref a0, .ref a1, .ref a2, .ref a3, .ref a4, .ref a5, .ref a6, .ref a7, .ref a8, .ref a9] ++ [.ref a10, .ref a11, .ref a12, .ref a13, .ref a14, .ref a15] : List V) = xs16 at es3 u3 hl3
  -- things
  refine ⟨7, rfl, len_le (by show 2 ≤ 1000; decide), fun t1 nt1 => ⟨len_le (by show 1 ≤ 1000; decide), fun l1 nl1 => fun d1 nd1 => ⟨upd_same, [(Sum.inl 2, .int 3)], rfl, by decide, len_le (by show 2 ≤ 1000; decide), fun t2 nt2 =>
    ⟨10, 29, rfl, rfl, ⟨by decide, by decide, by decide⟩, rfl, fun x12 H9 s9 g9 => ⟨len_le (by show 12 ≤ 1000; decide), fun pt npt => ?_⟩⟩⟩⟩⟩
  have hb3 : BagAt H3 b g := hb.same s3
  -- what the things stand on
  obtain ⟨s10, gt1, gl1, gd1, gt2, sH9⟩ : Same H3 H9 ∧ H9 t1 = some (.tup [.int 0, .str "a"]) ∧ H9 l1 = some (.lst [.int 1]) ∧ H9 d1 = some (.dK [(Sum.inl 2, .int 3)]) ∧ H9 t2 = some (.tup [.int 1, .int 2]) ∧ ∀ a, H9 a = none → H3 a = none := by
    have z1 : Same H3 (upd H3 t1 (.tup [.int 0, .str "a"])) := same_new nt1
    have z2 : Same H3 (upd (upd H3 t1 (.tup [.int 0, .str "a"])) l1 (.lst [.int 1])) := z1.trans (same_new nl1)
    have z3 : Same (upd (upd H3 t1 (.tup [.int 0, .str "a"])) l1 (.lst [.int 1])) (upd (upd (upd (upd H3 t1 (.tup [.int 0, .str "a"])) l1 (.lst [.int 1])) d1 (.dK [])) d1 (.dK (mergeK [] [(Sum.inl 2, .int 3)]))) := by
      rw [upd_upd]
      exact same_new nd1
    have z4 := same_new (o := .tup [.int 1, .int 2]) nt2
    have zz := (z2.trans z3).trans (z4.trans s9)
    refine ⟨zz, ?_, ?_, ?_, ?_, fun a ha => zz.free ha⟩
    · exact s9 _ _ (z4 _ _ (z3 _ _ ((same_new nl1) _ _ upd_same)))
    · exact s9 _ _ (z4 _ _ (z3 _ _ upd_same))
    · exact s9 _ _ (z4 _ _ upd_same)
    · exact s9 _ _ upd_same
  have hb9 : BagAt H9 b g := hb3.same s10
  have offl1 : l1 ≠ b ∧ l1 ≠ g := (hb3.same (same_new nt1)).ne nl1
  have g12 : Good (fun a => a ≠ b ∧ a ≠ g) H9 23 x12 := g9.keep (fun _ _ e => e) (fun _ _ e => e) fun a _ na e => ⟨by
    have zz : H3 a = none := by
      cases z : H3 a with
      | none => rfl
      | some o =>
        exfalso
        have y : Same H3 (upd (upd (upd (upd (upd H3 t1 (.tup [.int 0, .str "a"])) l1 (.lst [.int 1])) d1 (.dK [])) d1 (.dK (mergeK [] [(Sum.inl 2, .int 3)]))) t2 (.tup [.int 1, .int 2])) := ((same_new nt1).trans (same_new nl1)).trans ((by
          rw [upd_upd]
          exact same_new nd1 : Same _ _).trans (same_new nt2))
        rw [y _ _ z] at na
        cases na
    exact hb3.ne zz, e⟩
  have gall : ∀ x ∈ ([.int 0, .int (-7), .bl true, .non, .str "word", .ref t1, .ref l1, .ref d1, .ref t2, .int (10 ^ 29), .str "", x12] : List V), Good (fun a => a ≠ b ∧ a ≠ g) H9 23 x := by
    intro x hx
    simp only [List.mem_cons, List.not_mem_nil, or_false] at hx
    have one : ∀ y ∈ ([.int 0, .str "a"] : List V), Good (fun a => a ≠ b ∧ a ≠ g) H9 22 y := fun y hy => by
      simp only [List.mem_cons, List.not_mem_nil, or_false] at hy
      rcases hy with rfl | rfl
      · exact .int _ _
      · exact .str _ _
    have two : ∀ y ∈ ([.int 1, .int 2] : List V), Good (fun a => a ≠ b ∧ a ≠ g) H9 22 y := fun y hy => by
      simp only [List.mem_cons, List.not_mem_nil, or_false] at hy
      rcases hy with rfl | rfl
      · exact .int _ _
      · exact .int _ _
    have three : ∀ y ∈ ([.int 1] : List V), Good (fun a => a ≠ b ∧ a ≠ g) H9 22 y := fun y hy => by
      simp only [List.mem_cons, List.not_mem_nil, or_false] at hy
      rcases hy with rfl
      exact .int _ _
    rcases hx with rfl | rfl | rfl | rfl | rfl | rfl | rfl | rfl | rfl | rfl | rfl | rfl
    · exact .int _ _
    · exact .int _ _
    · exact .bl _ _
    · exact .non _
    · exact .str _ _
    · exact .tup gt1 one (by show 2 ≤ 100; decide)
    · exact .lst gl1 three (by show 1 ≤ 100; decide) offl1
    · exact .dic _ gd1 (by decide) (fun p hp => by
        rcases List.mem_cons.mp hp with rfl | hp
        · rfl
        · cases hp)
    · exact .tup gt2 two (by show 2 ≤ 100; decide)
    · exact .int _ _
    · exact .str _ _
    · exact g12
  have s11 : Same H3 (upd H9 pt (.lst [.int 0, .int (-7), .bl true, .non, .str "word", .ref t1, .ref l1, .ref d1, .ref t2, .int (10 ^ 29), .str "", x12])) := s10.trans (same_new npt)
  have upt := upd_same (H := H9) (a := pt) (o := .lst [.int 0, .int (-7), .bl true, .non, .str "word", .ref t1, .ref l1, .ref d1, .ref t2, .int (10 ^ 29), .str "", x12])
  have gall2 : ∀ x ∈ ([.int 0, .int (-7), .bl true, .non, .str "word", .ref t1, .ref l1, .ref d1, .ref t2, .int (10 ^ 29), .str "", x12] : List V), Good (fun a => a ≠ b ∧ a ≠ g) (upd H9 pt (.lst [.int 0, .int (-7), .bl true, .non, .str "word", .ref t1, .ref l1, .ref d1, .ref t2, .int (10 ^ 29), .str "", x12])) 23 x := fun x hx => (gall x hx).same (same_new npt)
  have offpt : pt ≠ b ∧ pt ≠ g := hb9.ne npt
  have hlt : ([.int 0, .int (-7), .bl true, .non, .str "word", .ref t1, .ref l1, .ref d1, .ref t2, .int (10 ^ 29), .str "", x12] : List V).length = 12 := rfl
  show (fun x H1 => gName 3 x _ H1 _) (V.ref pt) (upd H9 pt (.lst [.int 0, .int (-7), .bl true, .non, .str "word", .ref t1, .ref l1, .ref d1, .ref t2, .int (10 ^ 29), .str "", x12]))
  generalize upd H9 pt (.lst [.int 0, .int (-7), .bl true, .non, .str "word", .ref t1, .ref l1, .ref d1, .ref t2, .int (10 ^ 29), .str "", x12]) = H10 at s11 upt gall2 ⊢
  generalize ([.int 0, .int (-7), .bl true, .non, .str "word", .ref t1, .ref l1, .ref d1, .ref t2, .int (10 ^ 29), .str "", x12] : List V) = ths at upt gall2 hlt
  have hb10 : BagAt H10 b g := hb3.same s11
  -- kept
  refine ⟨4, rfl, by decide, by decide, fun D nD => lc_range (lo := 0) (n := 4) (fun i H' => ∃ acc : List V, acc.length = i ∧ (∀ x ∈ acc, x ∈ ths) ∧ But b g H10 H' ∧ BagAt H' b g ∧ H' D = some (.lst acc))
    ⟨[], rfl, (fun x hx => absurd hx List.not_mem_nil), But.of (same_new nD), hb10.same (same_new nD), upd_same⟩ ?_ ?_⟩
  · rintro i H' hi ⟨acc, hacc, hg', bt', hb', hD⟩
    have hDb : D ≠ b ∧ D ≠ g := hb10.ne nD
    refine ⟨rfl, ?_⟩
    refine ⟨_, rfl, _, rfl, b, g, pt, ths, rfl, hb', offpt.1, offpt.2, .inl (SqL.of (bt' _ _ offpt.1 offpt.2 upt)), by omega, by omega, fun x H'' bt2 hb2 hx => ?_⟩
    have hD2 : H'' D = some (.lst acc) := bt2 _ _ hDb.1 hDb.2 hD
    refine ⟨acc, hD2, len_lt (by omega), acc ++ [x], by rw [List.length_append, hacc]; rfl, fun y hy => ?_, fun a o h1 h2 e => ?_, ?_, upd_same⟩
    · rcases List.mem_append.mp hy with hy | hy
      · exact hg' y hy
      · rcases List.mem_cons.mp hy with rfl | hy
        · exact hx
        · cases hy
    · rw [upd_ne (ne_of_none e nD)]
      exact bt2 _ _ h1 h2 (bt' _ _ h1 h2 e)
    · obtain ⟨nbg, z, cc, gs, al, h1, h2, r⟩ := hb2
      exact ⟨nbg, z, cc, gs, al, by rw [upd_ne hDb.1.symm]; exact h1, by rw [upd_ne hDb.2.symm]; exact h2, r⟩
  rintro H11 ⟨acc, hacc, hmem, bt11, hb11, hD11⟩
  obtain ⟨v0, v1, v2, v3, rfl⟩ : ∃ v0 v1 v2 v3, acc = [v0, v1, v2, v3] := by
    match acc, hacc with
    | [v0, v1, v2, v3], _ => exact ⟨v0, v1, v2, v3, rfl⟩
  have gk : ∀ x ∈ ([v0, v1, v2, v3] : List V), Good (fun a => a ≠ b ∧ a ≠ g) H11 23 x := fun x hx => (gall2 x (hmem x hx)).but hb10 bt11 fun _ h => h
  have es11 : ∀ v, Es c v H11 xs16 := fun v => ((es3 v).same s11).but hb10 bt11
  have offp3 : p3 ≠ b ∧ p3 ≠ g := by
    constructor
    · rintro rfl
      obtain ⟨nbg, z, cc, gs, al, h1, h2, r⟩ := hb3
      rw [u3] at h1
      have q := Option.some.inj h1
      have q2 := congrArg (fun o : HO => match o with | .lst l => l.length | _ => 0) q
      rw [show (match (HO.lst xs16) with | .lst l => l.length | _ => 0) = 16 from hl3] at q2
      cases q2
    · rintro rfl
      obtain ⟨nbg, z, cc, gs, al, h1, h2, r⟩ := hb3
      rw [u3] at h2
      have q := Option.some.inj h2
      have q2 : xs16 = gs.map V.int := by
        injection q
      obtain ⟨a', e', _⟩ := es3 (fun _ => .non) 0 (by omega)
      rw [q2, List.getElem?_map] at e'
      cases z : gs[0]? with
      | none => rw [z] at e'; cases e'
      | some n => rw [z] at e'; cases e'
  have u11 : H11 p3 = some (.lst xs16) := bt11 _ _ offp3.1 offp3.2 (s11 _ _ u3)
  -- made = made + [..]
  refine ⟨_, rfl, _, rfl, D, _, 0, v0, rfl, rfl, SqL.of ((Same.refl _) _ _ hD11), rfl, fun a16 J16 e16 S16 n16 => ⟨_, rfl, D, _, 1, v1, rfl, rfl, SqL.of (S16 _ _ hD11), rfl, fun a17 J17 e17 S17 n17 => ⟨_, rfl, D, _, 2, v2, rfl, rfl, SqL.of ((Same.trans S16 S17) _ _ hD11), rfl, fun a18 J18 e18 S18 n18 => ⟨_, rfl, D, _, 3, v3, rfl, rfl, SqL.of ((Same.trans (Same.trans S16 S17) S18) _ _ hD11), rfl, fun a19 J19 e19 S19 n19 => ⟨len_le (by show 4 ≤ 1000; decide), fun p5 m5 => ⟨p3, p5, _, _, rfl, rfl, same_new m5 _ _ ((Same.trans (Same.trans (Same.trans S16 S17) S18) S19) _ _ u11), upd_same, by rw [hl3]; exact len_le (by show 20 ≤ 1000; decide), fun p6 m6 => ?_⟩⟩⟩⟩⟩⟩
  have s20 : Same H11 (upd (upd J19 p5 (.lst [.ref a16, .ref a17, .ref a18, .ref a19])) p6 (.lst (xs16 ++ [.ref a16, .ref a17, .ref a18, .ref a19]))) := ((Same.trans (Same.trans (Same.trans S16 S17) S18) S19).trans (same_new m5)).trans (same_new m6)
  have es20 : Es c (fun j => if j = 16 then v0 else if j = 17 then v1 else if j = 18 then v2 else v3) (upd (upd J19 p5 (.lst [.ref a16, .ref a17, .ref a18, .ref a19])) p6 (.lst (xs16 ++ [.ref a16, .ref a17, .ref a18, .ref a19]))) (xs16 ++ [.ref a16, .ref a17, .ref a18, .ref a19]) :=
    (((es11 _).same (Same.trans (Same.trans (Same.trans S16 S17) S18) S19)).app (fun j hj => by
      rw [hl3]
      exact match j, hj with
      | 0, _ => ⟨a16, rfl, e16.ext (Same.trans (Same.trans S17 S18) S19)⟩
      | 1, _ => ⟨a17, rfl, e17.ext (Same.trans S18 S19)⟩
      | 2, _ => ⟨a18, rfl, e18.ext S19⟩
      | 3, _ => ⟨a19, rfl, e19⟩
      | n + 4, h => absurd h (by show ¬ n + 4 < 4; omega))).same ((same_new m5).trans (same_new m6))
  have u20 := upd_same (H := upd J19 p5 (.lst [.ref a16, .ref a17, .ref a18, .ref a19])) (a := p6) (o := .lst (xs16 ++ [.ref a16, .ref a17, .ref a18, .ref a19]))
  have hl20 : (xs16 ++ [.ref a16, .ref a17, .ref a18, .ref a19] : List V).length = 20 := by rw [List.length_append, hl3]; rfl
  have hD20 := s20 _ _ hD11
  have gk20 : ∀ x ∈ ([v0, v1, v2, v3] : List V), Good (fun a => a ≠ b ∧ a ≠ g) (upd (upd J19 p5 (.lst [.ref a16, .ref a17, .ref a18, .ref a19])) p6 (.lst (xs16 ++ [.ref a16, .ref a17, .ref a18, .ref a19]))) 23 x := fun x hx => (gk x hx).same s20
  generalize (upd (upd J19 p5 (.lst [.ref a16, .ref a17, .ref a18, .ref a19])) p6 (.lst (xs16 ++ [.ref a16, .ref a17, .ref a18, .ref a19]))) = H20 at es20 u20 hD20 gk20 ⊢
  generalize (xs16 ++ [.ref a16, .ref a17, .ref a18, .ref a19] : List V) = xs at es20 u20 hl20
  -- the loop
  refine ⟨_, rfl, p6, xs, rfl, SqL.of u20, for_enumL (K := K) (a := p6) (xs := xs) (fun i σ H' => ∃ y6 y7 y9, σ = [some (.ref a), some (.ref b), some (.ref p6), some (.ref pt), some (.ref D), none, y6, y7, none, y9] ∧ Same H20 H')
    ⟨none, none, none, rfl, Same.refl _⟩ (fun i σ H' ⟨_, _, _, _, sm⟩ => SqL.of (sm _ _ u20)) ?_ ?_⟩
  · rintro i x Tp σ H' hx ⟨y6, y7, y9, rfl, sm⟩ nT
    have hi : i < 20 := by
      rcases Nat.lt_or_ge i xs.length with h | h
      · omega
      · rw [List.getElem?_eq_none_iff.mpr h] at hx
        cases hx
    obtain ⟨er, exr, ear⟩ := es20 i (by omega)
    obtain rfl : x = .ref er := Option.some.inj (hx.symm.trans exr)
    have sT : Same H20 (upd H' Tp (.tup [.int (i : Nat), .ref er])) := sm.trans (same_new nT)
    refine ⟨Tp, _, rfl, SqT.of upd_same, rfl, _, _, rfl, _, _, rfl, rfl, ?_⟩
    generalize upd H' Tp (.tup [.int (i : Nat), .ref er]) = H21 at sT ⊢
    -- the flags
    refine ⟨_, rfl, er, i, _, rfl, hi, ear.ext sT, fun pf H22 s22 uf => ?_⟩
    refine ⟨20, rfl, by decide, by decide, fun D2 nD2 => lc_range (lo := 0) (n := 20) (fun j H' => Same H22 H' ∧ H' D2 = some (.lst ((flg i).take j))) ⟨same_new nD2, upd_same⟩ ?_ ?_⟩
    · rintro j H3' hj ⟨sm3, hD3⟩
      refine ⟨rfl, ?_⟩
      refine ⟨_, rfl, _, rfl, rfl, (flg i).take j, hD3, len_lt (by rw [List.length_take]; omega), same_mut sm3 nD2, ?_⟩
      rw [upd_same]
      have ej : (flg i)[j]? = some (.bl (decide (i = j))) := by
        unfold flg
        rw [List.getElem?_map, List.getElem?_range hj]
        rfl
      rw [List.take_add_one, ej]
      have ed : decide (V.int (0 + (j : Int)) = V.int (i : Int)) = decide (i = j) := by
        apply decide_eq_decide.mpr
        constructor
        · intro z
          injection z with z
          omega
        · rintro rfl
          rw [Int.zero_add]
      show some (HO.lst ((flg i).take j ++ [.bl (decide (V.int (0 + (j : Int)) = V.int (i : Int)))])) = _
      rw [ed]
      rfl
    rintro H23 ⟨s23, hD23⟩
    rw [List.take_of_length_le (by unfold flg; rw [List.length_map, List.length_range]; omega)] at hD23
    obtain ⟨f1, f2⟩ := flg_ok i hi
    refine ⟨flgD i, flgD i, dp_flg (SqL.of (s23 _ _ uf)), dp_flg (SqL.of hD23), f1, f1, ?_⟩
    rw [f2]
    have s23' : Same H20 H23 := (sT.trans s22).trans s23
    refine ⟨_, rfl, ?_⟩
    refine ⟨_, rfl, er, c i, _, _, _, true, rfl, .own _, ear.ext s23', T.iE i hi, T.kitB i hi, _, rfl, ?_⟩
    -- told
    refine ⟨_, rfl, er, i, _, rfl, hi, ear.ext s23', fun ptd H24 s24 u24 => ?_⟩
    have s24' : Same H20 H24 := s23'.trans s24
    by_cases h16 : i < 16
    · rw [if_pos h16] at u24
      have d15 : decide ((15 : Int) < (i : Int)) = false := decide_eq_false (by omega)
      refine ⟨_, rfl, er, c i, _, _, _, true, rfl, .ty _, ear.ext s24', T.iE i hi, T.kitV i hi, _, rfl, ?_⟩
      refine ⟨_, rfl, ptd, _, rfl, .inl (SqL.of u24), _, rfl, _, _, rfl, rfl, .inr ⟨_, rfl, rfl, _, rfl, ?_⟩⟩
      rw [d15]
      refine ⟨_, rfl, _, _, rfl, rfl, _, rfl, ?_⟩
      rw [d15]
      exact ⟨_, _, _, rfl, s24'⟩
    · rw [if_neg h16] at u24
      have d15 : decide ((15 : Int) < (i : Int)) = true := decide_eq_true (by omega)
      refine ⟨_, rfl, er, c i, _, _, _, true, rfl, .ty _, ear.ext s24', T.iE i hi, T.kitV i hi, _, rfl, ?_⟩
      refine ⟨_, rfl, ptd, _, rfl, .inl (SqL.of u24), _, rfl, _, _, rfl, rfl, .inr ⟨_, rfl, rfl, _, rfl, ?_⟩⟩
      rw [d15]
      refine ⟨_, rfl, _, _, rfl, rfl, _, rfl, ?_⟩
      rw [d15]
      obtain ⟨x, hx, ex, ux⟩ : ∃ x, x ∈ ([v0, v1, v2, v3] : List V) ∧ atI ([v0, v1, v2, v3] : List V) ((i : Int) - 16) = some x ∧ H24 ptd = some (.lst [x]) := by
        have h4 : i = 16 ∨ i = 17 ∨ i = 18 ∨ i = 19 := by omega
        rcases h4 with rfl | rfl | rfl | rfl
        · exact ⟨v0, by simp, rfl, u24⟩
        · exact ⟨v1, by simp, rfl, u24⟩
        · exact ⟨v2, by simp, rfl, u24⟩
        · exact ⟨v3, by simp, rfl, u24⟩
      refine ⟨_, rfl, ptd, _, 0, x, rfl, rfl, SqL.of ux, at0, _, rfl, _, rfl, _, _, rfl, rfl, D, _, _, x, rfl, rfl, SqL.of (s24' _ _ hD20), ex, _, x, 23, rfl, by decide, (gk20 x hx).same s24', fun H25 s25 => ?_⟩
      exact ⟨_, rfl, _, _, _, rfl, s24'.trans s25⟩
  · rintro σ H' ⟨y6, y7, y9, rfl, sm⟩
    exact q H'
end
end Lw

set_option maxHeartbeats 8000000
namespace Lw
open PySem PySem.Spec PyProof.Rows L2 EF Hn
open PySem.W (Frag keepIn)
theorem fok_index : FOk "index" := ⟨rfl, rfl, rfl, rfl, by decide, by decide, fun _ _ _ _ _ _ _ _ _ _ _ _ _ => rfl⟩
theorem fok_part : FOk "part" := ⟨rfl, rfl, rfl, rfl, by decide, by decide, fun _ _ _ _ _ _ _ _ _ _ _ _ _ => rfl⟩
theorem fok_most : FOk "most" := ⟨rfl, rfl, rfl, rfl, by decide, by decide, fun _ _ _ _ _ _ _ _ _ _ _ _ _ => rfl⟩
theorem fok_line : FOk "line" := ⟨rfl, rfl, rfl, rfl, by decide, by decide, fun _ _ _ _ _ _ _ _ _ _ _ _ _ => rfl⟩
/-- what is asked of each class, as a reckoning -/
def isEB (K : Frag) (C : Addr) : Bool :=
  (PySem.W.clsIn K C).isSome && (PySem.W.findIn K (.ref C) "__getattribute__" == some (some (.builtin "BaseException.__getattribute__"))) && (PySem.W.findIn K (.ref C) "__getattr__" == some none) &&
  (PySem.W.subIn K (.ref C) (.type "BaseException") == some true) && (PySem.W.findIn K (.ref C) "__class__" == some (some (.builtin "object.__class__"))) &&
  (PySem.W.specialIn K (.builtin "object.__class__") "__get__" == some (some (.builtin "getset_descriptor.__get__"))) && (PySem.W.takesIn K (.builtin "object.__class__") == some true) && (PySem.W.mroIn K C (.type "object") == some true)
theorem isE_of {K : Frag} {C : Addr} (h : isEB K C = true) : IsE K C := by
  unfold isEB at h
  simp only [Bool.and_eq_true] at h
  obtain ⟨⟨⟨⟨⟨⟨⟨h1, h2⟩, h3⟩, h4⟩, h5⟩, h6⟩, h7⟩, h8⟩ := h
  exact ⟨h1, eq_of_beq h2, eq_of_beq h3, eq_of_beq h4, eq_of_beq h5, eq_of_beq h6, eq_of_beq h7, eq_of_beq h8⟩
def kitsB (K : Frag) (cs : List Addr) (CB : Addr) : Bool := (List.range 20).all fun i => isEB K (cs.getD i 0) && (PySem.W.kitOne K (.ref (cs.getD i 0)) (.ref CB) == some true) && (PySem.W.kitOne K (.ref (cs.getD i 0)) (.type "ValueError") == some true) &&
  (List.range 20).all fun j => PySem.W.kitOne K (.ref (cs.getD i 0)) (.ref (cs.getD j 0)) == some (decide (i = j))
theorem kits_of {K : Frag} {cs : List Addr} {CB : Addr} (h : kitsB K cs CB = true) {i : Nat} (hi : i < 20) : IsE K (cs.getD i 0) ∧ PySem.W.kitOne K (.ref (cs.getD i 0)) (.ref CB) = some true ∧ PySem.W.kitOne K (.ref (cs.getD i 0)) (.type "ValueError") = some true ∧
    ∀ j, j < 20 → PySem.W.kitOne K (.ref (cs.getD i 0)) (.ref (cs.getD j 0)) = some (decide (i = j)) := by
  have z := List.all_eq_true.mp h i (List.mem_range.mpr hi)
  simp only [Bool.and_eq_true] at z
  obtain ⟨⟨⟨h1, h2⟩, h3⟩, h4⟩ := z
  exact ⟨isE_of h1, eq_of_beq h2, eq_of_beq h3, fun j hj => eq_of_beq (List.all_eq_true.mp h4 j (List.mem_range.mpr hj))⟩
def er0B (K : Frag) (C : Addr) : Bool := PySem.W.excIn K C PySem.HandSPX.veTail "ValueError.__new__" && keepIn K (.ref C)
theorem er0_of {K : Frag} {mg : Str → Option Value} {x : Str} {C : Addr} (g : mg x = some (.ref C)) (h : er0B K C = true) : Er0 K mg x C := by
  unfold er0B at h
  simp only [Bool.and_eq_true] at h
  exact ⟨g, h.1, h.2⟩
/-- the facts of a class with a field, as a reckoning -/
def er1B (K : Frag) (C : Addr) (f : Str) : Bool :=
  (PySem.W.findIn K (.ref C) "__setattr__" == some (some (.builtin "object.__setattr__"))) && (PySem.W.findIn K (.ref C) "__getattribute__" == some (some (.builtin "BaseException.__getattribute__"))) && (PySem.W.findIn K (.ref C) "__getattr__" == some none) &&
  (PySem.W.findIn K (.ref C) f == some none) && (PySem.W.subIn K (.ref C) (.type "BaseException") == some true) && (PySem.W.subIn K (.ref C) (.type "ValueError") == some true) && (PySem.W.mroIn K C (.ref C) == some true) &&
  (PySem.W.typeIn K (.ref C) == some (.type "type")) && PySem.W.hasDictIn K C && keepIn K (.ref C) && (PySem.W.ks_superIn K C C "__init__" == some (some (.builtin "ValueError.__init__"))) && (PySem.W.nsIn K cStatics "thirdparty.any" == some none)
theorem er1_of {P : Program} {K : Frag} {mg : Str → Option Value} {x f : Str} {C fI : Addr} (fok : FOk f) (g : mg x = some (.ref C)) (ns : mg "super" = none) (nt : (P.main.scope.names.lookup ("super" : Str)).isSome = false) (h : er1B K C f = true)
    {nm q : Str} {N : Addr} {bs bm : List Value} {sn : List Str} {sub : List Value} {ab : Bool} {col : Option Bool} {dd : Option Addr} {k0 k1 k2 k3 k5 : Option Value}
    (xL : K.lookup C = some (excClassObj nm q C N bs bm true sn sub ab col dd k0 k1 k2 k3 k5 "ValueError.__new__")) (hbm : PySem.HandSPX.refsVE bm = true)
    (iC : PySem.W.findIn K (.ref C) "__init__" = some (some (.ref fI))) (tI : PySem.W.typeIn K (.ref fI) = some (.type "function"))
    {oc dc pm ct qt : Value} {od an : Option Addr} {osl : Array (Option Value)} {qual tx : Str} {cda cc : Addr} {p1 p2 q1 q2 q3 q4 q5 q6 q7 q8 q9 q10 : Pos}
    (lI : K.lookup fI = some ⟨oc, od, .func (PySem.W.ksFn "__init__" qual (eA f p1 p2) (eB f tx q1 q2 q3 q4 q5 q6 q7 q8 q9 q10) (eS f) .none qt dc pm an (.ref cda) ct cc), osl⟩)
    (cI : PySem.W.codeIn K (.ref cda) qual = true) (hl : (q3.endLine == q5.line) = true)
    {c1 : Value} {c2 : Option Addr} {vs : Array Value} {c3 : Array (Option Value)} {file : Str} {tf : Tok} (lda : K.lookup cda = some ⟨c1, c2, .fields vs, c3⟩) (hvs : vs[2]? = some (.str file tf)) (hf : ((P.main.file : Str) == file) = true)
    {e1 : Value} {e2 : Option Addr} {e3 : Array (Option Value)} (lcc : K.lookup cc = some ⟨e1, e2, .cell (some (.ref C)), e3⟩) : Er1 P K mg x f C := by
  unfold er1B at h
  simp only [Bool.and_eq_true] at h
  obtain ⟨⟨⟨⟨⟨⟨⟨⟨⟨⟨⟨h1, h2⟩, h3⟩, h4⟩, h5⟩, h6⟩, h7⟩, h8⟩, h9⟩, h10⟩, h11⟩, h12⟩ := h
  exact ⟨g, ⟨fok, ⟨nm, q, N, bs, bm, sn, sub, ab, col, dd, k0, k1, k2, k3, k5, xL, hbm⟩, eq_of_beq h1, eq_of_beq h2, eq_of_beq h3, eq_of_beq h4, eq_of_beq h5, eq_of_beq h6, eq_of_beq h7, eq_of_beq h8, h9, h10, ns, nt, eq_of_beq h11, eq_of_beq h12,
    ⟨fI, iC, tI, oc, dc, pm, ct, qt, od, an, osl, qual, tx, cda, cc, p1, p2, q1, q2, q3, q4, q5, q6, q7, q8, q9, q10, lI, cI, hl, ⟨c1, c2, vs, c3, file, tf, lda, hvs, hf⟩, ⟨e1, e2, e3, lcc⟩⟩⟩⟩
/-- a def of the text, as the written part tells it -/
theorem dfn_mk {K : Frag} {h : Heap} {mg : Str → Option Value} {x : Str} {st : Stmt} {ps : List Str} {f : Addr} {od an : Option Addr} {sl : Array (Option Value)} {oc kV dc pm cd ct : Value} (X : K.In h) (G : h.Ns mainGlobals mg)
    (a : PySem.W.nsIn K mainGlobals x = some (some (.ref f))) (l : K.lookup f = some ⟨oc, od, .func (PySem.W.fnOf x x (defArgs st) (defBody st) (defScope st) .none kV dc pm an cd ct), sl⟩) (c : PySem.W.codeIn K cd x = true) (k : keepIn K (.ref f) = true)
    (hb : ∀ (kV doc pm : Value) (an : Option Addr) (cdv ct : Value) (us : List Value), us.length = ps.length → bindArgs (PySem.W.fnOf x x (defArgs st) (defBody st) (defScope st) .none kV doc pm an cdv ct) ⟨us, []⟩ = pure (ps.zip us)) : Dfn K mg x st ps :=
  have F := fun_mk (st := st) l c k
  ⟨f, _, F, F.binds hb, PySem.W.mg_of X G a⟩
theorem all_mk {l : PySem.W.OpenLaw} {w : World} {K : Frag} {h : Heap} {mg : Str → Option Value} {fa fl C0 C1 C2 C3 C4 C5 C6 C7 C8 C9 C10 C11 C12 C13 C14 C15 C16 C17 C18 C19 C20 : Addr} {od an : Option Addr} {sl : Array (Option Value)} {oc kV dc pm cd ct : Value} (X : K.In h) (G : h.Ns mainGlobals mg) (hfa : mg "law" = some (.ref fa))
    (al : PySem.W.nsIn K mainGlobals "law" = some (some (.ref fl))) (ll : K.lookup fl = some ⟨oc, od, .func (PySem.W.fnOf "law" "law" (defArgs slaw) (defBody slaw) (defScope slaw) .none kV dc pm an cd ct), sl⟩) (cl : PySem.W.codeIn K cd "law" = true) (kl : keepIn K (.ref fl) = true)
    (zlen : PySem.W.nsIn K mainGlobals "len" = some none)
    (zint : PySem.W.nsIn K mainGlobals "int" = some none)
    (zabs : PySem.W.nsIn K mainGlobals "abs" = some none)
    (zsum : PySem.W.nsIn K mainGlobals "sum" = some none)
    (zisinstance : PySem.W.nsIn K mainGlobals "isinstance" = some none)
    (zall : PySem.W.nsIn K mainGlobals "all" = some none)
    (zany : PySem.W.nsIn K mainGlobals "any" = some none)
    (zrange : PySem.W.nsIn K mainGlobals "range" = some none)
    (zenumerate : PySem.W.nsIn K mainGlobals "enumerate" = some none)
    (zzip : PySem.W.nsIn K mainGlobals "zip" = some none)
    (ztuple : PySem.W.nsIn K mainGlobals "tuple" = some none)
    (zlist : PySem.W.nsIn K mainGlobals "list" = some none)
    (zbool : PySem.W.nsIn K mainGlobals "bool" = some none)
    (zsorted : PySem.W.nsIn K mainGlobals "sorted" = some none)
    (zset : PySem.W.nsIn K mainGlobals "set" = some none)
    (zValueError : PySem.W.nsIn K mainGlobals "ValueError" = some none)
    (zsuper : PySem.W.nsIn K mainGlobals "super" = some none)
    (D_law_bag : Dfn K mg "_law_bag" s_law_bag ["script"])
    (D_law_pick : Dfn K mg "_law_pick" s_law_pick ["bag", "many"])
    (D_law_some : Dfn K mg "_law_some" s_law_some ["bag", "things"])
    (D_law_is : Dfn K mg "_law_is" s_law_is ["thing", "due"])
    (D_law_deep : Dfn K mg "_law_deep" s_law_deep [])
    (D_law_flags : Dfn K mg "_law_flags" s_law_flags ["e"])
    (D_law_fields : Dfn K mg "_law_fields" s_law_fields ["e"])
    (CNoWeb : Er0 K mg "NoWeb" C0)
    (CNoStanding : Er0 K mg "NoStanding" C1)
    (CNoRow : Er0 K mg "NoRow" C2)
    (CNoShape : Er0 K mg "NoShape" C3)
    (CNoNumber : Er0 K mg "NoNumber" C4)
    (CNoRules : Er0 K mg "NoRules" C5)
    (CNoPerson : Er0 K mg "NoPerson" C6)
    (CNoLetter : Er0 K mg "NoLetter" C7)
    (CNoDeed : Er0 K mg "NoDeed" C8)
    (CFull : Er0 K mg "Full" C9)
    (CNothingDone : Er0 K mg "NothingDone" C10)
    (CNoNote : Er0 K mg "NoNote" C11)
    (CNoNotes : Er0 K mg "NoNotes" C12)
    (CHeld : Er0 K mg "Held" C13)
    (CNoCard : Er0 K mg "NoCard" C14)
    (CNoText : Er0 K mg "NoText" C15)
    (CNotLet : Er1 l.prog K mg "NotLet" "index" C16)
    (CBadRule : Er1 l.prog K mg "BadRule" "part" C17)
    (CTooMany : Er1 l.prog K mg "TooMany" "most" C18)
    (CBadText : Er1 l.prog K mg "BadText" "line" C19)
    (CCardError : Er0 K mg "CardError" C20)
    (kt : kitsB K [C0, C1, C2, C3, C4, C5, C6, C7, C8, C9, C10, C11, C12, C13, C14, C15, C16, C17, C18, C19, C20] C20 = true) :
    ∃ fd : FuncData, (∀ (s : Shared) (v : Value), BindsTo s fd ⟨[v], []⟩ [("script", v)]) ∧ ∀ base : Heap, K.In base → base.Ns mainGlobals mg → FnOk l.prog w K mg base CX0 25 fa fd ["script"] (spLaw K) := by
  have e := hfa.symm.trans (PySem.W.mg_of X G al)
  cases e
  have F := fun_mk (st := slaw) ll cl kl
  have B : Bl mg := ⟨PySem.W.mg_none_of X G zlen, PySem.W.mg_none_of X G zint, PySem.W.mg_none_of X G zabs, PySem.W.mg_none_of X G zsum, PySem.W.mg_none_of X G zisinstance, PySem.W.mg_none_of X G zall, PySem.W.mg_none_of X G zany, PySem.W.mg_none_of X G zrange, PySem.W.mg_none_of X G zenumerate, PySem.W.mg_none_of X G zzip, PySem.W.mg_none_of X G ztuple, PySem.W.mg_none_of X G zlist, PySem.W.mg_none_of X G zbool, PySem.W.mg_none_of X G zsorted, PySem.W.mg_none_of X G zset, PySem.W.mg_none_of X G zValueError⟩
  have T : Ers l.prog K mg (fun i => ([C0, C1, C2, C3, C4, C5, C6, C7, C8, C9, C10, C11, C12, C13, C14, C15, C16, C17, C18, C19, C20] : List Addr).getD i 0) := ⟨CNoWeb, CNoStanding, CNoRow, CNoShape, CNoNumber, CNoRules, CNoPerson, CNoLetter, CNoDeed, CFull, CNothingDone, CNoNote, CNoNotes, CHeld, CNoCard, CNoText, CNotLet, CBadRule, CTooMany, CBadText, fun i hi => (kits_of kt hi).1, fun i j hi hj => (kits_of kt hi).2.2.2 j hj, CCardError, fun i hi => (kits_of kt hi).2.1, fun i hi => (kits_of kt hi).2.2.1⟩
  refine ⟨PySem.W.fnOf "law" "law" (defArgs slaw) (defBody slaw) (defScope slaw) .none kV dc pm an cd ct, fun s v => .of_eq rfl, fun base _ _ => ?_⟩
  exact ok_law F B T (k_bag B D_law_bag) (k_some B D_law_some (k_pick B D_law_pick)) (k_deep B D_law_deep) (k_is B D_law_is 24) (k_flags B D_law_flags T) (k_fields B D_law_fields T)
end Lw
open PySem PySem.W PyProof.Rows
set_option maxHeartbeats 0 in
theorem PySem.Challenge.cw_stillfound_k00_errors_and_their_fields_holds : PySem.Challenge.rw_stillfound_k00_errors_and_their_fields.Holds := by
  w_on; o_law; k_head; (case hw => w_witness2)
  k_fill
  refine L2.walk_of (l := PySem.Challenge.rw_stillfound_k00_errors_and_their_fields) (n := 63) (k := 25) (x := "script") (CX := fun _ => L2.CX0) (sp := fun w => Lw.spLaw _) rfl (by decide) rfl ⟨rfl, by decide, by decide⟩ (fun w h Y => PySem.W.kIn_of Y) ?F (fun _ _ a ns hl _ hS => ⟨a, ns, rfl, hS, hl, fun _ => rfl⟩) (fun _ _ _ _ _ h => h)
  case F =>
    intro w mg fa h KX G hmg
    refine' Lw.all_mk KX G hmg ?al ?ll ?cl ?kl ?zlen ?zint ?zabs ?zsum ?zisinstance ?zall ?zany ?zrange ?zenumerate ?zzip ?ztuple ?zlist ?zbool ?zsorted ?zset ?zValueError ?zsuper ?D_law_bag ?D_law_pick ?D_law_some ?D_law_is ?D_law_deep ?D_law_flags ?D_law_fields ?CNoWeb ?CNoStanding ?CNoRow ?CNoShape ?CNoNumber ?CNoRules ?CNoPerson ?CNoLetter ?CNoDeed ?CFull ?CNothingDone ?CNoNote ?CNoNotes ?CHeld ?CNoCard ?CNoText ?CNotLet ?CBadRule ?CTooMany ?CBadText ?CCardError ?kt
    (case al => k_is)
    (case ll => k_is)
    (case cl => k_is)
    (case kl => k_is)
    (case zlen => k_is)
    (case zint => k_is)
    (case zabs => k_is)
    (case zsum => k_is)
    (case zisinstance => k_is)
    (case zall => k_is)
    (case zany => k_is)
    (case zrange => k_is)
    (case zenumerate => k_is)
    (case zzip => k_is)
    (case ztuple => k_is)
    (case zlist => k_is)
    (case zbool => k_is)
    (case zsorted => k_is)
    (case zset => k_is)
    (case zValueError => k_is)
    (case zsuper => k_is)
    (case D_law_bag => refine' Lw.dfn_mk KX G ?a ?l ?c ?k (fun _ _ _ _ _ _ us hl => match us, hl with | [_], _ => rfl); (case a => k_is); (case l => k_is); (case c => k_is); (case k => k_is))
    (case D_law_pick => refine' Lw.dfn_mk KX G ?a ?l ?c ?k (fun _ _ _ _ _ _ us hl => match us, hl with | [_, _], _ => rfl); (case a => k_is); (case l => k_is); (case c => k_is); (case k => k_is))
    (case D_law_some => refine' Lw.dfn_mk KX G ?a ?l ?c ?k (fun _ _ _ _ _ _ us hl => match us, hl with | [_, _], _ => rfl); (case a => k_is); (case l => k_is); (case c => k_is); (case k => k_is))
    (case D_law_is => refine' Lw.dfn_mk KX G ?a ?l ?c ?k (fun _ _ _ _ _ _ us hl => match us, hl with | [_, _], _ => rfl); (case a => k_is); (case l => k_is); (case c => k_is); (case k => k_is))
    (case D_law_deep => refine' Lw.dfn_mk KX G ?a ?l ?c ?k (fun _ _ _ _ _ _ us hl => match us, hl with | [], _ => rfl); (case a => k_is); (case l => k_is); (case c => k_is); (case k => k_is))
    (case D_law_flags => refine' Lw.dfn_mk KX G ?a ?l ?c ?k (fun _ _ _ _ _ _ us hl => match us, hl with | [_], _ => rfl); (case a => k_is); (case l => k_is); (case c => k_is); (case k => k_is))
    (case D_law_fields => refine' Lw.dfn_mk KX G ?a ?l ?c ?k (fun _ _ _ _ _ _ us hl => match us, hl with | [_], _ => rfl); (case a => k_is); (case l => k_is); (case c => k_is); (case k => k_is))
    (case CNoWeb => refine' Lw.er0_of (PySem.W.mg_of KX G ?a) ?b; (case a => k_is); (case b => kernel_rfl))
    (case CNoStanding => refine' Lw.er0_of (PySem.W.mg_of KX G ?a) ?b; (case a => k_is); (case b => kernel_rfl))
    (case CNoRow => refine' Lw.er0_of (PySem.W.mg_of KX G ?a) ?b; (case a => k_is); (case b => kernel_rfl))
    (case CNoShape => refine' Lw.er0_of (PySem.W.mg_of KX G ?a) ?b; (case a => k_is); (case b => kernel_rfl))
    (case CNoNumber => refine' Lw.er0_of (PySem.W.mg_of KX G ?a) ?b; (case a => k_is); (case b => kernel_rfl))
    (case CNoRules => refine' Lw.er0_of (PySem.W.mg_of KX G ?a) ?b; (case a => k_is); (case b => kernel_rfl))
    (case CNoPerson => refine' Lw.er0_of (PySem.W.mg_of KX G ?a) ?b; (case a => k_is); (case b => kernel_rfl))
    (case CNoLetter => refine' Lw.er0_of (PySem.W.mg_of KX G ?a) ?b; (case a => k_is); (case b => kernel_rfl))
    (case CNoDeed => refine' Lw.er0_of (PySem.W.mg_of KX G ?a) ?b; (case a => k_is); (case b => kernel_rfl))
    (case CFull => refine' Lw.er0_of (PySem.W.mg_of KX G ?a) ?b; (case a => k_is); (case b => kernel_rfl))
    (case CNothingDone => refine' Lw.er0_of (PySem.W.mg_of KX G ?a) ?b; (case a => k_is); (case b => kernel_rfl))
    (case CNoNote => refine' Lw.er0_of (PySem.W.mg_of KX G ?a) ?b; (case a => k_is); (case b => kernel_rfl))
    (case CNoNotes => refine' Lw.er0_of (PySem.W.mg_of KX G ?a) ?b; (case a => k_is); (case b => kernel_rfl))
    (case CHeld => refine' Lw.er0_of (PySem.W.mg_of KX G ?a) ?b; (case a => k_is); (case b => kernel_rfl))
    (case CNoCard => refine' Lw.er0_of (PySem.W.mg_of KX G ?a) ?b; (case a => k_is); (case b => kernel_rfl))
    (case CNoText => refine' Lw.er0_of (PySem.W.mg_of KX G ?a) ?b; (case a => k_is); (case b => kernel_rfl))
    (case CNotLet => refine' Lw.er1_of Lw.fok_index (PySem.W.mg_of KX G ?a) (PySem.W.mg_none_of KX G ?ns) ?nt ?b ?xL ?hbm ?iC ?tI ?lI ?cI ?hline ?lda ?hvs ?hf ?lcc; (case a => k_is); (case ns => k_is); (case xL => k_is); (case iC => k_is); (case tI => k_is); (case lI => k_is); (case cI => k_is); (case lda => k_is); (case lcc => k_is); (case hvs => rfl); (case hf => first | rfl | decide +kernel); (case hline => rfl); (case hbm => decide +kernel); (case nt => decide +kernel); (case b => kernel_rfl))
    (case CBadRule => refine' Lw.er1_of Lw.fok_part (PySem.W.mg_of KX G ?a) (PySem.W.mg_none_of KX G ?ns) ?nt ?b ?xL ?hbm ?iC ?tI ?lI ?cI ?hline ?lda ?hvs ?hf ?lcc; (case a => k_is); (case ns => k_is); (case xL => k_is); (case iC => k_is); (case tI => k_is); (case lI => k_is); (case cI => k_is); (case lda => k_is); (case lcc => k_is); (case hvs => rfl); (case hf => first | rfl | decide +kernel); (case hline => rfl); (case hbm => decide +kernel); (case nt => decide +kernel); (case b => kernel_rfl))
    (case CTooMany => refine' Lw.er1_of Lw.fok_most (PySem.W.mg_of KX G ?a) (PySem.W.mg_none_of KX G ?ns) ?nt ?b ?xL ?hbm ?iC ?tI ?lI ?cI ?hline ?lda ?hvs ?hf ?lcc; (case a => k_is); (case ns => k_is); (case xL => k_is); (case iC => k_is); (case tI => k_is); (case lI => k_is); (case cI => k_is); (case lda => k_is); (case lcc => k_is); (case hvs => rfl); (case hf => first | rfl | decide +kernel); (case hline => rfl); (case hbm => decide +kernel); (case nt => decide +kernel); (case b => kernel_rfl))
    (case CBadText => refine' Lw.er1_of Lw.fok_line (PySem.W.mg_of KX G ?a) (PySem.W.mg_none_of KX G ?ns) ?nt ?b ?xL ?hbm ?iC ?tI ?lI ?cI ?hline ?lda ?hvs ?hf ?lcc; (case a => k_is); (case ns => k_is); (case xL => k_is); (case iC => k_is); (case tI => k_is); (case lI => k_is); (case cI => k_is); (case lda => k_is); (case lcc => k_is); (case hvs => rfl); (case hf => first | rfl | decide +kernel); (case hline => rfl); (case hbm => decide +kernel); (case nt => decide +kernel); (case b => kernel_rfl))
    (case CCardError => refine' Lw.er0_of (PySem.W.mg_of KX G ?a) ?b; (case a => k_is); (case b => kernel_rfl))
    (case kt => kernel_rfl)

