import PyProof.Rows.All
import Wide.All
import OpenK.AllK
import Wide.FinOn
import PyProof.EqAt
import PyProof.EqKinds
import PyProof.TupleCall
import KE.KExcSuper
import HandS.ForMost
import HandS.ExcInit
import HandS.ExcValue
import HandS.IsInst
import KE.KExcIs
import HandS.Zip
import HandS.More
import HandS.TupAny
import HandS.TupSets
import HandS.Strs
import HandS.SetBool
import KE.SortData
import KE.LtData
import HandS.SortOrd
import HandS.SetIn
import KE.KSetDisp
import KE.GoesEnum
import KE.GoesMore
import HandS.ForExc
import HandS.Small
import HandS.ExcIs
import HandS.CallLocal
import KE.KRevSl
import HandS.Style
import PySem.Challenge.RW_stillfound_k01_whole_webs_judged
import HandS.TupMul
set_option Elab.async false
set_option linter.all false
set_option maxRecDepth 100000
set_option maxHeartbeats 4000000
/-! Errors with one field, whose __init__ says super().__init__(a text) and then keeps the field. -/
namespace EF
open PySem PySem.W PySem.Calls PyProof.Rows
def eA (f : Str) (p1 p2 : Pos) : Arguments :=
  { posonlyargs := [], args := [⟨"self", none, p1⟩, ⟨f, none, p2⟩], vararg := none, kwonlyargs := [], kw_defaults := [], kwarg := none, defaults := [] }
def eB (f tx : Str) (q1 q2 q3 q4 q5 q6 q7 q8 q9 q10 : Pos) : List Stmt :=
  [.Expr (.Call (.Attribute (.Call (.Name "super" q1) [] [] q2) "__init__" q3) [.Constant (.str tx) 0 q4] [] q5) q6,
   .Assign [.Attribute (.Name "self" q7) f q8] (.Name f q9) q10]
def eS (f : Str) : Scope :=
  { kind := .function, names := [("self", .local), (f, .local), ("__class__", .free), ("super", .globalImplicit)], isGenerator := false, isCoroutine := false, more := [] }
/-- the field's name is none of the other names -/
structure FOk (f : Str) : Prop where
  l1 : (eS f).names.lookup ("self" : Str) = some .local
  l2 : (eS f).names.lookup f = some .local
  l3 : (eS f).names.lookup ("__class__" : Str) = some .free
  l4 : (eS f).names.lookup ("super" : Str) = some .globalImplicit
  ne : ("self" : Str) ≠ f
  nd : (f == ("__debug__" : Str)) = false
  bd : ∀ (qual : Str) (p1 p2 : Pos) (body : List Stmt) (kV dc pm : Value) (an : Option Addr) (cdv ct : Value) (cc : Addr) (a b : Value),
    bindArgs (ksFn "__init__" qual (eA f p1 p2) body (eS f) .none kV dc pm an cdv ct cc) ⟨[a, b], []⟩ = pure [(("self" : Str), a), (f, b)]
/-- what the written part says of such a class, at C; its __init__ is at fI -/
structure ErrC (prog : Program) (K : Frag) (mg : Str → Option Value) (C : Addr) (f : Str) : Prop where
  fok : FOk f
  cls : ∃ nm q N bs bm sn sub ab col dd k0 k1 k2 k3 k5, K.lookup C = some (excClassObj nm q C N bs bm true sn sub ab col dd k0 k1 k2 k3 k5 "ValueError.__new__") ∧ PySem.HandSPX.refsVE bm = true
  sa : findIn K (.ref C) "__setattr__" = some (some (.builtin "object.__setattr__"))
  ga : findIn K (.ref C) "__getattribute__" = some (some (.builtin "BaseException.__getattribute__"))
  gg : findIn K (.ref C) "__getattr__" = some none
  noF : findIn K (.ref C) f = some none
  exC : subIn K (.ref C) (.type "BaseException") = some true
  veC : subIn K (.ref C) (.type "ValueError") = some true
  meC : mroIn K C (.ref C) = some true
  tyC : typeIn K (.ref C) = some (.type "type")
  hdC : hasDictIn K C = true
  kC : keepIn K (.ref C) = true
  noSup : mg "super" = none
  noTop : (prog.main.scope.names.lookup ("super" : Str)).isSome = false
  sup : ks_superIn K C C "__init__" = some (some (.builtin "ValueError.__init__"))
  any : nsIn K cStatics "thirdparty.any" = some none
  ini : ∃ fI : Addr, findIn K (.ref C) "__init__" = some (some (.ref fI)) ∧ typeIn K (.ref fI) = some (.type "function") ∧
    ∃ (oc dc pm ct qt : Value) (od an : Option Addr) (osl : Array (Option Value)) (qual tx : Str) (cda cc : Addr) (p1 p2 q1 q2 q3 q4 q5 q6 q7 q8 q9 q10 : Pos),
      K.lookup fI = some ⟨oc, od, .func (ksFn "__init__" qual (eA f p1 p2) (eB f tx q1 q2 q3 q4 q5 q6 q7 q8 q9 q10) (eS f) .none qt dc pm an (.ref cda) ct cc), osl⟩ ∧
      codeIn K (.ref cda) qual = true ∧ (q3.endLine == q5.line) = true ∧
      (∃ (c1 : Value) (c2 : Option Addr) (vs : Array Value) (c3 : Array (Option Value)) (file : Str) (tf : Tok), K.lookup cda = some ⟨c1, c2, .fields vs, c3⟩ ∧ vs[2]? = some (.str file tf) ∧ ((prog.main.file : Str) == file) = true) ∧
      ∃ (c1 : Value) (c2 : Option Addr) (c3 : Array (Option Value)), K.lookup cc = some ⟨c1, c2, .cell (some (.ref C)), c3⟩
/-- what __init__ leaves of a fresh error at x -/
structure InitEnd (f : Str) (h h' : Heap) (x C dx t1 : Addr) (v : Value) : Prop where
  keep : ∀ b o, b ≠ x → h.get? b = some o → h'.get? b = some o
  obj : h'.get? x = some { cls := .ref C, dict := some dx, data := .fields #[.ref t1, .none, .none, .none, .bool false, .none] }
  dbig : h.objs.size ≤ dx
  dne : dx ≠ x
  ns : h'.Ns1 dx (fun y => if y = f then some v else none)
section
variable {prog : Program} {w : World} {A : Around} {E : Value → Shared → Prop} {R : Result → Shared → Prop} {s : Shared} {K : Frag} {mg mb : Str → Option Value} {C : Addr} {f : Str}
/-- the built-in __init__, bound to the error at x, is called -/
theorem bound_called (T : ErrC prog K mg C f) (X : K.In s.heap) {u x t0 : Addr} {rest : List Value} {Q : Value → Shared → Prop} (hu : s.heap.get? u = some (kxs_mw "ValueError.__init__" x)) (hx : s.heap.get? x = some (PySem.HandSPX.excO C t0))
    (hr : rest.length ≤ sizeLine) (hq : ∀ h' t1, (∀ b o, b ≠ x → s.heap.get? b = some o → h'.get? b = some o) → h'.get? x = some (PySem.HandSPX.excO C t1) → Q .none { s with heap := h' }) :
    wpAny (model prog w) A (call (.ref u) rest) Q E s := by
  obtain ⟨nm, q, N, bs, bm, sn, sub, ab, col, dd, k0, k1, k2, k3, k5, hC, hbm⟩ := T.cls
  have FB := F.excBase_ValueError
  obtain ⟨hh, g, d, tk, os⟩ := s
  refine wpAny_call (codeAny_of_tree (show wpAny _ A.in1 (callAny (.ref u) ⟨rest, []⟩) _ _ _ from ?_))
  unfold callAny
  refine wpAny_bind (wpAny_load hu ?_)
  have tm : (Value.type "method-wrapper" == Value.type "method" || Value.type "method-wrapper" == Value.type "builtin_function_or_method" || Value.type "method-wrapper" == Value.type "method-wrapper") = true := by decide
  simp only [kxs_mw, tm, if_true]
  refine KFB.if_so (by decide) (wpAny_bind (check_bound_init FB.toExcCallFacts (X _ _ hC) hx rfl (wpAny_bind (wpAny_pure (wpAny_pure ⟨plainId_quiet FB.init.plain _, codeAny_builtin FB.initEntry ?_⟩)))))
  exact exc_init_tree (cls := .ref C) (t0 := t0) (dv := none) (c2 := .none) (c3 := .none) (b4 := .bool false) hx hr fun h' k e _ => hq h' _ k e
theorem meth_call {env : Env} {q1 q2 q3 q4 q5 : Pos} {name tx : Str} (hl : (q3.endLine == q5.line) = true) :
    eval (.Call (.Attribute (.Call (.Name "super" q1) [] [] q2) name q3) [.Constant (.str tx) 0 q4] [] q5) env = (do
      let ov ← attributeBase (.Call (.Name "super" q1) [] [] q2) name env (eval (.Call (.Name "super" q1) [] [] q2) env)
      standAt q3.atName
      let (f, first) ← holding [ov] (getMethod ov name (do return (← importBound (.Call (.Name "super" q1) [] [] q2) env).getD true))
      callWith q5 f first (backTo q5 (starEach [.Constant (.str tx) 0 q4] env)) []) := by
  show (do
    let ov ← attributeBase (.Call (.Name "super" q1) [] [] q2) name env (eval (.Call (.Name "super" q1) [] [] q2) env)
    standAt q3.atName
    methodCall (.Call (.Name "super" q1) [] [] q2) name q3 q5 env ov 1 (backTo q5 (starEach [.Constant (.str tx) 0 q4] env)) []) = _
  have e : ∀ b : Bool, methodCallPos b (.Call (.Name "super" q1) [] [] q2) env q3 q5 = pure q5 := fun b => by
    unfold methodCallPos
    rw [hl, Bool.or_true, if_pos rfl]
  have e2 : ∀ ov, methodCall (.Call (.Name "super" q1) [] [] q2) name q3 q5 env ov 1 (backTo q5 (starEach [.Constant (.str tx) 0 q4] env)) [] = (do
      let (f, first) ← holding [ov] (getMethod ov name (do return (← importBound (.Call (.Name "super" q1) [] [] q2) env).getD true))
      callWith q5 f first (backTo q5 (starEach [.Constant (.str tx) 0 q4] env)) []) := fun ov => by
    unfold methodCall
    simp only [e, pure_bind]
    rfl
  simp only [e2]
/-- __init__ run over a fresh error at x -/
theorem init_run (T : ErrC prog K mg C f) (X : K.In s.heap) (hlim : s.heap.NoLimit) (hg : s.heap.Ns mainGlobals mg) (hb : s.heap.Ns builtinsNs mb) (hbs : mb "super" = some (.type "super")) {fI x t0 : Addr} {v : Value}
    (hfI : findIn K (.ref C) "__init__" = some (some (.ref fI))) (hx : s.heap.get? x = some (PySem.HandSPX.excO C t0)) (hxK : K.lookup x = none) (hroom : A.depth < recursionLimit)
    (hq : ∀ h' tk dx t1, InitEnd f s.heap h' x C dx t1 v → R (.ok (.ret .none)) { s with heap := h', toks := tk }) :
    codeAny (model prog w) A (.call (.ref fI) ⟨[.ref x, v], []⟩) R s := by
  obtain ⟨fI', hfI', tI, oc, dc, pm, ct, qt, od, an, osl, qual, tx, cda, cc, p1, p2, q1, q2, q3, q4, q5, q6, q7, q8, q9, q10, lk, hcd, hln, ⟨c1, c2, vs, c3, file, tf, lcda, hvs, hfile⟩, ⟨e1, e2, e3, lcc⟩⟩ := T.ini
  obtain rfl : fI' = fI := by
    rw [hfI] at hfI'
    cases hfI'
    rfl
  obtain ⟨nm, q, N, bs, bm, sn, sub, ab, col, dd, k0, k1', k2, k3, k5, hC, hbm⟩ := T.cls
  have hcl : clsIn K C = some { name := nm, bases := bs, mro := .ref C :: bm, ns := N, qualname := q, hasDict := true, slotNames := sn, subclasses := sub, abstract := ab, collection := col, hasDel := false } := by
    unfold clsIn; rw [hC] <;> rfl
  have nsf := T.fok.ne
  refine ks_codeAny_call_defAt (fd := ksFn "__init__" qual (eA f p1 p2) (eB f tx q1 q2 q3 q4 q5 q6 q7 q8 q9 q10) (eS f) .none qt dc pm an (.ref cda) ct cc) (body := eB f tx q1 q2 q3 q4 q5 q6 q7 q8 q9 q10) (binds := [("self", .ref x), (f, v)])
    hroom (X _ _ lk) rfl hlim (codeRec_of X hcd) rfl ?_ ?_ ?_ (fun h1 hns k1 => ?_)
  · exact BindsTo.of_eq (T.fok.bd _ _ _ _ _ _ _ _ _ _ _ _ _)
  · intro y hy
    rcases List.mem_cons.mp hy with rfl | hy
    · decide
    rcases List.mem_cons.mp hy with rfl | hy
    · show NameKind.local ≠ NameKind.cell
      decide
    rcases List.mem_cons.mp hy with rfl | hy
    · decide
    rcases List.mem_cons.mp hy with rfl | hy
    · decide
    · cases hy
  · intro y hy
    rcases List.mem_cons.mp hy with rfl | hy
    · exact T.fok.l1
    rcases List.mem_cons.mp hy with rfl | hy
    · exact T.fok.l2
    · cases hy
  · have X1 : K.In h1 := X.keeps k1
    have hx1 := k1 _ _ hx
    have m1 : ([(("self" : Str), Value.ref x), (f, v)].reverse.lookup ("self" : Str)) = some (.ref x) := by
      simp [List.lookup, beq_false_of_ne nsf]
    have m2 : ([(("self" : Str), Value.ref x), (f, v)].reverse.lookup f) = some v := by
      simp [List.lookup]
    show _root_.PySem.wpAt (model prog w) (A.deeper (ksEnv qual (eS f) s.heap.objs.size fI' (.ref cda) cc)) (.func _ (ksEnv qual (eS f) s.heap.objs.size fI' (.ref cda) cc)) (execs _ (ksEnv qual (eS f) s.heap.objs.size fI' (.ref cda) cc)) _ _ _
    have hD : h1.get? C = some (excClassObj nm q C N bs bm true sn sub ab col dd k0 k1' k2 k3 k5 "ValueError.__new__") := X1 _ _ hC
    refine ks_wpAt_execs_cons (ks_wpAt_Expr_any (ks_wpAt_MethodCall ?_ (meth_call hln)))
    refine ks_wpAt_super_base (env := ksEnv qual (eS f) s.heap.objs.size fI' (.ref cda) cc) T.fok.l4 T.fok.l3 (by decide) rfl (X1 _ _ lk) rfl rfl rfl (X1 _ _ lcda) rfl hvs hfile T.noTop ?_
    refine ks_loadName_global rfl T.fok.l4 (loadGlobal_builtin (env := ksEnv qual (eS f) s.heap.objs.size fI' (.ref cda) cc) (hg.keeps k1) T.noSup (hb.keeps k1) hbs ⟨rfl, ?_⟩)
    refine wpAny_loadName_free rfl T.fok.l3 rfl ⟨_, X1 _ _ lcc, rfl⟩ ?_
    refine wpAny_loadName_local rfl T.fok.l1 hns m1 ?_
    refine ks_wpAny_isType_cls hD rfl ⟨rfl, ?_⟩
    refine ks_wpAny_call_super hD rfl hx1 rfl (fun c e => nomatch e) (looks_mroIn X1 T.meC) (fun h2 hso k2' => ?_)
    have X2 : K.In h2 := X1.keeps k2'
    have hx2 := k2' _ _ hx1
    have ne : ∀ {b : Addr} {o : Obj}, s.heap.get? b = some o → b ≠ s.heap.objs.size := fun {b o} z => Nat.ne_of_lt (Heap.lt_size z)
    have hsp : alongIn K "__init__" ((((Value.ref C :: bm).dropWhile (· != .ref C))).drop 1) = some (some (.builtin "ValueError.__init__")) := by
      have z := T.sup
      unfold ks_superIn at z
      rw [hcl] at z
      exact z
    have I2 : InstAt h2 x (PySem.HandSPX.excO C t0) C none := ⟨hx2, rfl, rfl, trivial⟩
    have xC : x ≠ C := ks_ne X2 I2 hcl
    refine kxs_getMethod kxs_ValueError hso (looks_opaque X2 T.any) (l₀ := .ref C :: bm) (fun A Q E s k q => wpAny_bind ((looks_clsIn X2 hcl) A _ E s k (wpAny_pure q))) rfl X2 hsp (I2.type.andThen (looks_subIn X2 T.veC)) xC (by decide) ?_
    have hu3 : (h2.push (kxs_mw "ValueError.__init__" x)).get? h2.objs.size = some (kxs_mw "ValueError.__init__" x) := Heap.get?_push_at rfl rfl
    have k3 : ∀ b o, h2.get? b = some o → (h2.push (kxs_mw "ValueError.__init__" x)).get? b = some o := fun b o e => Heap.get?_push_of_some _ e
    generalize h2.push (kxs_mw "ValueError.__init__" x) = h3 at hu3 k3 ⊢
    refine kxs_callWith (i := "ValueError.__init__") (x := x) rfl (evalArgs_plain ?_)
    show wpAny _ _ (spliced [(false, eval (.Constant (.str tx) 0 q4) (ksEnv qual (eS f) s.heap.objs.size fI' (.ref cda) cc))]) _ _ _
    refine Calls.spliced_cons ?_
    refine Calls.Constant_str ?_
    refine Calls.spliced_nil ?_
    refine ⟨hu3, ?_⟩
    have X3 : K.In h3 := X2.keeps k3
    refine bound_called (s := ⟨h3, _, _, _, _⟩) T X3 hu3 (k3 _ _ hx2) (by show 1 ≤ sizeLine; rw [sizeLine_eq]; decide) fun h4 t1 k4 hx4 => ?_
    have old : ∀ b o, b ≠ x → h1.get? b = some o → h4.get? b = some o := fun b o hb e => k4 b o hb (k3 _ _ (k2' _ _ e))
    have X4 : K.In h4 := fun b o e => old b o (fun z => by
      rw [z, hxK] at e
      cases e) (X1 _ _ e)
    have hns4 : h4.Ns s.heap.objs.size (fun y => [(("self" : Str), Value.ref x), (f, v)].reverse.lookup y) :=
      hns.at fun o e => old _ o (fun z => (ne hx) z.symm) e
    refine wpAt_of_wpAny ?_
    show wpAny _ _ (execs _ _) _ _ _
    refine wpAny_execs_cons (plainObj_wpAny_Assign_Attribute ?_)
    refine wpAny_Name (wpAny_loadName_local rfl T.fok.l2 hns4 m2 ?_) T.fok.nd
    refine wpAny_Name (wpAny_loadName_local rfl T.fok.l1 hns4 m1 ?_) (by decide)
    refine set_plain (s := ⟨h4, _, _, _, _⟩) X4 (ox := PySem.HandSPX.excO C t1) (od := none) ⟨hx4, rfl, rfl, trivial⟩ T.sa ?_
    refine PySem.HandSPX.exc_osa X4 hx4 hcl (show PySem.HandSPX.refsVE (.ref C :: bm) = true from hbm) rfl T.noF (fun h5 tk5 dx k5 dn dne hx5 hn5 => ?_)
    show wpAny _ _ (execs _ _) _ _ _
    refine wpAny_execs_nil (hq h5 tk5 dx t1 ⟨fun b o hb e => k5 b o hb (old b o hb (k1 _ _ e)), hx5, ?_, dne, hn5⟩)
    exact Nat.le_trans (Nat.le_of_lt hns4.lt) dn
/-- C(v): a new error -/
theorem made (T : ErrC prog K mg C f) (X : K.In s.heap) (hlim : s.heap.NoLimit) (hg : s.heap.Ns mainGlobals mg) (hb : s.heap.Ns builtinsNs mb) (hbs : mb "super" = some (.type "super")) {v : Value} (hroom : A.depth + 1 < recursionLimit)
    (hq : ∀ h' tk x dx t1, (∀ b o, s.heap.get? b = some o → h'.get? b = some o) → s.heap.objs.size ≤ x → s.heap.objs.size ≤ dx → dx ≠ x →
      h'.get? x = some { cls := .ref C, dict := some dx, data := .fields #[.ref t1, .none, .none, .none, .bool false, .none] } → h'.Ns1 dx (fun y => if y = f then some v else none) → R (.ok (.ret (.ref x))) { s with heap := h', toks := tk }) :
    codeAny (model prog w) A (.call (.ref C) ⟨[v], []⟩) R s := by
  obtain ⟨fI, hfI, tI, _⟩ := T.ini
  obtain ⟨nm, q, N, bs, bm, sn, sub, ab, col, dd, k0, k1, k2, k3, k5, hC, hbm⟩ := T.cls
  obtain ⟨hp, g, dr, tk, os⟩ := s
  have kk : ∀ b o, hp.get? b = some o → ((hp.push (kdv_tup [v])).push (PySem.HandSPX.excO C hp.objs.size)).get? b = some o := fun b o e => Heap.get?_push_of_some _ (Heap.get?_push_of_some _ e)
  have hget : ((hp.push (kdv_tup [v])).push (PySem.HandSPX.excO C hp.objs.size)).get? (hp.objs.size + 1) = some (PySem.HandSPX.excO C hp.objs.size) := by heap_get
  have hxK : K.lookup (hp.objs.size + 1) = none := by
    cases e : K.lookup (hp.objs.size + 1) with
    | none => rfl
    | some o => exact absurd (Nat.lt_of_succ_lt (Heap.lt_size (X _ _ e))) (Nat.lt_irrefl _)
  refine PySem.HandSPX.call_own F.excBase_ValueError (fun Y => PySem.HandSPX.refsVE_contains Y bm hbm) (X _ _ hC) (looks_findIn X hfI) (fun self => bind_fn X self tI) (by show 1 ≤ sizeLine; rw [sizeLine_eq]; decide) ?_
  refine init_run (s := ⟨(hp.push (kdv_tup [v])).push (PySem.HandSPX.excO C hp.objs.size), g, dr, tk, os⟩) T (X.keeps kk) (hlim.keeps kk) (hg.keeps kk) (hb.keeps kk) hbs hfI hget hxK hroom fun h' tk' dx t1 Z => ?_
  have old : ∀ b o, hp.get? b = some o → h'.get? b = some o := fun b o e => Z.keep b o (Nat.ne_of_lt (Nat.lt_succ_of_lt (Heap.lt_size e))) (kk b o e)
  have z : hp.objs.size + 1 + 1 ≤ dx := by
    have q := Z.dbig
    simp only [Heap.size_push] at q
    exact q
  exact ⟨rfl, hq h' tk' (hp.objs.size + 1) dx t1 old (Nat.le_succ _) (Nat.le_trans (Nat.le_trans (Nat.le_succ _) (Nat.le_succ _)) z) Z.dne Z.obj Z.ns⟩
end
end EF

set_option maxHeartbeats 4000000
namespace EF
open PySem PySem.Spec PyProof.Rows L2
open PySem.W (Frag findIn subIn mroIn clsIn nsIn specialIn takesIn keepIn hasDictIn InstAt)
/-- an error stands at a: of the class at C, and its fields if it has some -/
def ErrAt (H : Hp) (a C : Addr) (fs : List (Str × V)) : Prop :=
  (∃ d, H a = some (exo a C (some d)) ∧ H d = some (exd d fs)) ∨ (fs = [] ∧ H a = some (ExO (.ref C) a))
theorem ErrAt.ext {H H' : Hp} {a C : Addr} {fs : List (Str × V)} (h : ErrAt H a C fs) (e : ∀ b o, H b = some o → H' b = some o) : ErrAt H' a C fs := by
  rcases h with ⟨d, h1, h2⟩ | ⟨h0, h1⟩
  · exact .inl ⟨d, e _ _ h1, e _ _ h2⟩
  · exact .inr ⟨h0, e _ _ h1⟩
/-- two new objects laid at once -/
theorem laid2 {X : Cx} {pins : List (Addr × Obj)} {σ : L2.St} {H : Hp} {s : Shared} {h' : Heap} {t' : Nat} {a d : Addr} {oa od : HO} (I : Inv X pins σ H s) (k : ∀ b o, s.heap.get? b = some o → h'.get? b = some o) (ha : H a = none) (hd : H d = none) (hda : d ≠ a)
    (na : s.heap.get? a = none) (nd : s.heap.get? d = none) (oka : ObjOk X.prog X.w (upd (upd H d od) a oa) h' a oa) (okd : ObjOk X.prog X.w (upd (upd H d od) a oa) h' d od) :
    Inv X pins σ (upd (upd H d od) a oa) { s with heap := h', toks := t' } := by
  have n1 : ∀ {b : Addr} {o : Obj}, s.heap.get? b = some o → b ≠ a := fun {b o} e z => by
    rw [z, na] at e
    cases e
  have n2 : ∀ {b : Addr} {o : Obj}, s.heap.get? b = some o → b ≠ d := fun {b o} e z => by
    rw [z, nd] at e
    cases e
  have up : ∀ {b : Addr} {o : HO}, H b = some o → upd (upd H d od) a oa b = some o := fun {b o} e => by
    rw [upd_ne (ne_of_none e ha), upd_ne (ne_of_none e hd)]
    exact e
  refine I.un ⟨fun b o q _ _ _ => k b o q, fun b o q _ _ _ => ⟨o.slots, k b o q⟩, fun b o q n _ => ?_, fun b o q _ => ⟨o, k b o q⟩, fun b xs q => up q, fun b o u q => up q, fun b ps q => ⟨#[], by rw [up q]; simp⟩⟩ fun b o q => ?_
  · rw [upd_ne (n1 q), upd_ne (n2 q)]
    exact n
  · by_cases hb : b = a
    · subst hb
      rw [upd_same] at q
      cases q
      exact oka
    · rw [upd_ne hb] at q
      by_cases hb2 : b = d
      · subst hb2
        rw [upd_same] at q
        cases q
        exact okd
      · rw [upd_ne hb2] at q
        exact (I.hok b o q).stay (fun c v _ z => k c v z) (fun c z => up z) fun c xs z => up z
section
variable {X : Cx} {C : Addr} {f x : Str} {e : Expr} {te : TE} {p pos : Pos}
/-- C(e), an error with a field, as a value -/
theorem pe_err1 (T : ErrC X.prog X.K X.mg C f) (gC : X.mg x = some (.ref C)) (hg : Gl X x) (hr : Room 1 X.A) (he : PE X e te)
    (hs : starEach [e] X.env = (false, eval e X.env) :: starEach [] X.env := by rfl) (hdb : (x == ("__debug__" : Str)) = false := by decide) :
    PE X (.Call (.Name x p) [e] [] pos) (fun σ H Q => te σ H fun v H1 => ∀ a H', ErrAt H' a C [(f, v)] → (∀ b o, H1 b = some o → H' b = some o) → H1 a = none → Q (.ref a) H') := by
  refine ⟨fun pins s σ H Q I h => ?_⟩
  refine wpAny_Call_Name_kw (ld_glob I hg gC ?_ hdb)
  refine PySem.W.callWith_K (h₀ := X.base) I.ok.mod.kin T.kC ?_ hs (by rfl)
  rw [hs]
  show wpAny _ _ (spliced ((false, eval e X.env) :: backTo pos (starEach [] X.env))) _ _ s
  refine Calls.spliced_cons (thn (he.run pins s σ H _ I h) fun u s1 ⟨v, H1, I1, r1, q1⟩ => ?_)
  refine Calls.spliced_nil ⟨I1.kIn, ?_⟩
  show wpAny _ _ (call (.ref C) [u]) _ _ _
  obtain ⟨mb, hb, hbs⟩ := I1.mod.blt
  obtain ⟨hp, g, dr, tk, os⟩ := s1
  refine wpAny_call (made (s := ⟨hp, g, dr, tk, os⟩) T I1.kIn I1.nolimit (I1.mod.glob.keeps I1.bk) (hb.keeps I1.bk) ((hbs "super" (by decide)).trans (by decide +kernel)) (by have := hr.dp; omega) fun h' tk' a d t1 k ga gd hda ho hn => ?_)
  have na : H1 a = none := I1.hok.fresh ga
  have nd : H1 d = none := I1.hok.fresh gd
  have none_at : ∀ b, hp.objs.size ≤ b → hp.get? b = none := fun b hb => by
    cases z : hp.get? b with
    | none => rfl
    | some o => exact absurd (Nat.lt_of_lt_of_le (Heap.lt_size z) hb) (Nat.lt_irrefl _)
  have J := laid2 (t' := tk') (oa := exo a C (some d)) (od := exd d [(f, v)]) I1 k na nd hda (none_at a ga) (none_at d gd) (exo_ok ho)
    (exd_ok hn (fun y => by
      by_cases hy : y = f
      · rw [lookup_put, if_pos hy, if_pos hy]
        exact r1
      · rw [lookup_put, if_neg hy, if_neg hy]
        trivial))
  show EP X pins σ Q (.ref a) ⟨h', g, dr, tk', os⟩
  refine ⟨.ref a, _, J, rfl, q1 a _ (.inl ⟨d, upd_same, by rw [upd_ne hda, upd_same]⟩) (fun b o z => ?_) na⟩
  rw [upd_ne (ne_of_none z na), upd_ne (ne_of_none z nd)]
  exact z
/-- C(), an error without fields, as a value -/
theorem pe_err0 (q : PySem.W.excIn X.K C PySem.HandSPX.veTail "ValueError.__new__" = true) (gC : X.mg x = some (.ref C)) (kC : keepIn X.K (.ref C) = true) (hg : Gl X x) (hdb : (x == ("__debug__" : Str)) = false := by decide) :
    PE X (.Call (.Name x p) [] [] pos) (fun σ H1 Q => ∀ a H', ErrAt H' a C [] → (∀ b o, H1 b = some o → H' b = some o) → H1 a = none → Q (.ref a) H') := by
  refine ⟨fun pins s σ H Q I h => ?_⟩
  refine wpAny_Call_Name_kw (ld_glob I hg gC ?_ hdb)
  refine PySem.W.callWith_K0 I.kIn kC ?_
  show wpAny _ _ (call (.ref C) []) _ _ _
  obtain ⟨bm, N, nm, qn, bs, hdct, sn, sub, ab, col, dd, k0, k1, k2, k3, k5, mN, hC, hN, hni, T⟩ := exc_obj I.kIn q
  obtain ⟨hp, g, dr, tk, os⟩ := s
  refine wpAny_call_exc_subT F.excBase_ValueError T hC hN hni (fun h' a hm => ?_) (by show 0 ≤ sizeLine; exact Nat.zero_le _)
  have hn : H a = none := I.hok.gone hm.new
  obtain ⟨t, ht, _, _⟩ := hm.there
  refine ⟨.ref a, upd H a (ExO (.ref C) a), I.laidN (s := ⟨hp, g, dr, tk, os⟩) hm.keeps hm.new hn (L2.exO_ok ht ⟨rfl, rfl⟩ rfl rfl rfl (show 4 < 6 by decide)), rfl, h a _ (.inr ⟨rfl, upd_same⟩) (fun b o z => ?_) hn⟩
  rw [upd_ne (ne_of_none z hn)]
  exact z
/-- what the written part says of an error's class when it is asked about -/
structure IsE (K : Frag) (C : Addr) : Prop where
  cl : (clsIn K C).isSome = true
  ga : findIn K (.ref C) "__getattribute__" = some (some (.builtin "BaseException.__getattribute__"))
  gg : findIn K (.ref C) "__getattr__" = some none
  exC : subIn K (.ref C) (.type "BaseException") = some true
  kls : findIn K (.ref C) "__class__" = some (some (.builtin "object.__class__"))
  get : specialIn K (.builtin "object.__class__") "__get__" = some (some (.builtin "getset_descriptor.__get__"))
  tk : takesIn K (.builtin "object.__class__") = some true
  obj : mroIn K C (.type "object") = some true
theorem errInst {P : Program} {w : World} {H : Hp} {h : Heap} {a C : Addr} {fs : List (Str × V)} (ok : HOk P w H h) (e : ErrAt H a C fs) : ∃ ox od, InstAt h a ox C od := by
  rcases e with ⟨d, h1, h2⟩ | ⟨_, h1⟩
  · obtain ⟨t1, q⟩ := exo_at ok h1
    obtain ⟨mA, ⟨od, es, ep, e1, _⟩, _⟩ := exd_at ok h2
    exact ⟨_, some od, q, rfl, rfl, e1⟩
  · obtain ⟨⟨oe, vs, q, z, hd, _⟩, _, _⟩ := ok a _ h1
    refine ⟨oe, none, q, z.1, ?_, ?_⟩
    · unfold PySem.W.notCls
      rw [hd] <;> rfl
    · rw [z.2]
      trivial
/-- isinstance(e, c), e an error -/
def rIsiE (K : Frag) : List V → Hp → VK → Prop := fun xs H Q => ∃ (a C : Addr) (fs : List (Str × V)) (c : V) (u : Value) (b : Bool), xs = [.ref a, c] ∧ ClsV c u ∧ ErrAt H a C fs ∧ IsE K C ∧ PySem.W.kitOne K (.ref C) u = some b ∧ Q (.bl b) H
theorem call_isiE {X : Cx} : CallR X (.builtin "isinstance") (rIsiE X.K) := by
  intro pins s σ H xs us Q I r h
  obtain ⟨a, C, fs, c, u, b, rfl, k, ea, T, e, q⟩ := h
  obtain ⟨u1, u2, rfl, r1, r2⟩ := vals2 r
  have e2 := k.eq r2
  subst e2
  cases (show u1 = Value.ref a from r1)
  obtain ⟨ox, od, J⟩ := errInst I.hok ea
  exact PySem.W.kia_one (PySem.W.kitx_exc T.cl T.ga T.gg T.exC T.kls T.get T.tk T.obj) I.kIn J e (fun z => nomatch z) fun tk => ⟨.bl b, H, I.tok tk, rfl, q⟩
/-- e.f, e an error with fields -/
def tErrF (K : Frag) (f : Str) (te : TE) : TE := fun σ H Q => te σ H fun x H1 => ∃ (a C : Addr) (fs : List (Str × V)) (v : V), x = .ref a ∧ IsE K C ∧ hasDictIn K C = true ∧ findIn K (.ref C) f = some none ∧ ErrAt H1 a C fs ∧ fs.lookup f = some v ∧ Q v H1
theorem pe_errF {X : Cx} {e : Expr} {te : TE} {f : Str} {pos : Pos} (he : PE X e te) (hb : attributeBase e f X.env (eval e X.env) = eval e X.env := by rfl) : PE X (.Attribute e f pos) (tErrF X.K f te) := by
  refine ⟨fun pins s σ H Q I h => ?_⟩
  refine attr_of hb (thn (he.run pins s σ H _ I h) fun u s1 hh => ?_)
  obtain ⟨x, H1, I1, rx, a, C, fs, v, ex, T, hd, hf, ea, hl, q⟩ := hh
  subst ex
  obtain rfl : u = Value.ref a := rx
  rcases ea with ⟨d, h1, h2⟩ | ⟨h0, _⟩
  · obtain ⟨t1, ho⟩ := exo_at I1.hok h1
    obtain ⟨mA, hns, rel⟩ := exd_at I1.hok h2
    obtain ⟨od, hod, hlk⟩ := lookIn_ns hns
    obtain ⟨w, hw, rw'⟩ := RelO.some_of (v := v) (o := mA f) (by rw [← hl]; exact rel f)
    have J : InstAt s1.heap a { cls := .ref C, dict := some d, data := .fields #[.ref t1, .none, .none, .none, .bool false, .none] } C (some od) := ⟨ho, rfl, rfl, hod⟩
    exact PySem.HandSPX.exc_get I1.kIn J T.ga T.gg T.exC (PySem.W.findObj_own hd hf rfl (by rw [hlk, hw])) (handed_of rw') ⟨v, H1, I1.tok _, rw', q⟩
  · subst h0
    cases hl
end
end EF

set_option maxHeartbeats 4000000
namespace Hn
open PySem PySem.Spec PyProof.Rows L2 EF
open PySem.W (Frag keepIn)
/-- the built-ins' names are not the module's -/
structure Bl (mg : Str → Option Value) : Prop where
  b_len : mg "len" = none
  b_int : mg "int" = none
  b_abs : mg "abs" = none
  b_sum : mg "sum" = none
  b_isinstance : mg "isinstance" = none
  b_all : mg "all" = none
  b_any : mg "any" = none
  b_range : mg "range" = none
  b_enumerate : mg "enumerate" = none
  b_zip : mg "zip" = none
  b_tuple : mg "tuple" = none
  b_list : mg "list" = none
  b_bool : mg "bool" = none
  b_sorted : mg "sorted" = none
  b_set : mg "set" = none
  b_ValueError : mg "ValueError" = none
/-- a def of the text -/
def Dfn (K : Frag) (mg : Str → Option Value) (x : Str) (st : Stmt) (ps : List Str) : Prop := ∃ f fd, Fun K x x st f fd ∧ Binds K fd ps [] ∧ mg x = some (.ref f)
/-- a def that keeps a promise and lets no error out -/
def Kept (P : Program) (w : World) (K : Frag) (mg : Str → Option Value) (base : Heap) (k : Nat) (x : Str) (ps : List Str) (sp : Sp) : Prop :=
  ∃ f fd, mg x = some (.ref f) ∧ keepIn K (.ref f) = true ∧ Binds K fd ps [] ∧ FnOk P w K mg base CX0 k f fd ps sp
section
variable {P : Program} {w : World} {K : Frag} {mg : Str → Option Value} {base : Heap}
theorem Kept.mono {j k : Nat} {x : Str} {ps : List Str} {sp : Sp} (G : Kept P w K mg base j x ps sp) (h : j ≤ k) : Kept P w K mg base k x ps sp := by
  obtain ⟨f, fd, a, b, c, d⟩ := G
  exact ⟨f, fd, a, b, c, d.mono h⟩
theorem Dfn.kept {x : Str} {st : Stmt} {N ps : List Str} {k : Nat} {sp : Sp} (D : Dfn K mg x st ps) (S : FnScope N ps (defScope st)) (len : ∀ vs H Q E, sp vs H Q E → vs.length = ps.length)
    (hbody : ∀ (f : Addr) (cdv : Value) (A : Around) (outer : List Env) (s : Shared) (H : Hp) (vs : List V) (Q : VK) (E : XK), Room k (A.deeper (envOfC x (defScope st) s.heap.objs.size f cdv)) → sp vs H Q E →
      ∃ t, PSs (cxOf CX0 P w K mg base N x (defScope st) f cdv A outer s H E).nox (defBody st) t ∧ t { nx := fun _ H' => Q .non H', rt := Q } (start N vs) H) :
    Kept P w K mg base (k + 1) x ps sp := by
  obtain ⟨f, fd, F, b, g⟩ := D
  exact ⟨f, fd, g, F.kp, b, F.ok S len fun cdv A outer s H vs Q E hr h => hbody f cdv A outer s H vs Q E hr h⟩
end
/-- f(e, ..), f a def that keeps its promise -/
def tK (sp : Sp) (t : TA) : TE := fun σ H Q => t σ H fun vs H1 => sp vs H1 Q E0
section
variable {X : Cx} {k : Nat} {x : Str} {ps : List Str} {sp : Sp} {e : Expr} {es : List Expr} {t : TA} {p pos : Pos}
theorem pe_k (G : Kept X.prog X.w X.K X.mg X.base k x ps sp) (hr : Room k X.A) (hg : Gl X x) (ha : PA X (e :: es) t) (hdb : (x == ("__debug__" : Str)) = false := by decide)
    (he : starEach (e :: es) X.env = (false, eval e X.env) :: starEach es X.env := by rfl) (hpl : (backTo pos (starEach es X.env)).any (·.1) = false := by rfl) : PE X (.Call (.Name x p) (e :: es) [] pos) (tK sp t) := by
  obtain ⟨f, fd, gm, kp, b, F⟩ := G
  have h := pe_call (p := p) (pos := pos) F hr hg gm kp b .nil pass0 ha hdb he hpl
  have e : tCall sp [] E0 t = tK sp t := by
    funext σ H Q
    unfold tCall tK
    simp only [List.append_nil]
  rw [e] at h
  exact h
theorem pe_k0 (G : Kept X.prog X.w X.K X.mg X.base k x ps sp) (hr : Room k X.A) (hg : Gl X x) (hdb : (x == ("__debug__" : Str)) = false := by decide) : PE X (.Call (.Name x p) [] [] pos) (tK sp tNil) := by
  obtain ⟨f, fd, gm, kp, b, F⟩ := G
  have h := pe_call0 (p := p) (pos := pos) F hr hg gm kp b .nil pass0 hdb
  have e : tCall sp [] E0 tNil = tK sp tNil := by
    funext σ H Q
    unfold tCall tK
    simp only [List.append_nil]
  rw [e] at h
  exact h
end
/-! ### the drawing bag -/
/-- at b the bag, at g its list of great numbers -/
def BagAt (H : Hp) (b g : Addr) : Prop := b ≠ g ∧ ∃ (s c : Int) (gs : List Int) (al : V), H b = some (.lst [.int s, .int c, .ref g, al]) ∧ H g = some (.lst (gs.map V.int)) ∧ gs.length ≤ 63 ∧ (al = .non ∨ ∃ i, al = .int i)
/-- all that stood stands, but the bag's two lists -/
def But (b g : Addr) (H H' : Hp) : Prop := ∀ a o, a ≠ b → a ≠ g → H a = some o → H' a = some o
theorem But.refl {b g : Addr} {H : Hp} : But b g H H := fun _ _ _ _ e => e
theorem But.trans {b g : Addr} {H H1 H2 : Hp} (x : But b g H H1) (y : But b g H1 H2) : But b g H H2 := fun a o h1 h2 e => y a o h1 h2 (x a o h1 h2 e)
theorem But.of {b g : Addr} {H H' : Hp} (x : Same H H') : But b g H H' := fun a o _ _ e => x a o e
theorem BagAt.same {H H' : Hp} {b g : Addr} (h : BagAt H b g) (e : Same H H') : BagAt H' b g := by
  obtain ⟨n, s, c, gs, al, h1, h2, r⟩ := h
  exact ⟨n, s, c, gs, al, e _ _ h1, e _ _ h2, r⟩
/-- an object of another kind, or a new one, is none of the bag's lists -/
theorem BagAt.ne {H : Hp} {b g a : Addr} (h : BagAt H b g) (n : H a = none) : a ≠ b ∧ a ≠ g := by
  obtain ⟨_, s, c, gs, al, h1, h2, _⟩ := h
  constructor
  · intro z
    rw [z, h1] at n
    cases n
  · intro z
    rw [z, h2] at n
    cases n
def spBag (K : Frag) : Sp := fun vs H Q _ => ∃ (a : Addr) (ns : List Int), vs = [.ref a] ∧ SqL K H a (ns.map V.int) ∧ ns.length ≤ 63 ∧ ∀ b g H', Same H H' → H b = none → H g = none → BagAt H' b g → Q (.ref b) H'
def spPick : Sp := fun vs H Q _ => ∃ (b g : Addr) (m : Int), vs = [.ref b, .int m] ∧ BagAt H b g ∧ 0 < m ∧ m < 1073741824 ∧ ∀ r H', But b g H H' → BagAt H' b g → 0 ≤ r → r < m → Q (.int r) H'
def spSome (K : Frag) : Sp := fun vs H Q _ => ∃ (b g l : Addr) (xs : List V), vs = [.ref b, .ref l] ∧ BagAt H b g ∧ l ≠ b ∧ l ≠ g ∧ (SqL K H l xs ∨ SqT K H l xs) ∧ 0 < xs.length ∧ xs.length ≤ 1000 ∧ ∀ x H', But b g H H' → BagAt H' b g → x ∈ xs → Q x H'
/-! ### data of a bounded depth; its lists stand where N lets them -/
inductive Good (N : Addr → Prop) (H : Hp) : Nat → V → Prop
  | non (n : Nat) : Good N H n .non
  | bl (n : Nat) (b : Bool) : Good N H n (.bl b)
  | int (n : Nat) (i : Int) : Good N H n (.int i)
  | str (n : Nat) (x : Str) : Good N H n (.str x)
  | dic (n : Nat) {a : Addr} {kvs : List (Key × V)} (e : H a = some (.dK kvs)) (nd : (kvs.map (·.1)).Nodup) (fl : ∀ p ∈ kvs, flatB p.2 = true) : Good N H n (.ref a)
  | tup {n : Nat} {a : Addr} {xs : List V} (e : H a = some (.tup xs)) (h : ∀ x ∈ xs, Good N H n x) (l : xs.length ≤ 100) : Good N H (n + 1) (.ref a)
  | lst {n : Nat} {a : Addr} {xs : List V} (e : H a = some (.lst xs)) (h : ∀ x ∈ xs, Good N H n x) (l : xs.length ≤ 100) (na : N a) : Good N H (n + 1) (.ref a)
/-- it stays where what it stands on stays -/
theorem Good.keep {N M : Addr → Prop} {H H' : Hp} (hd : ∀ a kvs, H a = some (.dK kvs) → H' a = some (.dK kvs)) (ht : ∀ a xs, H a = some (.tup xs) → H' a = some (.tup xs)) (hl : ∀ a xs, N a → H a = some (.lst xs) → M a ∧ H' a = some (.lst xs)) :
    ∀ {n : Nat} {x : V}, Good N H n x → Good M H' n x := by
  intro n x g
  induction g with
  | non n => exact .non n
  | bl n b => exact .bl n b
  | int n i => exact .int n i
  | str n x => exact .str n x
  | dic n e nd fl => exact .dic n (hd _ _ e) nd fl
  | tup e h l ih => exact .tup (ht _ _ e) ih l
  | lst e h l na ih => exact .lst (hl _ _ na e).2 ih l (hl _ _ na e).1
theorem Good.same {N : Addr → Prop} {H H' : Hp} (s : Same H H') {n : Nat} {x : V} (g : Good N H n x) : Good N H' n x := g.keep (fun _ _ e => s _ _ e) (fun _ _ e => s _ _ e) fun _ _ na e => ⟨na, s _ _ e⟩
theorem Good.more {N : Addr → Prop} {H : Hp} : ∀ {n m : Nat} {x : V}, Good N H n x → n ≤ m → Good N H m x := by
  intro n m x g
  induction g generalizing m with
  | non n => exact fun _ => .non m
  | bl n b => exact fun _ => .bl m b
  | int n i => exact fun _ => .int m i
  | str n x => exact fun _ => .str m x
  | dic n e nd fl => exact fun _ => .dic m e nd fl
  | tup e h l ih =>
    intro q
    obtain ⟨k, rfl⟩ : ∃ k, m = k + 1 := ⟨m - 1, by omega⟩
    exact .tup e (fun x hx => ih x hx (by omega)) l
  | lst e h l na ih =>
    intro q
    obtain ⟨k, rfl⟩ : ∃ k, m = k + 1 := ⟨m - 1, by omega⟩
    exact .lst e (fun x hx => ih x hx (by omega)) l na
/-- the same datum twice is told to be the same; less than n deep -/
def spIs (n : Nat) : Sp := fun vs H Q _ => ∃ (N : Addr → Prop) (x : V) (m : Nat), vs = [x, x] ∧ m < n ∧ Good N H m x ∧ ∀ H', Same H H' → Q (.bl true) H'
def spDeep : Sp := fun vs H Q _ => vs = [] ∧ ∀ x H', Same H H' → Good (fun a => H a = none) H' 23 x → Q x H'
theorem kept_zero {P : Program} {w : World} {K : Frag} {mg : Str → Option Value} {base : Heap} {x : Str} {st : Stmt} {ps : List Str} {sp : Sp} (D : Dfn K mg x st ps) (no : ∀ vs H Q E, ¬ sp vs H Q E) : Kept P w K mg base 0 x ps sp := by
  obtain ⟨f, fd, F, b, g⟩ := D
  exact ⟨f, fd, g, F.kp, b, ⟨fun vs H Q E h => absurd h (no vs H Q E), fun A outer s H args us vs Q E _ _ _ _ h => absurd h (no vs H Q E)⟩⟩
theorem kitTL {K : Frag} {T : String} {b1 b2 : Bool} (h1 : kitB T "tuple" = some b1) (h2 : kitB T "list" = some b2) : PySem.W.kitAny K (.type T) [.type "tuple", .type "list"] = some (b1 || b2) := by
  refine kitAny_cons (kit_ty h1) (fun e => ?_) (fun e => by rw [e]; rfl)
  rw [e]
  refine kitAny_cons (kit_ty h2) (fun e2 => ?_) (fun e2 => by rw [e2]; rfl)
  rw [e2]
  exact kitAny_nil
theorem twoTys : Paired ClsV [V.ty "tuple", V.ty "list"] [Value.type "tuple", Value.type "list"] := .cons (.ty _) (.cons (.ty _) .nil)
theorem lc_zipL {K : Frag} {a b : Addr} {xs ys : List V} {g : TG} {tt : TT} {te : TE} {vs : List Nat} {σ : L2.St} {H1 : Hp} {D : Addr} {Qd : Hp → Prop} (hl : xs.length = ys.length) (Pv : Nat → Hp → Prop) (h0 : Pv 0 (upd H1 D (.lst [])))
    (hq : ∀ i H, Pv i H → SqL K H a xs ∧ SqL K H b ys)
    (hs : ∀ i x y T H, xs[i]? = some x → ys[i]? = some y → Pv i H → H T = none → g (.ref T) (wipe σ vs) (upd H T (.tup [x, y])) fun σ2 H2 => wipe σ2 vs = wipe σ vs ∧ tt σ2 H2 fun c H3 =>
      if c = true then te σ2 H3 fun z H4 => ∃ acc, H4 D = some (.lst acc) ∧ acc.length < sizeLine ∧ Pv (i + 1) (upd H4 D (.lst (acc ++ [z]))) else Pv (i + 1) H3) (hd : ∀ H, Pv xs.length H → Qd H) :
    ∃ W : Nat → Nat → Hp → Prop, (∃ m, W 0 m (upd H1 D (.lst []))) ∧ ∀ i m H, W i m H →
      ((Itz K a b).stop i H ∧ Qd H) ∨ ((Itz K a b).go i H ∧ ∃ Nx : Hp → Prop, (∀ H', Nx H' → ∃ m', m' < m ∧ W (i + 1) m' H') ∧ ∀ x H', (Itz K a b).yld i H x H' → g x (wipe σ vs) H' fun σ2 H2 => wipe σ2 vs = wipe σ vs ∧ tt σ2 H2 fun c H3 =>
        if c = true then te σ2 H3 fun y H4 => ∃ acc, H4 D = some (.lst acc) ∧ acc.length < sizeLine ∧ Nx (upd H4 D (.lst (acc ++ [y]))) else Nx H3) := by
  refine ⟨fun i m H => m = xs.length - i ∧ i ≤ xs.length ∧ Pv i H, ⟨xs.length, by simp, Nat.zero_le _, h0⟩, ?_⟩
  rintro i m H ⟨rfl, hi, p⟩
  obtain ⟨q1, q2⟩ := hq i H p
  by_cases h : i < xs.length
  · have e1 : xs[i]? = some xs[i] := List.getElem?_eq_getElem h
    have e2 : ys[i]? = some (ys[i]'(hl ▸ h)) := List.getElem?_eq_getElem _
    refine .inr ⟨⟨xs, ys, _, _, q1, q2, e1, e2⟩, Pv (i + 1), fun H' z => ⟨xs.length - (i + 1), by omega, rfl, h, z⟩, fun x H' hy => ?_⟩
    obtain ⟨T, x1, x2, rfl, nT, rfl, f1, f2⟩ := hy
    exact hs i x1 x2 T H (f1 _ q1) (f2 _ q2) p nT
  · have e : i = xs.length := by omega
    subst e
    exact .inl ⟨⟨xs, ys, q1, q2, .inl (Nat.le_refl _)⟩, hd H p⟩
theorem lc_zipT {K : Frag} {a b : Addr} {xs ys : List V} {g : TG} {tt : TT} {te : TE} {vs : List Nat} {σ : L2.St} {H1 : Hp} {D : Addr} {Qd : Hp → Prop} (hl : xs.length = ys.length) (Pv : Nat → Hp → Prop) (h0 : Pv 0 (upd H1 D (.lst [])))
    (hq : ∀ i H, Pv i H → SqT K H a xs ∧ SqT K H b ys)
    (hs : ∀ i x y T H, xs[i]? = some x → ys[i]? = some y → Pv i H → H T = none → g (.ref T) (wipe σ vs) (upd H T (.tup [x, y])) fun σ2 H2 => wipe σ2 vs = wipe σ vs ∧ tt σ2 H2 fun c H3 =>
      if c = true then te σ2 H3 fun z H4 => ∃ acc, H4 D = some (.lst acc) ∧ acc.length < sizeLine ∧ Pv (i + 1) (upd H4 D (.lst (acc ++ [z]))) else Pv (i + 1) H3) (hd : ∀ H, Pv xs.length H → Qd H) :
    ∃ W : Nat → Nat → Hp → Prop, (∃ m, W 0 m (upd H1 D (.lst []))) ∧ ∀ i m H, W i m H →
      ((RZ.ItzT K a b).stop i H ∧ Qd H) ∨ ((RZ.ItzT K a b).go i H ∧ ∃ Nx : Hp → Prop, (∀ H', Nx H' → ∃ m', m' < m ∧ W (i + 1) m' H') ∧ ∀ x H', (RZ.ItzT K a b).yld i H x H' → g x (wipe σ vs) H' fun σ2 H2 => wipe σ2 vs = wipe σ vs ∧ tt σ2 H2 fun c H3 =>
        if c = true then te σ2 H3 fun y H4 => ∃ acc, H4 D = some (.lst acc) ∧ acc.length < sizeLine ∧ Nx (upd H4 D (.lst (acc ++ [y]))) else Nx H3) := by
  refine ⟨fun i m H => m = xs.length - i ∧ i ≤ xs.length ∧ Pv i H, ⟨xs.length, by simp, Nat.zero_le _, h0⟩, ?_⟩
  rintro i m H ⟨rfl, hi, p⟩
  obtain ⟨q1, q2⟩ := hq i H p
  by_cases h : i < xs.length
  · have e1 : xs[i]? = some xs[i] := List.getElem?_eq_getElem h
    have e2 : ys[i]? = some (ys[i]'(hl ▸ h)) := List.getElem?_eq_getElem _
    refine .inr ⟨⟨xs, ys, _, _, q1, q2, e1, e2⟩, Pv (i + 1), fun H' z => ⟨xs.length - (i + 1), by omega, rfl, h, z⟩, fun x H' hy => ?_⟩
    obtain ⟨T, x1, x2, rfl, nT, rfl, f1, f2⟩ := hy
    exact hs i x1 x2 T H (f1 _ q1) (f2 _ q2) p nT
  · have e : i = xs.length := by omega
    subst e
    exact .inl ⟨⟨xs, ys, q1, q2, .inl (Nat.le_refl _)⟩, hd H p⟩
theorem Good.kind {K : Frag} {N : Addr → Prop} {H : Hp} {m : Nat} {x : V} (g : Good N H m x) :
    (∃ T bb, TyX K H x (.type T) ∧ kitB T "tuple" = some false ∧ kitB T "list" = some false ∧ kitB T "bool" = some bb ∧
      (scal x x = true ∨ ∃ a kvs, x = .ref a ∧ H a = some (.dK kvs) ∧ (kvs.map (·.1)).Nodup ∧ ∀ p ∈ kvs, flatB p.2 = true)) ∨
    (∃ a xs n, x = .ref a ∧ m = n + 1 ∧ (∀ y ∈ xs, Good N H n y) ∧ xs.length ≤ 100 ∧ (H a = some (.tup xs) ∨ H a = some (.lst xs))) := by
  cases g with
  | non n => exact .inl ⟨_, false, .base .non, by decide +kernel, by decide +kernel, by decide +kernel, .inl rfl⟩
  | bl n b => exact .inl ⟨_, true, .base (.bl b), by decide +kernel, by decide +kernel, by decide +kernel, .inl rfl⟩
  | int n i => exact .inl ⟨_, false, .base (.int i), by decide +kernel, by decide +kernel, by decide +kernel, .inl rfl⟩
  | str n s => exact .inl ⟨_, false, .base (.str s), by decide +kernel, by decide +kernel, by decide +kernel, .inl rfl⟩
  | dic n e nd fl => exact .inl ⟨_, false, .base (.dK e), by decide +kernel, by decide +kernel, by decide +kernel, .inr ⟨_, _, rfl, e, nd, fl⟩⟩
  | tup e h l => exact .inr ⟨_, _, _, rfl, rfl, h, l, .inl e⟩
  | lst e h l na => exact .inr ⟨_, _, _, rfl, rfl, h, l, .inr e⟩
theorem _root_.L2.Same.seqT {K : Frag} {H H' : Hp} {a : Addr} {xs : List V} (e : Same H H') (h : SqT K H a xs) : SqT K H' a xs := by
  rcases h with (h | ⟨o, h⟩) | h
  · exact .inl (.inl (e _ _ h))
  · exact .inl (.inr ⟨o, e _ _ h⟩)
  · exact .inr h
/-- an error class without a field; one with the field f -/
structure Er0 (K : Frag) (mg : Str → Option Value) (x : Str) (C : Addr) : Prop where
  g : mg x = some (.ref C)
  e : PySem.W.excIn K C PySem.HandSPX.veTail "ValueError.__new__" = true
  k : keepIn K (.ref C) = true
structure Er1 (P : Program) (K : Frag) (mg : Str → Option Value) (x f : Str) (C : Addr) : Prop where
  g : mg x = some (.ref C)
  e : ErrC P K mg C f
theorem BagAt.off {H : Hp} {b g a : Addr} {o : HO} (h : BagAt H b g) (e : H a = some o) (n : ∀ xs, o ≠ .lst xs) : a ≠ b ∧ a ≠ g := by
  obtain ⟨_, s, c, gs, al, h1, h2, _⟩ := h
  constructor
  · intro z
    rw [z, h1] at e
    exact n _ (Option.some.inj e).symm
  · intro z
    rw [z, h2] at e
    exact n _ (Option.some.inj e).symm
theorem But.keep {b g a : Addr} {H H' : Hp} {o : HO} (t : But b g H H') (h : BagAt H b g) (e : H a = some o) (n : ∀ xs, o ≠ .lst xs) : H' a = some o := t a o (h.off e n).1 (h.off e n).2 e
theorem ErrAt.but {b g a C : Addr} {H H' : Hp} {fs : List (Str × V)} (h : ErrAt H a C fs) (hb : BagAt H b g) (t : But b g H H') : ErrAt H' a C fs := by
  rcases h with ⟨d, h1, h2⟩ | ⟨h0, h1⟩
  · exact .inl ⟨d, t.keep hb h1 (fun xs z => nomatch (z : HO.ext _ = HO.lst xs)), t.keep hb h2 (fun xs z => nomatch (z : HO.ext _ = HO.lst xs))⟩
  · exact .inr ⟨h0, t.keep hb h1 (fun xs z => nomatch (z : HO.ext _ = HO.lst xs))⟩
theorem Good.but {N : Addr → Prop} {b g : Addr} {H H' : Hp} {n : Nat} {x : V} (h : Good N H n x) (hb : BagAt H b g) (t : But b g H H') (hN : ∀ a, N a → a ≠ b ∧ a ≠ g) : Good N H' n x :=
  h.keep (fun _ _ e => t.keep hb e (fun _ z => nomatch z)) (fun _ _ e => t.keep hb e (fun _ z => nomatch z)) fun a _ na e => ⟨na, t _ _ (hN a na).1 (hN a na).2 e⟩
theorem for_enumL {K : Frag} {a : Addr} {xs : List V} {g : TG} {tb : TS} {D : Ends} {σ : L2.St} {H : Hp} (Pv : Nat → L2.St → Hp → Prop) (h0 : Pv 0 σ H) (hq : ∀ i σ H, Pv i σ H → SqL K H a xs)
    (hs : ∀ i x T σ H, xs[i]? = some x → Pv i σ H → H T = none → g (.ref T) σ (upd H T (.tup [.int (i : Nat), x])) fun σ2 H2 => tb { D with nx := Pv (i + 1), ct := Pv (i + 1), bk := D.nx } σ2 H2) (hd : ∀ σ H, Pv xs.length σ H → D.nx σ H) :
    ∃ W : Nat → Nat → L2.St → Hp → Prop, (∃ m, W 0 m σ H) ∧ ∀ i m σ H, W i m σ H →
      ((Ite K a).stop i H ∧ D.nx σ H) ∨ ((Ite K a).go i H ∧ ∃ N : L2.St → Hp → Prop, (∀ σ' H', N σ' H' → ∃ m', m' < m ∧ W (i + 1) m' σ' H') ∧ ∀ x H', (Ite K a).yld i H x H' → g x σ H' fun σ2 H2 => tb { D with nx := N, ct := N, bk := D.nx } σ2 H2) := by
  refine ⟨fun i m σ H => m = xs.length - i ∧ i ≤ xs.length ∧ Pv i σ H, ⟨xs.length, by simp, Nat.zero_le _, h0⟩, ?_⟩
  rintro i m σ H ⟨rfl, hi, p⟩
  have q1 := hq i σ H p
  by_cases h : i < xs.length
  · have e1 : xs[i]? = some xs[i] := List.getElem?_eq_getElem h
    refine .inr ⟨⟨xs, _, q1, e1⟩, Pv (i + 1), fun σ' H' z => ⟨xs.length - (i + 1), by omega, rfl, h, z⟩, fun x H' hy => ?_⟩
    obtain ⟨T, x1, rfl, nT, rfl, f1⟩ := hy
    exact hs i x1 T σ H (f1 _ q1) p nT
  · have e : i = xs.length := by omega
    subst e
    exact .inl ⟨⟨xs, q1, Nat.le_refl _⟩, hd σ H p⟩
theorem at0 {α : Type} {x : α} {xs : List α} : atI (x :: xs) 0 = some x := atI_nat (j := 0) rfl
theorem ix0 {α : Type} {x : α} {xs : List α} : ixN (x :: xs).length 0 = some 0 := by
  unfold ixN
  rw [if_pos (Int.le_refl 0), if_pos (by rw [List.length_cons]; omega)]
  rfl
theorem sx0 {α : Type} {x : α} {xs : List α} : seqIndex? 0 (x :: xs).length = some 0 := (ixN_seq ix0).1
theorem cmulL {a b m : Int} (h : 0 < m) (h2 : m ≤ 4294967296) : CMul (a % m) b := by
  have h3 := Int.emod_nonneg a (show m ≠ 0 by omega)
  have h4 := Int.emod_lt_of_pos a h
  exact .inl ⟨by omega, by omega⟩
theorem cut63 {xs : List V} (h : xs.length ≤ 63) : cutV xs none (some 63) = xs := by
  have e : HT.sIx xs.length xs.length (some 63) = min 63 xs.length := HT.sIx_nat xs.length xs.length 63
  unfold cutV
  rw [e, HT.sIx_none, List.drop_zero]
  exact List.take_of_length_le (by omega)
theorem same_new {H : Hp} {p : Addr} {o : HO} (h : H p = none) : Same H (upd H p o) := fun b x e => by
  rw [upd_ne (ne_of_none e h)]
  exact e
theorem same_mut {H H' : Hp} {p : Addr} {o : HO} (e : Same H H') (h : H p = none) : Same H (upd H' p o) := fun b x q => by
  rw [upd_ne (ne_of_none q h)]
  exact e b x q
theorem len_lt {n : Nat} (h : n ≤ 1000) : n < sizeLine := Nat.lt_of_le_of_lt h (by rw [sizeLine_eq]; decide)
theorem len_le {n : Nat} (h : n ≤ 1000) : n ≤ sizeLine := Nat.le_of_lt (len_lt h)
theorem int_at {ns : List Int} {i : Nat} {x : V} (h : (ns.map V.int)[i]? = some x) : ∃ n, x = .int n ∧ i < ns.length := by
  rw [List.getElem?_map] at h
  cases e : ns[i]? with
  | none =>
    rw [e] at h
    cases h
  | some n =>
    rw [e] at h
    have hi : i < ns.length := by
      cases Nat.lt_or_ge i ns.length with
      | inl z => exact z
      | inr z =>
        rw [List.getElem?_eq_none_iff.mpr z] at e
        cases e
    exact ⟨n, (Option.some.inj h).symm, hi⟩
end Hn

set_option maxHeartbeats 4000000
/-! data of any kind on the heap, read and never changed -/
namespace Hn
open PySem PySem.Spec PyProof.Rows L2 EF
open PySem.W (Frag keepIn)
mutual
/-- x is the datum d; its lists stand where N lets them; a dict is a dict, whatever it holds -/
def Rep (N : Addr → Prop) (H : Hp) : PyData → V → Prop
  | .none, x => x = .non
  | .bool b, x => x = .bl b
  | .int i, x => x = .int i
  | .str s, x => x = .str s
  | .list ds, x => ∃ a xs, x = .ref a ∧ N a ∧ H a = some (.lst xs) ∧ RepL N H ds xs
  | .tuple ds, x => ∃ a xs, x = .ref a ∧ H a = some (.tup xs) ∧ RepL N H ds xs
  | .dict _, x => ∃ a kvs, x = .ref a ∧ H a = some (.dK kvs)
def RepL (N : Addr → Prop) (H : Hp) : List PyData → List V → Prop
  | [], xs => xs = []
  | d :: ds, xs => ∃ x r, xs = x :: r ∧ Rep N H d x ∧ RepL N H ds r
end
section
variable {N M : Addr → Prop} {H H' : Hp}
mutual
theorem Rep.keep (hd : ∀ a kvs, H a = some (.dK kvs) → H' a = some (.dK kvs)) (ht : ∀ a xs, H a = some (.tup xs) → H' a = some (.tup xs)) (hl : ∀ a xs, N a → H a = some (.lst xs) → M a ∧ H' a = some (.lst xs)) :
    ∀ {d : PyData} {x : V}, Rep N H d x → Rep M H' d x
  | .none, _, h => h
  | .bool _, _, h => h
  | .int _, _, h => h
  | .str _, _, h => h
  | .list ds, _, h => by
    obtain ⟨a, xs, rfl, na, e, r⟩ := h
    exact ⟨a, xs, rfl, (hl a xs na e).1, (hl a xs na e).2, RepL.keep hd ht hl r⟩
  | .tuple ds, _, h => by
    obtain ⟨a, xs, rfl, e, r⟩ := h
    exact ⟨a, xs, rfl, ht a xs e, RepL.keep hd ht hl r⟩
  | .dict _, _, h => by
    obtain ⟨a, kvs, rfl, e⟩ := h
    exact ⟨a, kvs, rfl, hd a kvs e⟩
theorem RepL.keep (hd : ∀ a kvs, H a = some (.dK kvs) → H' a = some (.dK kvs)) (ht : ∀ a xs, H a = some (.tup xs) → H' a = some (.tup xs)) (hl : ∀ a xs, N a → H a = some (.lst xs) → M a ∧ H' a = some (.lst xs)) :
    ∀ {ds : List PyData} {xs : List V}, RepL N H ds xs → RepL M H' ds xs
  | [], _, h => h
  | d :: ds, _, h => by
    obtain ⟨x, r, rfl, h1, h2⟩ := h
    exact ⟨x, r, rfl, Rep.keep hd ht hl h1, RepL.keep hd ht hl h2⟩
end
theorem Rep.same (s : Same H H') {d : PyData} {x : V} (h : Rep N H d x) : Rep N H' d x := h.keep (fun _ _ e => s _ _ e) (fun _ _ e => s _ _ e) fun _ _ na e => ⟨na, s _ _ e⟩
theorem RepL.same (s : Same H H') {ds : List PyData} {xs : List V} (h : RepL N H ds xs) : RepL N H' ds xs := h.keep (fun _ _ e => s _ _ e) (fun _ _ e => s _ _ e) fun _ _ na e => ⟨na, s _ _ e⟩
theorem RepL.length : ∀ {ds : List PyData} {xs : List V}, RepL N H ds xs → xs.length = ds.length
  | [], _, h => by rw [show _ = [] from h]; rfl
  | d :: ds, _, h => by
    obtain ⟨x, r, rfl, _, h2⟩ := h
    rw [List.length_cons, List.length_cons, RepL.length h2]
theorem RepL.get {x : V} : ∀ {ds : List PyData} {xs : List V} {i : Nat}, RepL N H ds xs → xs[i]? = some x → ∃ d, ds[i]? = some d ∧ Rep N H d x
  | [], _, i, h, e => by
    rw [show _ = [] from h] at e
    cases e
  | d :: ds, _, 0, h, e => by
    obtain ⟨y, r, rfl, h1, _⟩ := h
    cases e
    exact ⟨d, rfl, h1⟩
  | d :: ds, _, i + 1, h, e => by
    obtain ⟨y, r, rfl, _, h2⟩ := h
    exact RepL.get (ds := ds) (i := i) h2 e
theorem RepL.at {d : PyData} : ∀ {ds : List PyData} {xs : List V} {i : Nat}, RepL N H ds xs → ds[i]? = some d → ∃ x, xs[i]? = some x ∧ Rep N H d x
  | [], _, i, h, e => by cases e
  | d' :: ds, _, 0, h, e => by
    obtain ⟨y, r, rfl, h1, _⟩ := h
    cases e
    exact ⟨y, rfl, h1⟩
  | d' :: ds, _, i + 1, h, e => by
    obtain ⟨y, r, rfl, _, h2⟩ := h
    exact RepL.at (ds := ds) (i := i) h2 e
theorem RepL.of : ∀ {ds : List PyData} {xs : List V}, xs.length = ds.length → (∀ (i : Nat) (d : PyData) (x : V), ds[i]? = some d → xs[i]? = some x → Rep N H d x) → RepL N H ds xs
  | [], [], _, _ => rfl
  | d :: ds, x :: xs, l, h => ⟨x, xs, rfl, h 0 d x rfl rfl, RepL.of (by simpa using l) fun i d' x' e1 e2 => h (i + 1) d' x' e1 e2⟩
theorem RepL.app : ∀ {ds es : List PyData} {xs ys : List V}, RepL N H ds xs → RepL N H es ys → RepL N H (ds ++ es) (xs ++ ys)
  | [], _, _, _, h, k => by rw [show _ = [] from h]; exact k
  | d :: ds, _, _, _, h, k => by
    obtain ⟨x, r, rfl, h1, h2⟩ := h
    exact ⟨x, r ++ _, rfl, h1, RepL.app h2 k⟩
theorem RepL.take (n : Nat) {ds : List PyData} {xs : List V} (h : RepL N H ds xs) : RepL N H (ds.take n) (xs.take n) :=
  .of (by rw [List.length_take, List.length_take, h.length]) fun i d x e1 e2 => by
    rw [List.getElem?_take] at e1 e2
    split at e1
    · rename_i hi
      rw [if_pos hi] at e2
      obtain ⟨d', e', r⟩ := h.get e2
      rw [e1] at e'
      cases e'
      exact r
    · cases e1
theorem RepL.drop (n : Nat) {ds : List PyData} {xs : List V} (h : RepL N H ds xs) : RepL N H (ds.drop n) (xs.drop n) :=
  .of (by rw [List.length_drop, List.length_drop, h.length]) fun i d x e1 e2 => by
    rw [List.getElem?_drop] at e1 e2
    obtain ⟨d', e', r⟩ := h.get e2
    rw [e1] at e'
    cases e'
    exact r
theorem RepL.rev {ds : List PyData} {xs : List V} (h : RepL N H ds xs) : RepL N H ds.reverse xs.reverse :=
  .of (by rw [List.length_reverse, List.length_reverse, h.length]) fun i d x e1 e2 => by
    have hl := h.length
    have hi : i < ds.length := by
      rcases Nat.lt_or_ge i ds.length with q | q
      · exact q
      · rw [List.getElem?_eq_none_iff.mpr (by rw [List.length_reverse]; exact q)] at e1
        cases e1
    rw [List.getElem?_reverse hi] at e1
    rw [List.getElem?_reverse (by omega), hl] at e2
    obtain ⟨d', e', r⟩ := h.get e2
    rw [e1] at e'
    cases e'
    exact r
/-- a list of ints is a list of ints -/
theorem RepL.ints : ∀ {ns : List Int} {xs : List V}, RepL N H (ns.map PyData.int) xs → xs = ns.map V.int
  | [], _, h => h
  | n :: ns, _, h => by
    obtain ⟨x, r, rfl, h1, h2⟩ := h
    rw [show x = V.int n from h1, RepL.ints h2]
    rfl
theorem RepL.ofInts : ∀ (ns : List Int), RepL N H (ns.map PyData.int) (ns.map V.int)
  | [] => rfl
  | n :: ns => ⟨_, _, rfl, rfl, RepL.ofInts ns⟩
end
/-! ### what kind a datum is -/
def tyN : PyData → String
  | .none => "NoneType"
  | .bool _ => "bool"
  | .int _ => "int"
  | .str _ => "str"
  | .list _ => "list"
  | .tuple _ => "tuple"
  | .dict _ => "dict"
theorem Rep.ty {K : Frag} {N : Addr → Prop} {H : Hp} : ∀ {d : PyData} {x : V}, Rep N H d x → TyX K H x (.type (tyN d))
  | .none, _, h => by rw [show _ = V.non from h]; exact .base .non
  | .bool b, _, h => by rw [show _ = V.bl b from h]; exact .base (.bl b)
  | .int i, _, h => by rw [show _ = V.int i from h]; exact .base (.int i)
  | .str s, _, h => by rw [show _ = V.str s from h]; exact .base (.str s)
  | .list ds, _, h => by
    obtain ⟨a, xs, rfl, _, e, _⟩ := h
    exact .base (.lst e)
  | .tuple ds, _, h => by
    obtain ⟨a, xs, rfl, e, _⟩ := h
    exact .base (.tup e)
  | .dict _, _, h => by
    obtain ⟨a, kvs, rfl, e⟩ := h
    exact .base (.dK e)
def isTupD : PyData → Bool
  | .tuple _ => true
  | _ => false
def isIntD : PyData → Bool
  | .int _ => true
  | .bool _ => true
  | _ => false
def isBoolD : PyData → Bool
  | .bool _ => true
  | _ => false
theorem kit_tup (d : PyData) : kitB (tyN d) "tuple" = some (isTupD d) := by
  cases d with
  | none => exact (by decide +kernel : kitB "NoneType" "tuple" = some false)
  | bool _ => exact (by decide +kernel : kitB "bool" "tuple" = some false)
  | int _ => exact (by decide +kernel : kitB "int" "tuple" = some false)
  | str _ => exact (by decide +kernel : kitB "str" "tuple" = some false)
  | list _ => exact (by decide +kernel : kitB "list" "tuple" = some false)
  | tuple _ => exact (by decide +kernel : kitB "tuple" "tuple" = some true)
  | dict _ => exact (by decide +kernel : kitB "dict" "tuple" = some false)
theorem kit_int (d : PyData) : kitB (tyN d) "int" = some (isIntD d) := by
  cases d with
  | none => exact (by decide +kernel : kitB "NoneType" "int" = some false)
  | bool _ => exact (by decide +kernel : kitB "bool" "int" = some true)
  | int _ => exact (by decide +kernel : kitB "int" "int" = some true)
  | str _ => exact (by decide +kernel : kitB "str" "int" = some false)
  | list _ => exact (by decide +kernel : kitB "list" "int" = some false)
  | tuple _ => exact (by decide +kernel : kitB "tuple" "int" = some false)
  | dict _ => exact (by decide +kernel : kitB "dict" "int" = some false)
theorem kit_bool (d : PyData) : kitB (tyN d) "bool" = some (isBoolD d) := by
  cases d with
  | none => exact (by decide +kernel : kitB "NoneType" "bool" = some false)
  | bool _ => exact (by decide +kernel : kitB "bool" "bool" = some true)
  | int _ => exact (by decide +kernel : kitB "int" "bool" = some false)
  | str _ => exact (by decide +kernel : kitB "str" "bool" = some false)
  | list _ => exact (by decide +kernel : kitB "list" "bool" = some false)
  | tuple _ => exact (by decide +kernel : kitB "tuple" "bool" = some false)
  | dict _ => exact (by decide +kernel : kitB "dict" "bool" = some false)
/-! ### webs -/
/-- each item is less than the next one -/
def asc : List Int → Bool
  | x :: y :: r => decide (x < y) && asc (y :: r)
  | _ => true
def perB (many : Int) : PyData → Bool
  | .int i => decide (0 ≤ i) && decide (i < many)
  | _ => false
def intOf : PyData → Int
  | .int i => i
  | _ => 0
def pocketB (u many : Int) : PyData → Bool
  | .tuple ds => ds.all (fun d => perB many d && !decide (intOf d = u)) && asc (ds.map intOf)
  | _ => false
def pocketsB (many : Int) : Nat → List PyData → Bool
  | _, [] => true
  | u, p :: ps => pocketB (u : Int) many p && pocketsB many (u + 1) ps
def webB : PyData → Bool
  | .tuple ps => (decide (1 ≤ ps.length) && decide (ps.length ≤ 9)) && pocketsB (ps.length : Int) 0 ps
  | _ => false
theorem pers_ints : ∀ {ds : List PyData} {many u : Int}, ds.all (fun d => perB many d && !decide (intOf d = u)) = true → ds = (ds.map intOf).map PyData.int
  | [], _, _, _ => rfl
  | d :: ds, many, u, h => by
    rw [List.all_cons, Bool.and_eq_true] at h
    have ih := pers_ints (ds := ds) h.2
    cases d with
    | int i =>
      show PyData.int i :: ds = PyData.int i :: (ds.map intOf).map PyData.int
      rw [← ih]
    | _ => simp [perB] at h
theorem asc_range : ∀ ns : List Int, asc ns = ((List.range (ns.length - 1)).map fun k => decide (ns.getD k 0 < ns.getD (k + 1) 0)).all id
  | [] => rfl
  | [_] => rfl
  | x :: y :: r => by
    have ih := asc_range (y :: r)
    show (decide (x < y) && asc (y :: r)) = ((List.range (r.length + 1)).map fun k => decide ((x :: y :: r).getD k 0 < (x :: y :: r).getD (k + 1) 0)).all id
    rw [ih, List.range_succ_eq_map, List.map_cons, List.map_map, List.all_cons]
    rfl
theorem pocketsB_range (m : Int) : ∀ (ps : List PyData) (u : Nat), pocketsB m u ps = ((List.range ps.length).map fun k => pocketB ((u + k : Nat) : Int) m (ps.getD k .none)).all id
  | [], _ => rfl
  | p :: ps, u => by
    have ih := pocketsB_range m ps (u + 1)
    show (pocketB (u : Int) m p && pocketsB m (u + 1) ps) = ((List.range (ps.length + 1)).map fun k => pocketB ((u + k : Nat) : Int) m ((p :: ps).getD k .none)).all id
    rw [ih, List.range_succ_eq_map, List.map_cons, List.map_map, List.all_cons]
    congr 2
    apply List.map_congr_left
    intro k _
    show pocketB ((u + 1 + k : Nat) : Int) m (ps.getD k .none) = pocketB ((u + (k + 1) : Nat) : Int) m (ps.getD k .none)
    congr 2
    omega
end Hn

set_option maxHeartbeats 4000000
/-! the library's rules with the written part by its own name: within a comprehension the reading must not speak of the block -/
namespace Hn
open PySem PySem.Spec PyProof.Rows L2 EF
open PySem.W (Frag keepIn)
section
variable {X : Cx} {K : Frag} {tg e e2 : Expr} {tl : TE} {ta t : TA} {p pos tpos : Pos} {elts : List Expr} {kk : Nat}
theorem ix_listK (h : X.K = K) : IxR X (rIxL K) := by subst h; exact ix_list
theorem ix_tupK (h : X.K = K) : IxR X (rIxT K) := by subst h; exact ix_tup
theorem in_seqK (h : X.K = K) : OpR X (compareOp .In) (rIn K false) := by subst h; exact op_in_seq
theorem notIn_seqK (h : X.K = K) : OpR X (compareOp .NotIn) (rIn K true) := by subst h; exact op_notIn_seq
theorem isiK (h : X.K = K) : CallR X (.builtin "isinstance") (rIsi K) := by subst h; exact call_isi
theorem isiTK (h : X.K = K) : CallR X (.builtin "isinstance") (rIsiT K) := by subst h; exact call_isiT
theorem isiEK (h : X.K = K) : CallR X (.builtin "isinstance") (rIsiE K) := by subst h; exact call_isiE
theorem allK (h : X.K = K) (hc : X.calm = true) : CallR X (.builtin "all") (rAll K) := by subst h; exact cr_all hc
theorem anyK (h : X.K = K) (hc : X.calm = true) : CallR X (.builtin "any") (rAny K) := by subst h; exact cr_any hc
theorem sumK (h : X.K = K) (hc : X.calm = true) : CallR X (.builtin "sum") (rSum K) := by subst h; exact cr_sum hc
/-- len of a list, of a tuple -/
def rLen (K : Frag) : List V → Hp → VK → Prop := fun xs H Q => ∃ p ys, xs = [.ref p] ∧ (SqL K H p ys ∨ SqT K H p ys) ∧ Q (.int ys.length) H
theorem lenK (h : X.K = K) : CallR X (.builtin "len") (rLen K) := by subst h; exact call_len_seq
/-- list(x) of a list, of a tuple -/
def rListOf (K : Frag) : List V → Hp → VK → Prop := fun xs H Q => ∃ p ys, xs = [.ref p] ∧ (SqL K H p ys ∨ SqT K H p ys) ∧ ∀ l, H l = none → Q (.ref l) (upd H l (.lst ys))
theorem listK (h : X.K = K) : CallR X (.type "list") (rListOf K) := by subst h; exact call_list_of
/-- tuple(x) -/
def rTupOf (K : Frag) : List V → Hp → VK → Prop := fun xs H Q => ∃ p ys, xs = [.ref p] ∧ ((SqL K H p ys ∧ ∀ l, H l = none → Q (.ref l) (upd H l (.tup ys))) ∨ (SqT K H p ys ∧ Q (.ref p) H))
theorem tupleK (h : X.K = K) : CallR X (.type "tuple") (rTupOf K) := by subst h; exact call_tuple_of
theorem sl_listK (h : X.K = K) : SlR X (rSlL K) := by subst h; exact sl_list
theorem sl_tupK (h : X.K = K) : SlR X (rSlA K) := by subst h; exact sl_tupA
theorem catAK (h : X.K = K) : OpR X (binaryOp .Add) (rCatA K) := by subst h; exact op_catA
theorem pi_listK (h : X.K = K) (hl : PE X e tl) : PI X tg e (iList K tl) := by subst h; exact pi_list hl
theorem pi_tupK (h : X.K = K) (hl : PE X e tl) : PI X tg e (iTup K tl) := by subst h; exact pi_tup hl
theorem pi_enumK (h : X.K = K) (hg : Gl X "enumerate") (hm : X.mg "enumerate" = none) (ha : PA X [e] ta) (hs : starEach [e] X.env = [(false, eval e X.env)] := by rfl) :
    PI X (.Tuple elts kk tpos) (.Call (.Name "enumerate" p) [e] [] pos) (iEnum K ta) := by subst h; exact pi_enum hg hm ha hs
theorem pi_zipK (h : X.K = K) (hg : Gl X "zip") (hm : X.mg "zip" = none) (ha : PA X [e, e2] ta) (hs : starEach [e, e2] X.env = (false, eval e X.env) :: starEach [e2] X.env := by rfl) (hs2 : (backTo pos (starEach [e2] X.env)).any (·.1) = false := by rfl) :
    PI X (.Tuple elts kk tpos) (.Call (.Name "zip" p) [e, e2] [] pos) (RZ.iZipA K ta) := by subst h; exact RZ.pi_zipA hg hm ha hs hs2
end
end Hn

set_option maxHeartbeats 4000000
/-! set comprehensions whose elements are of any kind, given how one is put in -/
namespace Hn
open PySem PySem.Spec PyProof.Rows L2 EF
open PySem.W (Frag keepIn)
/-- an empty set, as Python makes it -/
def noneSet (w : World) : Obj := { cls := Value.type "set", data := Data.set #[] 0 (SetTable.fresh 0 0 !w.params.followText "set-order") }
/-- how a kind of sets stands on the heap: fresh D is the empty one, add D y H N says that y can be put into D's, and N holds then -/
structure SetWord (X : Cx) (fresh : Addr → HO) (add : Addr → V → Hp → (Hp → Prop) → Prop) : Prop where
  new : ∀ (H : Hp) (h : Heap) (a : Addr), h.get? a = some (noneSet X.w) → ObjOk X.prog X.w H h a (fresh a)
  put : ∀ (Y : Cx) (pins : List (Addr × Obj)) (σ : L2.St) (H : Hp) (s : Shared) (E : Value → Shared → Prop) (D : Addr) (y : V) (u : Value) (N : Hp → Prop) (Q : Value → Shared → Prop),
    Y.prog = X.prog → Y.w = X.w → Y.K = X.K → Y.A = X.A → Y.calm = X.calm → L2.Inv Y pins σ H s → L2.RelV y u → add D y H N → (∀ s' H', L2.Inv Y pins σ H' s' → N H' → Q .none s') →
    wpAny (model Y.prog Y.w) Y.A (call (.builtin "set.add") [.ref D, u]) Q E s
/-- the turns of a set comprehension -/
def SgTurns (add : Addr → V → Hp → (Hp → Prop) → Prop) (g : TG) (tt : TT) (te : TE) (ρ : L2.St) (vs : List Nat) (J : It) (D : Addr) (R : Hp → Prop) (W : Nat → Nat → Hp → Prop) : Prop :=
  ∀ (i m : Nat) (H : Hp), W i m H → (J.stop i H ∧ R H) ∨ (J.go i H ∧ ∃ N : Hp → Prop, (∀ H', N H' → ∃ m', m' < m ∧ W (i + 1) m' H') ∧
    ∀ (x : V) (H' : Hp), J.yld i H x H' → g x ρ H' fun σ2 H2 => wipe σ2 vs = ρ ∧ tt σ2 H2 fun b H3 => if b = true then te σ2 H3 fun y H4 => add D y H4 N else N H3)
def tSg (fresh : Addr → HO) (add : Addr → V → Hp → (Hp → Prop) → Prop) (wi : TI) (g : TG) (tt : TT) (te : TE) (vs : List Nat) : TE :=
  fun σ H Q => wi σ H fun J H1 => ∀ D, H1 D = none → ∃ W, (∃ m, W 0 m (upd H1 D (fresh D))) ∧ SgTurns add g tt te (wipe σ vs) vs J D (fun H => Q (.ref D) H) W
section
variable {X : Cx} {elt tg iter : Expr} {ifs : List Expr} {scope : Scope} {own : List (Str × Nat)} {pos : Pos} {wi : TI} {g : TG} {tt : TT} {te : TE} {fresh : Addr → HO} {add : Addr → V → Hp → (Hp → Prop) → Prop}
/-- the loop itself, within a block B -/
theorem sg_loop {B : Cx} (SW : SetWord X fresh add) (e1 : B.prog = X.prog) (e2 : B.w = X.w) (e3 : B.K = X.K) (e4 : B.A = X.A) (e5 : B.calm = X.calm) (hc : X.calm = true) {J : It} {fp : List Addr} {it : Addr} {tn : Nat → Heap → Prop}
    (T : Turn X.prog X.w X.K tg J fp it tn) (pg : PG B tg g) (pt : PTs B ifs tt) (pe : PE B elt te) (hx : B.xe = fun _ _ => False) {D : Addr} {R : Hp → Prop} {W : Nat → Nat → Hp → Prop} {ρ : L2.St} {vs : List Nat}
    (hT : SgTurns add g tt te ρ vs J D R W)
    (stat : ∀ H s, L2.Inv B [] ρ H s → (∀ b ∈ fp, H b = none) → ∀ b ∈ fp, FpOk B [] H b)
    {G : Result → Shared → Prop} (fin : ∀ H s, L2.Inv B [] ρ H s → R H → G (.ok .next) s)
    {m i : Nat} {H : Hp} {s : Shared} (I : L2.Inv B [] ρ H s) (st : tn i s.heap) (nf : ∀ b ∈ fp, H b = none) (w : W i m H) :
    codeAny (model X.prog X.w) X.A (.compLoop (.SetComp elt [⟨tg, iter, ifs, 0⟩] scope pos) 0 (.ref it) (.ref D) B.env) G s := by
  refine PpSet.compLoopS_any (fun k s' => ∃ i H', L2.Inv B [] ρ H' s' ∧ tn i s'.heap ∧ (∀ b ∈ fp, H' b = none) ∧ W i k H') ?_ m ⟨i, H, I, st, nf, w⟩
  rintro k s5 ⟨i, H5, I5, st5, n5, w5⟩
  rcases hT i k H5 w5 with ⟨stop, r⟩ | ⟨go, N, hN, step⟩
  · have td := T.done B e1 e2 e3 (e5.trans hc) i [] s5 ρ H5 (fun _ _ => False) I5 (stat H5 s5 I5 n5) st5 stop
    rw [e4] at td
    refine thnF td ?_
    rintro _ s6 ⟨rfl, I6⟩
    exact fin H5 s6 I6 r
  · have ti := T.item B e1 e2 e3 (e5.trans hc) i [] s5 ρ H5 (fun _ _ => False) I5 (stat H5 s5 I5 n5) st5 go
    rw [e4] at ti
    refine thnF ti ?_
    rintro _ s6 ⟨u, rfl, h6⟩
    refine thnF h6 ?_
    rintro _ s7 ⟨x, H7, I7, r7, y7, st7, n7⟩
    have I7' := I7.pinned (stat H7 s7 I7 n7) (T.obj (i + 1) s7.heap st7)
    have z := pg.run ([] ++ pinsAt fp s7.heap) s7 ρ H7 x u _ I7' r7 (step x H7 y7)
    rw [hx, e1, e2, e4] at z
    refine thnF z ?_
    rintro _ s8 ⟨σ8, H8, I8, hw8, q8⟩
    have z := pt.run ([] ++ pinsAt fp s7.heap) s8 σ8 H8 _ I8 q8
    rw [hx, e1, e2, e4] at z
    refine thnF z ?_
    rintro b s9 ⟨H9, I9, q9⟩
    have fin' : ∀ s' H', L2.Inv B ([] ++ pinsAt fp s7.heap) σ8 H' s' → N H' → ∃ k', k' < k ∧ ∃ i H', L2.Inv B [] ρ H' s' ∧ tn i s'.heap ∧ (∀ b ∈ fp, H' b = none) ∧ W i k' H' := by
      intro s' H' I' nx
      obtain ⟨k', hk, w'⟩ := hN H' nx
      have pin : ∀ b ∈ fp, ∀ o, s7.heap.get? b = some o → s'.heap.get? b = some o ∧ H' b = none := fun b hb o e => by
        have z := I'.pin (b, o) (List.mem_append_right _ (List.mem_append_right _ (mem_pinsAt hb e)))
        exact ⟨z.1, z.2.1⟩
      refine ⟨k', hk, i + 1, H', (I'.unpinned).weak ?_ ?_, T.keep (i + 1) s7.heap s'.heap st7 fun b hb o e => (pin b hb o e).1, fun b hb => ?_, w'⟩
      · rw [← hw8, wipe_length]
      · intro j v e
        rw [← hw8] at e
        exact (wipe_some e).1
      · obtain ⟨o, e, _⟩ := T.obj (i + 1) s7.heap st7 b hb
        exact (pin b hb o e).2
    cases b with
    | false => exact fin' s9 H9 I9 q9
    | true =>
      have z := pe.run ([] ++ pinsAt fp s7.heap) s9 σ8 H9 _ I9 q9
      rw [hx, e1, e2, e4] at z
      refine thnF z ?_
      rintro v s10 ⟨y, H10, I10, r10, q10⟩
      have z := SW.put B ([] ++ pinsAt fp s7.heap) σ8 H10 s10 (notedBy (model X.prog X.w) X.A B.env fun e s' => G (Except.error e) s') D y v N (fun _ s5 => ∃ k', k' < k ∧ ∃ i H', L2.Inv B [] ρ H' s5 ∧ tn i s5.heap ∧ (∀ b ∈ fp, H' b = none) ∧ W i k' H') e1 e2 e3 e4 e5 I10 r10 q10 fin'
      rw [e1, e2, e4] at z
      exact z
/-- {e for x in xs if t} -/
theorem pe_sg (SW : SetWord X fresh add) (hc : X.calm = true) (hN : X.N.Nodup) (hi : PI X tg iter wi) (ok : BlkOk X.N X.env.scope scope own)
    (hg : ∀ (s : Shared) (H : Hp) (C : Addr) (cl : List (Str × Addr)) (fp : List Addr), PG (X.blk s H scope (compEnvC scope cl C X.env) fp) tg g)
    (ht : ∀ (s : Shared) (H : Hp) (C : Addr) (cl : List (Str × Addr)) (fp : List Addr), PTs (X.blk s H scope (compEnvC scope cl C X.env) fp) ifs tt)
    (he : ∀ (s : Shared) (H : Hp) (C : Addr) (cl : List (Str × Addr)) (fp : List Addr), PE (X.blk s H scope (compEnvC scope cl C X.env) fp) elt te)
    (hs : ∀ x : Value, foldedSetIterable iter X.env x = pure x := by intro x; rfl) :
    PE X (.SetComp elt [⟨tg, iter, ifs, 0⟩] scope pos) (tSg fresh add wi g tt te (own.map (·.2))) := by
  refine ⟨fun pins s σ H Q I h => ?_⟩
  rw [PpSet.eval_SetComp]
  have cl : ∀ y ∈ scope.names, y.2 = .free → ∃ c, List.lookup y.1 X.env.cells = some c := fun y hy e => (ok.free y hy e).elim (fun k => I.ok.has y.1 (.inl k)) fun k => I.ok.has y.1 (.inr k)
  refine wpAny_comprehension_free rfl hs (closure_ok cl) ok.kind (fun y hy e => by rw [ok.uniq y hy, e]) ?_
  refine thn (hi.run pins s σ H _ I h) fun v s1 a => thn a ?_
  rintro _ s2 ⟨it, fp, tn, J, H2, rfl, I2, T, st2, f2, q⟩
  refine PpSet.newSet_ok (newEnv_comp ?_)
  obtain ⟨W, ⟨m0, w0⟩, turns⟩ := q s2.heap.objs.size (HOk.fresh I2.hok (Nat.le_refl _))
  have kp : ∀ b o, s2.heap.get? b = some o → (s2.heap.push (noneSet X.w)).get? b = some o := fun b o e => Heap.get?_push_of_some _ e
  have I3 : L2.Inv X pins σ (upd H2 s2.heap.objs.size (fresh s2.heap.objs.size)) ⟨s2.heap.push (noneSet X.w), s2.gens, s2.drawn, s2.toks, s2.os⟩ :=
    I2.laid kp (Nat.le_refl _) (SW.new _ _ _ (Heap.get?_push_size _ rfl))
  have sz3 : s2.heap.objs.size < (s2.heap.push (noneSet X.w)).objs.size := by rw [Heap.size_push]; exact Nat.lt_succ_self _
  have sz : ∀ b ∈ fp, b < s2.heap.objs.size := fun b hb => by
    obtain ⟨o, e, _⟩ := T.obj 0 s2.heap st2 b hb
    exact Heap.lt_size e
  have f3 : ∀ b ∈ fp, FpOk X pins (upd H2 s2.heap.objs.size (fresh s2.heap.objs.size)) b ∧ b < (s2.heap.push (noneSet X.w)).objs.size := fun b hb =>
    ⟨⟨by rw [upd_ne (Nat.ne_of_lt (sz b hb))]; exact (f2 b hb).1, (f2 b hb).2⟩, Nat.lt_trans (sz b hb) sz3⟩
  have st3 := T.keep 0 s2.heap (s2.heap.push (noneSet X.w)) st2 fun b _ o e => kp b o e
  generalize hs3 : (⟨s2.heap.push (noneSet X.w), s2.gens, s2.drawn, s2.toks, s2.os⟩ : Shared) = s3 at I3
  have h3 : s2.heap.push (noneSet X.w) = s3.heap := by rw [← hs3]
  rw [h3] at f3 st3
  have I4 := block_start I3 ok hN f3
  have pg := hg s3 (upd H2 s2.heap.objs.size (fresh s2.heap.objs.size)) s3.heap.objs.size (cellsFrom (s3.heap.objs.size + 1) scope.names (cloFrom X.env.cells scope.names [])) fp
  have pt := ht s3 (upd H2 s2.heap.objs.size (fresh s2.heap.objs.size)) s3.heap.objs.size (cellsFrom (s3.heap.objs.size + 1) scope.names (cloFrom X.env.cells scope.names [])) fp
  have pe := he s3 (upd H2 s2.heap.objs.size (fresh s2.heap.objs.size)) s3.heap.objs.size (cellsFrom (s3.heap.objs.size + 1) scope.names (cloFrom X.env.cells scope.names [])) fp
  have st4 := T.keep 0 s3.heap (pushCells (s3.heap.push { cls := .type "dict", data := .dict #[] }) scope.names) st3 fun b _ o e => pushCells_keeps _ _ b o (Heap.get?_push_of_some _ e)
  have loop : codeAny (model X.prog X.w) X.A (.compLoop (.SetComp elt [⟨tg, iter, ifs, 0⟩] scope pos) 0 (.ref it) (.ref s2.heap.objs.size) (compEnvC scope (cellsFrom (s3.heap.objs.size + 1) scope.names (cloFrom X.env.cells scope.names [])) s3.heap.objs.size X.env))
      (compPost (model X.prog X.w) X.A X.xe none (EP X pins σ Q) (.ref s2.heap.objs.size) s3.heap.objs.size) ⟨pushCells (s3.heap.push { cls := .type "dict", data := .dict #[] }) scope.names, s3.gens, s3.drawn, s3.toks, s3.os⟩ := by
    refine sg_loop (B := X.blk s3 (upd H2 s2.heap.objs.size (fresh s2.heap.objs.size)) scope (compEnvC scope (cellsFrom (s3.heap.objs.size + 1) scope.names (cloFrom X.env.cells scope.names [])) s3.heap.objs.size X.env) fp) SW rfl rfl rfl rfl rfl hc T pg pt pe rfl turns ?_ ?_ I4 st4 (fun b hb => (f3 b hb).1.1) w0
    · intro H' s' I' n b hb
      exact ⟨n b hb, (I'.ok.exf b hb).1, I'.ok.exfs b hb, .inl hb, fun x c e => (I'.ok.exf b hb).2 x c e, fun p hp => absurd hp (by simp)⟩
    · intro H' s' I' r
      have I7 : L2.Inv X pins σ H' s' := I3.call' I'.os I'.base I'.hok I'.bare fun b hb => ⟨(f3 b hb).1.2.2.2.1, (f3 b hb).1.2.1, (f3 b hb).1.2.2.2.2.1, (f3 b hb).1.2.2.2.2.2⟩
      have k := I3.fpOk (Nat.le_refl _) (show H' s3.heap.objs.size = none from I'.free)
      obtain ⟨m, hm, _⟩ := I'.loc
      exact ⟨m, hm, fun h' sb => ⟨.ref s2.heap.objs.size, H', I7.turned (fun b o ne e => (sb.2 b ne).trans e) k.1 k.2.1 k.2.2.2.1 k.2.2.2.2.1 k.2.2.2.2.2, rfl, r⟩⟩
  rw [← hs3] at loop st4
  exact PpSet.codeAny_compStart_set loop (T.self X.A 0 _ _ _ st4 loop)
end
end Hn

set_option maxHeartbeats 4000000
/-! sets of tuples of ints: made by a comprehension, sorted whatever the lengths -/
namespace Hn
open PySem PySem.Spec PyProof.Rows L2 EF
open PySem.W (Frag keepIn)
/-- y, a tuple of ints, can be put into the set at D, and N holds then -/
def addT (K : Frag) (P : Program) (w : World) (D : Addr) (y : V) (H : Hp) (N : Hp → Prop) : Prop :=
  ∃ (x : Addr) (k : List Int) (L : List (Addr × List Int)), y = .ref x ∧ SqT K H x (k.map V.int) ∧ H D = some (SetTO P w D L) ∧ (∀ p ∈ L, SqT K H p.1 (p.2.map V.int)) ∧ L.length + 1 < 64 ∧
    ∀ L', (k ∈ L.map (·.2) → L' = L) → (k ∉ L.map (·.2) → L'.Perm ((x, k) :: L)) → N (upd H D (SetTO P w D L'))
theorem putT {Y : Cx} {pins : List (Addr × Obj)} {σ : L2.St} {H : Hp} {s : Shared} {E : Value → Shared → Prop} {D : Addr} {y : V} {u : Value} {N : Hp → Prop} {Q : Value → Shared → Prop} (hu : Y.A.units + 1 < cLine)
    (I : L2.Inv Y pins σ H s) (r : L2.RelV y u) (h : addT Y.K Y.prog Y.w D y H N) (q : ∀ s' H', L2.Inv Y pins σ H' s' → N H' → Q .none s') : wpAny (model Y.prog Y.w) Y.A (call (.builtin "set.add") [.ref D, u]) Q E s := by
  obtain ⟨x, k, L, rfl, hx, hD, hL, few, n⟩ := h
  obtain rfl : u = Value.ref x := r
  have z := (I.hok D _ hD).1
  obtain ⟨es, ep, t, S⟩ := z.full fun p hp => I.isT (hL p hp)
  obtain ⟨o, ho, eo, do'⟩ := S.ob
  refine wpAny_call_entry F.slot_set_add ⟨o, ho, eo.1⟩ F.entry_set_add ?_ (F.args_set_add_2 _ _)
  show wpAny _ _ (do let x ← (do let a ← Builtin.Frozenset.addrOf (.ref D); pure (a, Value.ref x)); let _ ← setAdd x.1 x.2; ret Value.none) _ _ _
  refine wpAny_bind (wpAny_bind (wpAny_pure (wpAny_pure (wpAny_bind (wpAny_holding (wpAny_bind (wpAny_pyHash_tuple hu (I.isT hx) ?_)))))))
  refine add_at (s := ⟨s.heap, s.gens, s.drawn, s.toks + (k.length + 1), s.os⟩) S (I.isT hx) hu few ?_
  intro b h' L' es' ep' t' sb S' e1 e2
  refine wpAny_pure ⟨.none, rfl, q _ (upd H D (SetTO Y.prog Y.w D L')) ?_ (n L' e1 e2)⟩
  refine I.write ?_ (.inl rfl) (fun b u ne e => (sb.2 b ne).trans e) ?_ (setTO_new S'.t0)
  · rw [hD]
    exact trivial
  · obtain ⟨o', ho', _⟩ := S'.ob
    exact ⟨o', ho'⟩
theorem wordT {X : Cx} (hu : X.A.units + 1 < cLine) : SetWord X (fun D => SetTO X.prog X.w D []) (addT X.K X.prog X.w) where
  new := fun H h a e => setTO_new (setTR_fresh e).t0
  put := fun Y pins σ H s E D y u N Q e1 e2 e3 e4 e5 I r h q => by
    rw [← e1, ← e2, ← e3] at h
    exact putT (by rw [e4]; exact hu) I r h q
end Hn

set_option maxHeartbeats 4000000
/-! sorted(s) of a set of tuples of ints of any lengths -/
namespace Hn
open PySem PySem.Spec PyProof.Rows L2 EF
open PySem.W (Frag keepIn)
/-- the datum of a tuple of ints -/
def encT (p : Addr × List Int) : PyData := .tuple (p.2.map .int)
/-- q does not stand behind r -/
def notAfter (q r : Addr × List Int) : Prop := ¬ r.2 < q.2
theorem refs_pick {L : List (Addr × List Int)} : ∀ {vs : List Value}, (∀ v ∈ vs, ∃ q ∈ L, v = Value.ref q.1) → ∃ L1 : List (Addr × List Int), vs = L1.map (fun q => Value.ref q.1) ∧ ∀ q ∈ L1, q ∈ L
  | [], _ => ⟨[], rfl, fun _ h => nomatch h⟩
  | v :: vs, h => by
    obtain ⟨q, hq, rfl⟩ := h v List.mem_cons_self
    obtain ⟨L1, rfl, h1⟩ := refs_pick (vs := vs) fun u hu => h u (List.mem_cons_of_mem _ hu)
    exact ⟨q :: L1, rfl, fun r hr => (List.mem_cons.mp hr).elim (fun e => e ▸ hq) (h1 r)⟩
theorem each_refs : ∀ (L : List (Addr × List Int)), W.EachIs (fun v p => v = Value.ref p.1) (L.map fun q => Value.ref q.1) L
  | [] => .nil
  | q :: L => .cons rfl (each_refs L)
theorem of_each : ∀ {vs : List Value} {L : List (Addr × List Int)}, W.EachIs (fun v p => v = Value.ref p.1) vs L → vs = L.map fun q => Value.ref q.1
  | _, _, .nil => rfl
  | _, _, .cons h t => by rw [h, of_each t]; rfl
theorem reads_ints {h : Heap} : ∀ {ks : List Int} {vs : List Value}, IntsAre vs ks → ReadsAll h vs (ks.map .int) []
  | _, _, .nil => .nil
  | _, _, .cons n t r => .cons (.int n t) (reads_ints r)
/-- what holds of each holds of all -/
theorem each_mem {R : Value → Addr × List Int → Prop} : ∀ {L : List (Addr × List Int)}, (∀ q ∈ L, R (.ref q.1) q) → W.EachIs R (L.map fun q => Value.ref q.1) L
  | [], _ => .nil
  | q :: L, h => .cons (h q List.mem_cons_self) (each_mem fun r hr => h r (List.mem_cons_of_mem _ hr))
theorem lt_enc (p q : Addr × List Int) : W.dataLt (encT p) (encT q) = decide (p.2 < q.2) := by
  rw [encT, encT, W.dataLt_tuple]
  exact W.dataLt_ints p.2 q.2
theorem le_enc (p q : Addr × List Int) : W.dataLe false encT p q = !decide (q.2 < p.2) := by
  rw [← lt_enc]
  rfl
theorem reads_tup {P : Program} {w : World} {h : Heap} {q : Addr × List Int} (t : L2.IsT P w h q.2 q.1) : Reads h (.ref q.1) (encT q) [] := by
  obtain ⟨o, items, n, ho, ec, ed, i⟩ := t
  exact .tuple ho ec ed (reads_ints (ints_of_items i))
theorem sortedS {P : Program} {w : World} {A : Around} {E : Value → Shared → Prop} {s : Shared} {a : Addr} {L : List (Addr × List Int)} {es : Array (Int × Value)} {ep : Nat} {t : SetTable} {Q : Value → Shared → Prop}
    (R : SetTR P w s.heap a L es ep t) (hh : A.handled = none) (hu : A.units + 10 < cLine) (ne : ∀ p ∈ L, p.2 ≠ [])
    (hQ : ∀ (s' : Shared) (p : Addr) (out : Array Value) (c : Nat) (L' : List (Addr × List Int)), (∀ b o, s.heap.get? b = some o → s'.heap.get? b = some o) → s'.gens = s.gens → s'.os = s.os → s.heap.objs.size ≤ p →
      s'.heap.get? p = some (seqObj "list" out c) → out.toList = L'.map (fun q => Value.ref q.1) → L'.Perm L → L'.Pairwise notAfter → Q (.ref p) s') :
    wpAny (model P w) A (call (.builtin "sorted") [.ref a]) Q E s := by
  obtain ⟨o, ho, hex, hd⟩ := R.ob
  have hsz := R.size
  have few := R.few
  refine Calls.call_function_entry kind_sorted plain_sorted entry_sorted (args_sorted1 _) ?_
  refine wpAny_bind (wpAny_pure (wpAny_bind ?_))
  refine collect_set hh ⟨o, ho, hex.1, hd⟩ R.fits (by rw [show scanBound = 4096 from rfl]; omega) R.tab.ris R.led fun s1 vs k1 hz g1 o1 pm => ?_
  have hes : es.toList.map (·.2) = L.map (fun q => Value.ref q.1) := by
    rw [R.rows]
    simp [rowsOf, List.map_map]
  rw [hes] at pm
  obtain ⟨L1, rfl, h1⟩ := refs_pick (L := L) fun v hv => by
    obtain ⟨q, hq, e⟩ := List.mem_map.mp (pm.mem_iff.mp hv)
    exact ⟨q, hq, e.symm⟩
  have one : ∀ q ∈ L, ∀ r ∈ L, q.1 = r.1 → q = r := fun q hq r hr e => by
    have z := R.tup q hq
    rw [e] at z
    exact Prod.ext e (IsTupleKey.inj z (R.tup r hr))
  have nL := nodup_of_map R.nd
  have p1 : L1.Perm L := by
    have nref : (L.map fun q => Value.ref q.1).Nodup := List.pairwise_map.mpr (nL.imp_of_mem fun hq hr n e => n (one _ hq _ hr (Value.ref.inj e)))
    have n1 : L1.Nodup := nodup_of_map (pm.nodup_iff.mpr nref)
    refine (List.perm_ext_iff_of_nodup n1 nL).mpr fun q => ⟨h1 q, fun hq => ?_⟩
    obtain ⟨r, hr, e⟩ := List.mem_map.mp (pm.mem_iff.mpr (List.mem_map.mpr ⟨q, hq, rfl⟩))
    rw [one q hq r (h1 r hr) (Value.ref.inj e).symm]
    exact hr
  have len1 : L1.length < 64 := by rw [p1.length_eq]; exact few
  refine wpAny_bind (wpAny_newList ?_ (by rw [List.length_map, sizeLine_eq]; omega))
  have hoL : (s1.heap.push (seqObj "list" (L1.map fun q => Value.ref q.1).toArray 0)).get? s1.heap.objs.size = some (seqObj "list" (L1.map fun q => Value.ref q.1).toArray 0) := Heap.get?_push_size _ rfl
  have rd : ∀ q ∈ L, Reads (s1.heap.push (seqObj "list" (L1.map fun q => Value.ref q.1).toArray 0)) (.ref q.1) (encT q) [] := fun q hq => reads_tup (isT_keep (R.tup q hq) fun b u e => Heap.get?_push_of_some _ (k1 b u e))
  refine wpAny_bind (wpAny_holding (W.list_sort_data (bs := L1) (enc := encT) (R := fun v p => v = Value.ref p.1) hoL (each_refs L1) (each_mem fun q hq => ⟨[], rd q (h1 q hq), fun n => nomatch n⟩) ?_ (.inl ?_) (by rw [sizeLine_eq]; omega) ?_ ?_))
  · intro d hd d' hd'
    obtain ⟨p, _, rfl⟩ := List.mem_map.mp hd
    obtain ⟨q, _, rfl⟩ := List.mem_map.mp hd'
    exact W.alike_ints p.2 q.2
  · intro d hd
    obtain ⟨p, hp, rfl⟩ := List.mem_map.mp hd
    have z := ne p (h1 p hp)
    cases e : p.2 with
    | nil => exact absurd e z
    | cons x r => exact ⟨.int x, r.map .int, by rw [encT, e]; rfl⟩
  · intro p hp
    have z : (encT p).depth = 1 := by
      rw [encT]
      show PyData.depthAll (p.2.map PyData.int) + 1 = 1
      rw [W.depth_ints]
    rw [z]
    show A.units + 1 + 1 + 1 < cLine
    omega
  · intro out hl hE
    obtain ⟨c, hc⟩ := sortedHeap_at (out := out.toArray) hoL
    have e' := of_each hE
    refine wpAny_pure ⟨_, rfl, hQ _ s1.heap.objs.size out.toArray c (L1.mergeSort (W.dataLe false encT)) (fun b u e => ?_) g1 o1 hz hc e' ((List.mergeSort_perm _ _).trans p1) ?_⟩
    · have q := k1 b u e
      have hlt := Heap.lt_size q
      show (sortedHeap _ _ _ _).get? b = some u
      rw [sortedHeap_old (Nat.ne_of_lt hlt) (by rw [size_push']; exact Nat.lt_succ_of_lt hlt)]
      exact Heap.get?_push_of_some _ q
    · refine (W.sort_pairwise (W.sortLe_total _ _ _) L1).imp ?_
      intro p q h
      have z := le_enc p q
      rw [show W.dataLe false encT p q = true from h] at z
      intro lt
      rw [decide_eq_true lt] at z
      cases z
theorem room10 {A : Around} {k : Nat} (hr : Room k A) : A.units + 10 < cLine := by
  have := hr.un
  omega
/-- sorted(s), s a set of tuples of ints, none of them empty -/
def rSortS (K : Frag) (P : Program) (w : World) : List V → Hp → VK → Prop := fun vs H Q => ∃ (a : Addr) (L : List (Addr × List Int)), vs = [.ref a] ∧ H a = some (SetTO P w a L) ∧ (∀ p ∈ L, SqT K H p.1 (p.2.map V.int)) ∧ (∀ p ∈ L, p.2 ≠ []) ∧
  ∀ (L' : List (Addr × List Int)) (p : Addr), L'.Perm L → (L'.map (·.2)).Nodup → L'.length < 64 → L'.Pairwise notAfter → H p = none → Q (.ref p) (upd H p (.lst (L'.map fun q => V.ref q.1)))
theorem sortSK {X : Cx} {K : Frag} {P : Program} {w : World} (e1 : X.K = K) (e2 : X.prog = P) (e3 : X.w = w) (hc : X.calm = true) (hu : X.A.units + 10 < cLine) : CallR X (.builtin "sorted") (rSortS K P w) := by
  subst e1 e2 e3
  rintro pins s σ H vs us Q I r ⟨a, L, rfl, ha, hk, ne, q⟩
  obtain ⟨es, ep, t, R⟩ := (I.hok a _ ha).1.full fun p hp => I.isT (hk p hp)
  rw [Vals.ref1 r]
  refine sortedS R (I.ok.hd hc) hu ne fun s' p out c L' k g o hp hg hout pm pw => ?_
  have few : L'.length < 64 := by rw [pm.length_eq]; exact R.few
  have hn := HOk.fresh I.hok hp
  have ok : ObjOk X.prog X.w (upd H p (.lst (L'.map fun q => V.ref q.1))) s'.heap p (.lst (L'.map fun q => V.ref q.1)) := by
    refine ⟨by rw [List.length_map, sizeLine_eq]; omega, out.toList, c, ?_, hg⟩
    rw [hout]
    exact vals_of_refs L'
  refine ⟨.ref p, upd H p (.lst (L'.map fun q => V.ref q.1)), ?_, rfl, q L' p pm ((pm.map (fun x => x.2)).nodup_iff.mpr R.nd) few pw hn⟩
  obtain ⟨h', g', d', t', o'⟩ := s'
  obtain rfl : g' = s.gens := g
  obtain rfl : o' = s.os := o
  exact I.call' (ch := []) rfl (Un.laid k hp hn) (HOk.laid I.hok k hp ok) I.bare (fun b z => absurd z List.not_mem_nil)
section
variable {fresh : Addr → HO} {add : Addr → V → Hp → (Hp → Prop) → Prop} {g : TG} {tt : TT} {te : TE} {ρ : L2.St} {vs : List Nat} {D : Addr} {R : Hp → Prop} {H0 : Hp}
/-- a set comprehension over range(..) -/
theorem sg_range {lo : Int} {n : Nat} (Pv : Nat → Hp → Prop) (h0 : Pv 0 H0)
    (step : ∀ i H, i < n → Pv i H → g (.int (lo + (i : Int))) ρ H fun σ2 H2 => wipe σ2 vs = ρ ∧ tt σ2 H2 fun b H3 => if b = true then te σ2 H3 fun y H4 => add D y H4 (Pv (i + 1)) else Pv (i + 1) H3)
    (fin : ∀ H, Pv n H → R H) : ∃ W : Nat → Nat → Hp → Prop, (∃ m, W 0 m H0) ∧ SgTurns add g tt te ρ vs (Itr lo n) D R W := by
  refine ⟨fun i m H => i ≤ n ∧ m = n - i ∧ Pv i H, ⟨n, Nat.zero_le _, rfl, h0⟩, ?_⟩
  rintro i m H ⟨hi, rfl, p⟩
  rcases Nat.lt_or_ge i n with q | q
  · refine .inr ⟨q, Pv (i + 1), fun H' p' => ⟨n - (i + 1), by omega, q, rfl, p'⟩, ?_⟩
    rintro x H' ⟨rfl, rfl⟩
    exact step i H' q p
  · obtain rfl : i = n := by omega
    exact .inl ⟨Nat.le_refl _, fin H p⟩
/-- over a list -/
theorem sg_list {K : Frag} {a : Addr} {xs : List V} (Pv : Nat → Hp → Prop) (h0 : Pv 0 H0) (hq : ∀ i H, i ≤ xs.length → Pv i H → SqL K H a xs)
    (step : ∀ i x H, xs[i]? = some x → Pv i H → g x ρ H fun σ2 H2 => wipe σ2 vs = ρ ∧ tt σ2 H2 fun b H3 => if b = true then te σ2 H3 fun y H4 => add D y H4 (Pv (i + 1)) else Pv (i + 1) H3)
    (fin : ∀ H, Pv xs.length H → R H) : ∃ W : Nat → Nat → Hp → Prop, (∃ m, W 0 m H0) ∧ SgTurns add g tt te ρ vs (Itl K a) D R W := by
  refine ⟨fun i m H => i ≤ xs.length ∧ m = xs.length - i ∧ Pv i H, ⟨xs.length, Nat.zero_le _, rfl, h0⟩, ?_⟩
  rintro i m H ⟨hi, rfl, p⟩
  have s := hq i H hi p
  rcases Nat.lt_or_ge i xs.length with q | q
  · refine .inr ⟨⟨xs, xs[i], s, List.getElem?_eq_getElem q⟩, Pv (i + 1), fun H' p' => ⟨xs.length - (i + 1), by omega, q, rfl, p'⟩, ?_⟩
    rintro x H' ⟨rfl, e⟩
    exact step i x H' (e xs s) p
  · obtain rfl : i = xs.length := by omega
    exact .inl ⟨⟨xs, s, Nat.le_refl _⟩, fin H p⟩
/-- over a tuple -/
theorem sg_tup {K : Frag} {a : Addr} {xs : List V} (Pv : Nat → Hp → Prop) (h0 : Pv 0 H0) (hq : ∀ i H, i ≤ xs.length → Pv i H → SqT K H a xs)
    (step : ∀ i x H, xs[i]? = some x → Pv i H → g x ρ H fun σ2 H2 => wipe σ2 vs = ρ ∧ tt σ2 H2 fun b H3 => if b = true then te σ2 H3 fun y H4 => add D y H4 (Pv (i + 1)) else Pv (i + 1) H3)
    (fin : ∀ H, Pv xs.length H → R H) : ∃ W : Nat → Nat → Hp → Prop, (∃ m, W 0 m H0) ∧ SgTurns add g tt te ρ vs (Itt K a) D R W := by
  refine ⟨fun i m H => i ≤ xs.length ∧ m = xs.length - i ∧ Pv i H, ⟨xs.length, Nat.zero_le _, rfl, h0⟩, ?_⟩
  rintro i m H ⟨hi, rfl, p⟩
  have s := hq i H hi p
  rcases Nat.lt_or_ge i xs.length with q | q
  · refine .inr ⟨⟨xs, xs[i], s, List.getElem?_eq_getElem q⟩, Pv (i + 1), fun H' p' => ⟨xs.length - (i + 1), by omega, q, rfl, p'⟩, ?_⟩
    rintro x H' ⟨rfl, e⟩
    exact step i x H' (e xs s) p
  · obtain rfl : i = xs.length := by omega
    exact .inl ⟨⟨xs, s, Nat.le_refl _⟩, fin H p⟩
end
end Hn

set_option maxHeartbeats 4000000
/-! a set display with one element, an int -/
namespace Hn
open PySem PySem.Spec PyProof.Rows L2 EF
open PySem.W (Frag keepIn)
theorem kds_of {K : Frag} {c : Value} {q : Str} (h : W.codeIn K c q = true) : W.kdsCode K c = true := by
  unfold W.codeIn at h
  unfold W.kdsCode
  split at h
  · split at h
    · rename_i e
      simp only [e]
    · cases h
  · cases h
/-- as Dfn.kept; the def's code is one of the written part -/
theorem Dfn.keptC {P : Program} {w : World} {K : Frag} {mg : Str → Option Value} {base : Heap} {x : Str} {st : Stmt} {N ps : List Str} {k : Nat} {sp : Sp} (D : Dfn K mg x st ps) (S : FnScope N ps (defScope st)) (len : ∀ vs H Q E, sp vs H Q E → vs.length = ps.length)
    (hbody : ∀ (f : Addr) (cdv : Value) (A : Around) (outer : List Env) (s : Shared) (H : Hp) (vs : List V) (Q : VK) (E : XK), W.kdsCode K cdv = true → Room k (A.deeper (envOfC x (defScope st) s.heap.objs.size f cdv)) → sp vs H Q E →
      ∃ t, PSs (cxOf CX0 P w K mg base N x (defScope st) f cdv A outer s H E).nox (defBody st) t ∧ t { nx := fun _ H' => Q .non H', rt := Q } (start N vs) H) :
    Kept P w K mg base (k + 1) x ps sp := by
  obtain ⟨f, fd, F, b, g⟩ := D
  obtain ⟨oc, od, kV, doc, pm, an, cdv, ct, osl, rfl, lk, hc⟩ := F.ex
  exact ⟨f, _, g, F.kp, b, fn_of lk hc S len fun A outer s H vs Q E hr h => by
    obtain ⟨t, p, q⟩ := hbody f cdv A outer s H vs Q E (kds_of hc) hr h
    exact ⟨t, p.nox, q⟩⟩
/-- {e}, e an int -/
def tSet1 (w : World) (te : TE) : TE := fun σ H Q => ∀ D, H D = none → te σ (upd H D (SetO w D (fun _ => false) 0)) fun y H1 => ∃ k, y = .int k ∧ H1 D = some (SetO w D (fun _ => false) 0) ∧ Q (.ref D) (upd H1 D (SetO w D (fun j => decide (j = k)) 1))
theorem pe_set1 {X : Cx} {e : Expr} {te : TE} {pos : Pos} (he : PE X e te) (hcd : W.kdsCode X.K X.env.code = true) (hs : starEach [e] X.env = [(false, eval e X.env)] := by rfl) : PE X (.Set [e] 0 pos) (tSet1 X.w te) := by
  refine ⟨fun pins s σ H Q I h => ?_⟩
  rw [arm_eval_Set, hs]
  refine wpAny_bind (wpAny_standAt (wpAny_bind (W.kds_main I.kIn hcd fun b => ?_)))
  show wpAny _ _ (setDisplay .oneByOne b [(false, do let v ← eval e X.env; standAt pos; pure v)]) _ _ _
  unfold setDisplay
  rw [if_neg (by decide)]
  refine wpAny_bind (PpSet.newSet_ok ?_)
  have hn := HOk.fresh I.hok (Nat.le_refl s.heap.objs.size)
  have z := h _ hn
  have I1 : L2.Inv X pins σ (upd H s.heap.objs.size (SetO X.w s.heap.objs.size (fun _ => false) 0)) ⟨s.heap.push (noneSet X.w), s.gens, s.drawn, s.toks, s.os⟩ :=
    I.laid (fun b o e => Heap.get?_push_of_some _ e) (Nat.le_refl _) (setO_new (setR_fresh X.w))
  refine wpAny_bind (wpAny_holding (wpAny_bind ?_))
  show wpAny _ _ (evalAll [do let v ← eval e X.env; standAt pos; pure v]) _ _ _
  rw [evalAll.eq_2, evalAll.eq_1]
  refine wpAny_bind (wpAny_bind (thn (he.run pins _ σ _ _ I1 z) ?_))
  rintro u s2 ⟨_, H2, I2, r2, k, rfl, hD, q⟩
  obtain ⟨tk, rfl⟩ : ∃ tk, u = Value.int k tk := r2
  refine wpAny_bind (wpAny_standAt (wpAny_pure (wpAny_bind (wpAny_holding (wpAny_pure (wpAny_pure ?_))))))
  refine wpAny_bind (wpAny_holding (wpAny_bind ?_))
  have hr := setO_get I2 hD
  show wpAny _ _ (forIn [Value.int k tk] PUnit.unit fun x _ => do let _ ← setAdd s.heap.objs.size x; pure (ForInStep.yield PUnit.unit)) _ _ _
  rw [List.forIn_cons]
  refine wpAny_bind (wpAny_bind ?_)
  show wpAny _ _ (holding [Value.int k tk] (do let h ← pyHash (Value.int k tk); setAddHashed s.heap.objs.size (Value.int k tk) h)) _ _ _
  refine wpAny_holding (wpAny_bind (KeyKind.pyHash (intKind X.prog X.w) (k := k) (intKind_is _ _ _ _) ?_))
  refine setR_add_hashed (S := fun _ => false) (s := ⟨s2.heap, s2.gens, s2.drawn, s2.toks + 1, s2.os⟩) hr (by decide) fun h' sb hr' => ?_
  refine wpAny_pure ?_
  show wpAny _ _ (forIn ([] : List Value) PUnit.unit _) _ _ _
  rw [List.forIn_nil]
  refine wpAny_pure ?_
  rw [if_neg (by decide)]
  refine wpAny_pure ?_
  show wpAny _ _ (do forIn ([] : List (Bool × Sem Value)) PUnit.unit _; pure ()) _ _ _
  rw [List.forIn_nil]
  refine wpAny_bind (wpAny_pure (wpAny_pure (wpAny_pure ?_)))
  refine ⟨.ref s.heap.objs.size, upd H2 s.heap.objs.size (SetO X.w s.heap.objs.size (fun j => decide (j = k)) 1), ?_, rfl, q⟩
  have e1 : (fun j => (fun _ => false) j || decide (j = k)) = fun j => decide (j = k) := by
    funext j
    exact Bool.false_or _
  rw [e1] at hr'
  refine I2.write ?_ (.inl rfl) (fun b u ne e => (sb.2 b ne).trans e) ?_ (setO_new hr')
  · rw [hD]
    exact trivial
  · obtain ⟨o, es, ep, t, ho, _⟩ := hr'
    exact ⟨o, ho⟩
end Hn

set_option maxHeartbeats 4000000
/-! enumerate(t) of a tuple -/
namespace Hn
open PySem PySem.Spec PyProof.Rows L2 EF
open PySem.W (Frag keepIn)
/-- enumerate's record, over the iterator at it, which stands at i -/
def enumObj (it : Addr) : Obj := { cls := .type "enumerate", data := .fields #[.none, .bool false, .ref it, rawInt 0, .none, .none] }
theorem wpAny_if {β : Type} {M : Model} {A : Around} {c : Prop} [Decidable c] {x y : Sem β} {Q : β → Shared → Prop} {E : Value → Shared → Prop} {s : Shared} (hx : wpAny M A x Q E s) (hy : wpAny M A y Q E s) : wpAny M A (if c then x else y) Q E s := by
  split
  · exact hx
  · exact hy
theorem meets_enum1 {v : Value} {o : Obj} {H : Heap → Prop} (b : Begins v o H) : Meets (Builtin.«enumerate.__new__» { pos := [.type "enumerate", v] }) fun _ R s =>
    H s.heap ∧ R (.ok (.ret (.ref (s.heap.push o).objs.size))) ⟨(s.heap.push o).push (enumObj s.heap.objs.size), s.gens, s.drawn, s.toks, s.os⟩ := by
  refine Meets.of_wp fun prog w A R s h => ?_
  obtain ⟨hs, h⟩ := h
  unfold Builtin.«enumerate.__new__»
  refine wpAny_bind ?_
  unfold Builtin.SmallTypes.newClass
  refine wpAny_bind (wpAny_pure (wpAny_ite_false (by rfl) (wpAny_bind (wpAny_of_eq sub_enumerate (wpAny_ite_false (by rfl) (wpAny_pure ?_))))))
  refine wpAny_ite_true (by rfl) (wpAny_bind ?_)
  unfold Builtin.SmallTypes.calledThroughType
  refine wpAny_bind (wpAny_stack_any fun st => ?_)
  have key : ∀ short : Bool, wpAny (model prog w) A.in1 (do let it ← pyIter v; let r ← Builtin.SmallTypes.newRecord (.type "enumerate") (Builtin.SmallTypes.ownedTupleFields ++ [it, rawInt 0, .none, .none]); ret r) (fun fin s' => ∃ v, fin = Fin.done (Flow.ret v) ∧ R (Except.ok (Flow.ret v)) s') (fun e s' => R (Except.error e) s') s := by
    intro _
    refine wpAny_bind (b.iter _ _ _ _ _ _ hs ?_)
    refine wpAny_bind ?_
    unfold Builtin.SmallTypes.newRecord
    refine wpAny_newObj_type (wpAny_pure ⟨_, rfl, h⟩) ?_
    show 6 ≤ sizeLine + 2
    rw [sizeLine_eq]
    omega
  refine wpAny_pure (wpAny_if ?_ ?_)
  · exact wpAny_bind (wpAny_of_eq (a := (v, none)) (by rfl) (key true))
  · exact wpAny_bind (wpAny_of_eq (a := (v, none)) (by rfl) (key true))
theorem call_enum1 {prog : Program} {w : World} {A : Around} {E : Value → Shared → Prop} {s : Shared} {v : Value} {o : Obj} {H : Heap → Prop} {Q : Value → Shared → Prop} (b : Begins v o H) (hs : H s.heap)
    (h : ∀ h' : Heap, IsEnum h' (s.heap.objs.size + 1) s.heap.objs.size 0 .none → h'.get? s.heap.objs.size = some o → (∀ b o, s.heap.get? b = some o → h'.get? b = some o) → Q (.ref (s.heap.objs.size + 1)) ⟨h', s.gens, s.drawn, s.toks, s.os⟩) :
    wpAny (model prog w) A (call (.type "enumerate") [v]) Q E s := by
  refine callType_new F.called_enumerate (by decide) (F.typeCall_enumerate_1 v) (F.newCall_enumerate_1 v) (fun obj => F.args_object_init_2 obj v) F.entry_enumerate_new (meets_enum1 b) ⟨hs, ?_⟩
  have hz := Heap.size_push s.heap o
  have he : ((s.heap.push o).push (enumObj s.heap.objs.size)).get? (s.heap.objs.size + 1) = some (enumObj s.heap.objs.size) := by
    rw [← hz]
    exact Heap.get?_push_size _ rfl
  show Shared.TypeIs _ (.ref (s.heap.push o).objs.size) "enumerate" ∧ Q (.ref (s.heap.push o).objs.size) _
  rw [hz]
  exact ⟨⟨_, he, rfl⟩, h _ he (Heap.get?_push_of_some _ (Heap.get?_push_size _ b.free)) fun b o e => Heap.get?_push_of_some _ (Heap.get?_push_of_some _ e)⟩
/-- the turns of enumerate(t), t a tuple of xs -/
def IteT (K : Frag) (a : Addr) (xs : List V) : It where
  go := fun i H => SqT K H a xs ∧ i < xs.length
  yld := fun i H v H' => ∃ T x, v = .ref T ∧ H T = none ∧ H' = upd H T (.tup [.int i, x]) ∧ xs[i]? = some x
  stop := fun i H => SqT K H a xs ∧ xs.length ≤ i
theorem turn_enumT {P : Program} {w : World} {K : Frag} {elts : List Expr} {kk : Nat} {tpos : Pos} (a e it : Addr) (xs : List V) (h1 : e ≠ it) (h2 : e ≠ a) (h3 : a ≠ it) :
    Turn P w K (.Tuple elts kk tpos) (IteT K a xs) [e, it] e fun i h => i ≤ xs.length ∧ (∃ old, IsEnum h e it i old) ∧ h.IsTupleIter it a i where
  mem := List.mem_cons_self
  obj := by
    rintro i h ⟨_, ⟨old, he⟩, ⟨o, ho, _, hd⟩⟩ b hb
    rcases List.mem_cons.mp hb with rfl | hb
    · exact ⟨_, he, fun v q => nomatch q⟩
    · obtain rfl := List.mem_singleton.mp hb
      refine ⟨o, ho, fun v q => ?_⟩
      rw [hd] at q
      cases q
  keep := by
    rintro i h h' ⟨hi, ⟨old, he⟩, ⟨o, ho, hc, hd⟩⟩ k
    exact ⟨hi, ⟨old, k e List.mem_cons_self _ he⟩, o, k it (List.mem_cons_of_mem _ List.mem_cons_self) _ ho, hc, hd⟩
  item := by
    rintro X rfl rfl rfl hc i pins s σ H E I hf ⟨hi, he, hit⟩ ⟨hq, hlt⟩
    obtain ⟨its, rv, hT, _⟩ := I.tuple hq
    have W := WalksT.enumerateD (A := X.A) (Draws.tuple (prog := X.prog) (w := X.w) (A := X.A.in1) (I.ok.hd hc) it a h3 its.toArray) e h1 (fun z => (List.mem_cons.mp z).elim h1 fun z => h2 (List.mem_singleton.mp z)) List.mem_cons_self
    have hlen : its.toArray.size = xs.length := by rw [List.size_toArray, rv.length]
    obtain ⟨x, hx⟩ : ∃ x, xs[i]? = some x := ⟨_, List.getElem?_eq_getElem hlt⟩
    obtain ⟨u, hu, ru⟩ := rv.get hx
    refine W.item i s _ E (by omega) ⟨he, hit, hT⟩ fun T vals h' tk hP hTs hTv mid k1 => ⟨.ref T, rfl, ?_⟩
    obtain ⟨t, y, hy, rfl⟩ := hP
    have huy : u = y := by
      rw [List.getElem?_toArray, hu] at hy
      exact Option.some.inj hy
    subst huy
    refine W.go elts kk tpos i T _ _ E mid fun h'' st'' k2 => ?_
    have nT := W.apart i T h' mid
    have hT2 : IsTup h'' T #[.int i t, u] := by
      obtain ⟨o, ho, hc, n, hd⟩ := hTv
      exact ⟨o, k2 T o nT ho, hc, n, hd⟩
    have new : ObjOk X.prog X.w (upd H T (.tup [.int i, x])) h'' T (.tup [.int i, x]) := by
      refine ⟨by rw [sizeLine_eq]; exact Nat.le_of_ble_eq_true rfl, [.int i t, u], .cons ⟨t, rfl⟩ (.cons ru .nil), hT2⟩
    have I1 := I.turnedNew (t' := tk) (ch := [e, it]) (fun b o nb q => k2 b o nb (k1 b o nb q)) hf hTs new
    refine ⟨.ref T, _, I1, rfl, ⟨T, x, rfl, HOk.fresh I.hok hTs, rfl, hx⟩, ⟨hlt, st''.1, st''.2.1⟩, fun b hb => ?_⟩
    have nb : b ≠ T := fun z => nT (z ▸ hb)
    rw [upd_ne nb]
    exact (hf b hb).1
  done := by
    rintro X rfl rfl rfl hc i pins s σ H E I hf ⟨hi, he, hit⟩ ⟨hq, hle⟩
    obtain ⟨its, rv, hT, _⟩ := I.tuple hq
    have W := WalksT.enumerateD (A := X.A) (Draws.tuple (prog := X.prog) (w := X.w) (A := X.A.in1) (I.ok.hd hc) it a h3 its.toArray) e h1 (fun z => (List.mem_cons.mp z).elim h1 fun z => h2 (List.mem_singleton.mp z)) List.mem_cons_self
    have hlen : its.toArray.size = i := by rw [List.size_toArray, ← rv.length]; omega
    refine W.done s _ E ?_ fun h' tk k => ⟨rfl, I.turnedL (ch := [e, it]) (fun b o nb q => k b o nb q) hf⟩
    rw [hlen]
    exact ⟨he, hit, hT⟩
  self := by
    rintro A i s Q E ⟨_, ⟨old, he⟩, _⟩ q
    exact wpAny_pyIter_enum he q
/-- for i, x in enumerate(t), t a tuple -/
def iEnumT (K : Frag) (ta : TA) : TI := fun σ H R => ta σ H fun vs H1 => ∃ a xs, vs = [.ref a] ∧ SqT K H1 a xs ∧ R (IteT K a xs) H1
theorem pi_enumT {X : Cx} {K : Frag} {e : Expr} {ta : TA} {p pos tpos : Pos} {elts : List Expr} {kk : Nat} (hK : X.K = K) (hg : Gl X "enumerate") (hm : X.mg "enumerate" = none) (ha : PA X [e] ta) (hs : starEach [e] X.env = [(false, eval e X.env)] := by rfl) :
    PI X (.Tuple elts kk tpos) (.Call (.Name "enumerate" p) [e] [] pos) (iEnumT K ta) := by
  subst hK
  refine ⟨fun pins s σ H R I h => ?_⟩
  refine Call_ (ld_blt I hg hm boot_enumerate (callWith_type1 (thn (ha.run pos pins s σ H _ I h) ?_) hs rfl) (by decide) (by decide)) rfl
  rintro us s1 ⟨vs, H1, I1, r1, a, xs, rfl, hq, q⟩
  rw [Vals.ref1 r1]
  obtain ⟨its, rv, hT, hz⟩ := I1.tuple hq
  refine call_enum1 (begins_tuple a its.toArray) hT fun h' he hit k => ?_
  refine wpAny_pyIter_enum he ?_
  have I2 := I1.kept (t' := s1.toks) k
  have ha1 : a < s1.heap.objs.size := by
    obtain ⟨o, ho, _⟩ := hT
    exact Heap.lt_size ho
  refine ⟨s1.heap.objs.size + 1, [s1.heap.objs.size + 1, s1.heap.objs.size], _, IteT X.K a xs, H1, rfl, I2, turn_enumT a _ _ xs (Nat.succ_ne_self _) (Nat.ne_of_gt (Nat.lt_succ_of_lt ha1)) (Nat.ne_of_lt ha1), ⟨Nat.zero_le _, ⟨_, he⟩, ⟨_, hit, rfl, rfl⟩⟩, fun b hb => ?_, q⟩
  have hle : s1.heap.objs.size ≤ b := by
    rcases List.mem_cons.mp hb with rfl | hb
    · exact Nat.le_add_right _ _
    · rw [List.mem_singleton.mp hb]
      exact Nat.le_refl _
  exact I1.fpOk hle (HOk.fresh I1.hok hle)
theorem for_enumT {K : Frag} {a : Addr} {xs : List V} {g : TG} {tb : TS} {D : Ends} {σ : L2.St} {H : Hp} (Pv : Nat → L2.St → Hp → Prop) (h0 : Pv 0 σ H) (hq : ∀ i σ H, Pv i σ H → SqT K H a xs)
    (hs : ∀ i x T σ H, xs[i]? = some x → Pv i σ H → H T = none → g (.ref T) σ (upd H T (.tup [.int (i : Nat), x])) fun σ2 H2 => tb { D with nx := Pv (i + 1), ct := Pv (i + 1), bk := D.nx } σ2 H2) (hd : ∀ σ H, Pv xs.length σ H → D.nx σ H) :
    ∃ W : Nat → Nat → L2.St → Hp → Prop, (∃ m, W 0 m σ H) ∧ ∀ i m σ H, W i m σ H →
      ((IteT K a xs).stop i H ∧ D.nx σ H) ∨ ((IteT K a xs).go i H ∧ ∃ N : L2.St → Hp → Prop, (∀ σ' H', N σ' H' → ∃ m', m' < m ∧ W (i + 1) m' σ' H') ∧ ∀ x H', (IteT K a xs).yld i H x H' → g x σ H' fun σ2 H2 => tb { D with nx := N, ct := N, bk := D.nx } σ2 H2) := by
  refine ⟨fun i m σ H => m = xs.length - i ∧ i ≤ xs.length ∧ Pv i σ H, ⟨xs.length, rfl, Nat.zero_le _, h0⟩, ?_⟩
  rintro i m σ H ⟨rfl, hi, p⟩
  have q1 := hq i σ H p
  rcases Nat.lt_or_ge i xs.length with h | h
  · refine .inr ⟨⟨q1, h⟩, Pv (i + 1), fun σ' H' z => ⟨xs.length - (i + 1), by omega, rfl, h, z⟩, ?_⟩
    rintro x H' ⟨T, x1, rfl, nT, rfl, e1⟩
    exact hs i x1 T σ H e1 p nT
  · obtain rfl : i = xs.length := by omega
    exact .inl ⟨⟨q1, Nat.le_refl _⟩, hd σ H p⟩
theorem lc_enumT {K : Frag} {a : Addr} {xs : List V} {g : TG} {tt : TT} {te : TE} {vs : List Nat} {σ : L2.St} {H1 : Hp} {D : Addr} {Qd : Hp → Prop} (Pv : Nat → Hp → Prop) (h0 : Pv 0 (upd H1 D (.lst [])))
    (hq : ∀ i H, Pv i H → SqT K H a xs)
    (hs : ∀ i x T H, xs[i]? = some x → Pv i H → H T = none → g (.ref T) (wipe σ vs) (upd H T (.tup [.int (i : Nat), x])) fun σ2 H2 => wipe σ2 vs = wipe σ vs ∧ tt σ2 H2 fun c H3 =>
      if c = true then te σ2 H3 fun z H4 => ∃ acc, H4 D = some (.lst acc) ∧ acc.length < sizeLine ∧ Pv (i + 1) (upd H4 D (.lst (acc ++ [z]))) else Pv (i + 1) H3) (hd : ∀ H, Pv xs.length H → Qd H) :
    ∃ W : Nat → Nat → Hp → Prop, (∃ m, W 0 m (upd H1 D (.lst []))) ∧ ∀ i m H, W i m H →
      ((IteT K a xs).stop i H ∧ Qd H) ∨ ((IteT K a xs).go i H ∧ ∃ Nx : Hp → Prop, (∀ H', Nx H' → ∃ m', m' < m ∧ W (i + 1) m' H') ∧ ∀ x H', (IteT K a xs).yld i H x H' → g x (wipe σ vs) H' fun σ2 H2 => wipe σ2 vs = wipe σ vs ∧ tt σ2 H2 fun c H3 =>
        if c = true then te σ2 H3 fun y H4 => ∃ acc, H4 D = some (.lst acc) ∧ acc.length < sizeLine ∧ Nx (upd H4 D (.lst (acc ++ [y]))) else Nx H3) := by
  refine ⟨fun i m H => m = xs.length - i ∧ i ≤ xs.length ∧ Pv i H, ⟨xs.length, rfl, Nat.zero_le _, h0⟩, ?_⟩
  rintro i m H ⟨rfl, hi, p⟩
  have q1 := hq i H p
  rcases Nat.lt_or_ge i xs.length with h | h
  · refine .inr ⟨⟨q1, h⟩, Pv (i + 1), fun H' z => ⟨xs.length - (i + 1), by omega, rfl, h, z⟩, ?_⟩
    rintro x H' ⟨T, x1, rfl, nT, rfl, e1⟩
    exact hs i x1 T H e1 p nT
  · obtain rfl : i = xs.length := by omega
    exact .inl ⟨⟨q1, Nat.le_refl _⟩, hd H p⟩
end Hn

set_option maxHeartbeats 4000000
/-! defs that may raise an own error without a field -/
namespace Hn
open PySem PySem.Spec PyProof.Rows L2 EF
open PySem.W (Frag keepIn)
/-- what the written part says of an own error that is raised -/
structure Err (K : Frag) (mg : Str → Option Value) (x : Str) (C : Addr) : Prop where
  g : mg x = some (.ref C)
  k : keepIn K (.ref C) = true
  e : PySem.W.excIn K C PySem.HandSPX.veTail "ValueError.__new__" = true
  b : PySem.W.subIn K (.ref C) (.type "BaseException") = some true
  t : PySem.W.typeIn K (.ref C) = some (.type "type")
theorem Err.raises {X : Cx} {x : Str} {C : Addr} (T : Err X.K X.mg x C) : Raises X (.ref C) := raises_own T.b T.t
/-- a def that keeps a promise and may raise -/
def KeptX (P : Program) (w : World) (K : Frag) (mg : Str → Option Value) (base : Heap) (k : Nat) (x : Str) (ps : List Str) (sp : Sp) : Prop :=
  ∃ f fd, mg x = some (.ref f) ∧ keepIn K (.ref f) = true ∧ Binds K fd ps [] ∧ FnOk P w K mg base (L2.CX P w) k f fd ps sp
section
variable {P : Program} {w : World} {K : Frag} {mg : Str → Option Value} {base : Heap}
theorem KeptX.mono {j k : Nat} {x : Str} {ps : List Str} {sp : Sp} (G : KeptX P w K mg base j x ps sp) (h : j ≤ k) : KeptX P w K mg base k x ps sp := by
  obtain ⟨f, fd, a, b, c, d⟩ := G
  exact ⟨f, fd, a, b, c, d.mono h⟩
theorem Dfn.keptX {x : Str} {st : Stmt} {N ps : List Str} {k : Nat} {sp : Sp} (D : Dfn K mg x st ps) (S : FnScope N ps (defScope st)) (len : ∀ vs H Q E, sp vs H Q E → vs.length = ps.length)
    (hbody : ∀ (f : Addr) (cdv : Value) (A : Around) (outer : List Env) (s : Shared) (H : Hp) (vs : List V) (Q : VK) (E : XK), Room k (A.deeper (envOfC x (defScope st) s.heap.objs.size f cdv)) → sp vs H Q E →
      ∃ t, PSs (cxOf (L2.CX P w) P w K mg base N x (defScope st) f cdv A outer s H E) (defBody st) t ∧ t { nx := fun _ H' => Q .non H', rt := Q } (start N vs) H) :
    KeptX P w K mg base (k + 1) x ps sp := by
  obtain ⟨f, fd, F, b, g⟩ := D
  exact ⟨f, fd, g, F.kp, b, F.okX S len fun cdv A outer s H vs Q E hr h => hbody f cdv A outer s H vs Q E hr h⟩
end
section
variable {X : Cx} {k : Nat} {x : Str} {ps : List Str} {sp : Sp} {e : Expr} {es : List Expr} {t : TA} {p pos : Pos} {E : L2.St → XK}
/-- f(e, ..), f a def that may raise: what it raises must be wished for here -/
theorem pe_kx (G : KeptX X.prog X.w X.K X.mg X.base k x ps sp) (hr : Room k X.A) (hg : Gl X x) (hx : ∀ σ, PassesAt (L2.CX X.prog X.w) X σ (E σ)) (ha : PA X (e :: es) t) (hdb : (x == ("__debug__" : Str)) = false := by decide)
    (he : starEach (e :: es) X.env = (false, eval e X.env) :: starEach es X.env := by rfl) (hpl : (backTo pos (starEach es X.env)).any (·.1) = false := by rfl) : PE X (.Call (.Name x p) (e :: es) [] pos) (tCallS sp E t) := by
  obtain ⟨f, fd, gm, kp, b, F⟩ := G
  exact pe_callS F hr hg gm kp b hx ha hdb he hpl
/-- X(), X an own error without an __init__ -/
theorem pmk_own0 {C : Addr} (T : Err X.K X.mg x C) (hg : Gl X x) (hdb : (x == ("__debug__" : Str)) = false := by decide) : PMk X (.Call (.Name x p) [] [] pos) (fun _ H Q => Q (.ref C) none H) := by
  intro pins s σ H Q I h
  refine wpAny_Call_Name_kw (ld_glob I hg T.g ?_ hdb)
  refine PySem.W.callWith_K0 I.kIn T.k ?_
  show wpAny _ _ (call (.ref C) []) _ _ _
  obtain ⟨bm, N, nm, qn, bs, hdct, sn, sub, ab, col, dd, k0, k1, k2, k3, k5, mN, hC, hN, hni, Z⟩ := exc_obj I.kIn T.e
  exact wpAny_call_exc_subT F.excBase_ValueError Z hC hN hni (fun h' e hm => mk_of I hm T.raises h (HOk.gone I.hok hm.new)) (Nat.zero_le _)
end
end Hn

set_option maxHeartbeats 4000000
/-! chains in rows of ints, and what a search has seen of them -/
namespace Hn
open PySem PySem.Spec PyProof.Rows L2 EF
open PySem.W (Frag keepIn)
/-- the row of v -/
def rowAt (rows : List (List Int)) (v : Int) : List Int := rows.getD v.toNat []
/-- a chain leads from u to v -/
inductive Reach (rows : List (List Int)) (u : Int) : Int → Prop
  | refl : Reach rows u u
  | step {v w : Int} : Reach rows u v → w ∈ rowAt rows v → Reach rows u w
/-- all entries are people -/
def InRange (rows : List (List Int)) : Prop := ∀ r ∈ rows, ∀ w ∈ r, 0 ≤ w ∧ w < (rows.length : Int)
theorem row_range {rows : List (List Int)} (h : InRange rows) {v w : Int} (hw : w ∈ rowAt rows v) : 0 ≤ w ∧ w < (rows.length : Int) := by
  unfold rowAt at hw
  rw [List.getD_eq_getElem?_getD] at hw
  cases e : rows[v.toNat]? with
  | none =>
    rw [e] at hw
    cases hw
  | some r =>
    rw [e] at hw
    exact h r (List.mem_of_getElem? e) w hw
theorem Reach.range {rows : List (List Int)} (h : InRange rows) {u v : Int} (hu : 0 ≤ u ∧ u < (rows.length : Int)) (r : Reach rows u v) : 0 ≤ v ∧ v < (rows.length : Int) := by
  cases r with
  | refl => exact hu
  | step _ hw => exact row_range h hw
/-- a lot of different ints below n is of at most n -/
theorem few_below {n : Nat} {ks : List Int} (nd : ks.Nodup) (h : ∀ k ∈ ks, 0 ≤ k ∧ k < (n : Int)) : ks.length ≤ n := by
  have h1 : (ks.map Int.toNat).Nodup := by
    refine List.pairwise_map.mpr (nd.imp_of_mem fun ha hb ne e => ne ?_)
    have := (h _ ha).1
    have := (h _ hb).1
    omega
  have h2 : (ks.map Int.toNat) ⊆ List.range n := fun x hx => by
    obtain ⟨k, hk, rfl⟩ := List.mem_map.mp hx
    have := h k hk
    exact List.mem_range.mpr (by omega)
  have h3 := List.Nodup.length_le_of_subset h1 h2
  rw [List.length_map, List.length_range] at h3
  exact h3
/-- what has been seen on the way from u -/
structure Seen (rows : List (List Int)) (u : Int) (S : Int → Bool) (c : Nat) : Prop where
  ks : ∃ ks : List Int, ks.Nodup ∧ ks.length = c ∧ ∀ k, S k = true ↔ k ∈ ks
  re : ∀ k, S k = true → Reach rows u k
  st : S u = true
theorem Seen.le {rows : List (List Int)} {u : Int} {S : Int → Bool} {c : Nat} (s : Seen rows u S c) (h : InRange rows) (hu : 0 ≤ u ∧ u < (rows.length : Int)) : c ≤ rows.length := by
  obtain ⟨ks, nd, rfl, e⟩ := s.ks
  exact few_below nd fun k hk => (s.re k ((e k).mpr hk)).range h hu
theorem Seen.one {rows : List (List Int)} {u : Int} : Seen rows u (fun j => decide (j = u)) 1 :=
  ⟨⟨[u], List.nodup_cons.mpr ⟨List.not_mem_nil, List.nodup_nil⟩, rfl, fun k => by rw [decide_eq_true_iff, List.mem_singleton]⟩, fun k h => of_decide_eq_true h ▸ .refl, decide_eq_true rfl⟩
theorem Seen.add {rows : List (List Int)} {u w : Int} {S : Int → Bool} {c : Nat} (s : Seen rows u S c) (n : S w = false) (r : Reach rows u w) : Seen rows u (fun j => S j || decide (j = w)) (c + 1) := by
  obtain ⟨ks, nd, rfl, e⟩ := s.ks
  refine ⟨⟨w :: ks, List.nodup_cons.mpr ⟨fun m => ?_, nd⟩, rfl, fun k => ?_⟩, fun k h => ?_, ?_⟩
  · rw [(e w).mpr m] at n
    cases n
  · rw [Bool.or_eq_true, decide_eq_true_iff, List.mem_cons, e k, or_comm]
  · rcases (Bool.or_eq_true _ _).mp h with h | h
    · exact s.re k h
    · rw [of_decide_eq_true h]
      exact r
  · rw [s.st, Bool.true_or]
/-- a search that has nothing ahead has seen all -/
theorem Seen.all {rows : List (List Int)} {u : Int} {S : Int → Bool} {c : Nat} (s : Seen rows u S c) (cl : ∀ k, S k = true → ∀ w ∈ rowAt rows k, S w = true) (k : Int) : S k = true ↔ Reach rows u k := by
  refine ⟨s.re k, fun r => ?_⟩
  induction r with
  | refl => exact s.st
  | step _ hw ih => exact cl _ ih _ hw
end Hn

set_option maxHeartbeats 4000000
/-! a search in layers: who is found, and by how many cards -/
namespace Hn
open PySem PySem.Spec PyProof.Rows L2 EF
open PySem.W (Frag keepIn)
/-- how far k is, by the pairs -/
def dist : List (Int × Int) → Int → Option Int
  | [], _ => none
  | p :: r, k => if p.1 = k then some p.2 else dist r k
def encI (kvs : List (Int × Int)) : List (Key × V) := kvs.map fun p => (Sum.inl p.1, V.int p.2)
theorem valV_enc (k : Int) : ∀ kvs : List (Int × Int), valV (encI kvs) (Sum.inl k) = (dist kvs k).map V.int
  | [] => rfl
  | p :: r => by
    have ih := valV_enc k r
    by_cases e : p.1 = k
    · rw [show dist (p :: r) k = some p.2 from if_pos e]
      exact valV_pos (p := ((Sum.inl p.1 : Key), V.int p.2)) (by rw [e])
    · rw [show dist (p :: r) k = dist r k from if_neg e, ← ih]
      exact valV_neg (p := ((Sum.inl p.1 : Key), V.int p.2)) (fun z => e (Sum.inl.inj z))
theorem dist_mem {k : Int} : ∀ {kvs : List (Int × Int)}, k ∈ kvs.map (·.1) ↔ ∃ d, dist kvs k = some d
  | [] => ⟨fun h => absurd h List.not_mem_nil, fun ⟨d, h⟩ => by cases h⟩
  | p :: r => by
    rw [List.map_cons, List.mem_cons]
    by_cases e : p.1 = k
    · exact ⟨fun _ => ⟨p.2, if_pos e⟩, fun _ => .inl e.symm⟩
    · rw [show dist (p :: r) k = dist r k from if_neg e, ← dist_mem (kvs := r)]
      exact ⟨fun h => h.resolve_left fun z => e z.symm, .inr⟩
theorem dist_snoc {w d : Int} (k : Int) : ∀ {kvs : List (Int × Int)}, dist kvs w = none → dist (kvs ++ [(w, d)]) k = if k = w then some d else dist kvs k
  | [], _ => by
    show (if w = k then some d else none) = if k = w then some d else none
    by_cases e : w = k
    · rw [if_pos e, if_pos e.symm]
    · rw [if_neg e, if_neg fun z => e z.symm]
  | p :: r, h => by
    have hw : ¬ p.1 = w := fun z => by
      rw [show dist (p :: r) w = some p.2 from if_pos z] at h
      cases h
    have ih := dist_snoc (d := d) k (kvs := r) (by rw [show dist (p :: r) w = dist r w from if_neg hw] at h; exact h)
    show (if p.1 = k then some p.2 else dist (r ++ [(w, d)]) k) = if k = w then some d else if p.1 = k then some p.2 else dist r k
    by_cases e : p.1 = k
    · rw [if_pos e, if_pos e, if_neg fun z => hw (e.trans z)]
    · rw [if_neg e, if_neg e, ih]
theorem enc_put {kvs : List (Int × Int)} {w d : Int} (h : dist kvs w = none) : putK (encI kvs) (Sum.inl w) (V.int d) = encI (kvs ++ [(w, d)]) := by
  rw [putK_new (V.int d) (by rw [valV_enc, h]; rfl)]
  unfold encI
  rw [List.map_append]
  rfl
/-- what is known at the head of each turn: l is the layer m -/
structure Lay (rows : List (List Int)) (u : Int) (kvs : List (Int × Int)) (l : List Int) (m : Int) : Prop where
  nd : (kvs.map (·.1)).Nodup
  re : ∀ k d, dist kvs k = some d → Reach rows u k
  st : dist kvs u = some 0
  low : ∀ k d, dist kvs k = some d → 0 ≤ d ∧ d ≤ m ∧ (k ≠ u → 0 < d ∧ ∃ j, dist kvs j = some (d - 1) ∧ k ∈ rowAt rows j)
  lay : ∀ k, k ∈ l ↔ dist kvs k = some m
  dn : ∀ k d, dist kvs k = some d → d < m → ∀ w ∈ rowAt rows k, ∃ e, dist kvs w = some e ∧ e ≤ d + 1
  m0 : 0 ≤ m
/-- within a turn: the cards that Pe tells have been followed; f is the next layer so far -/
structure Mid (rows : List (List Int)) (u : Int) (l : List Int) (m : Int) (Pe : Int → Int → Prop) (kvs : List (Int × Int)) (f : List Int) : Prop where
  nd : (kvs.map (·.1)).Nodup
  re : ∀ k d, dist kvs k = some d → Reach rows u k
  st : dist kvs u = some 0
  low : ∀ k d, dist kvs k = some d → 0 ≤ d ∧ d ≤ m + 1 ∧ (k ≠ u → 0 < d ∧ ∃ j, dist kvs j = some (d - 1) ∧ k ∈ rowAt rows j)
  lay : ∀ k, k ∈ l ↔ dist kvs k = some m
  fu : ∀ k, k ∈ f ↔ dist kvs k = some (m + 1)
  dn : ∀ k d, dist kvs k = some d → d < m → ∀ w ∈ rowAt rows k, ∃ e, dist kvs w = some e ∧ e ≤ d + 1
  cur : ∀ k w, Pe k w → ∃ e, dist kvs w = some e ∧ e ≤ m + 1
  m0 : 0 ≤ m
section
variable {rows : List (List Int)} {u : Int} {l : List Int} {m : Int} {Pe Pe' : Int → Int → Prop} {kvs : List (Int × Int)} {f : List Int}
theorem Lay.start : Lay rows u [(u, 0)] [u] 0 := by
  have e : ∀ k d, dist [(u, 0)] k = some d → k = u ∧ d = 0 := fun k d h => by
    have h' : (if u = k then some (0 : Int) else none) = some d := h
    split at h'
    · rename_i z
      exact ⟨z.symm, (Option.some.inj h').symm⟩
    · cases h'
  refine ⟨List.nodup_cons.mpr ⟨List.not_mem_nil, List.nodup_nil⟩, fun k d h => ?_, if_pos rfl, fun k d h => ?_, fun k => ?_, fun k d h lt => ?_, Int.le_refl _⟩
  · rw [(e k d h).1]
    exact .refl
  · obtain ⟨h1, h2⟩ := e k d h
    exact ⟨by omega, by omega, fun n => absurd h1 n⟩
  · rw [List.mem_singleton]
    exact ⟨fun h => h ▸ if_pos rfl, fun h => (e k 0 h).1⟩
  · have := (e k d h).2
    omega
theorem Lay.mid (s : Lay rows u kvs l m) : Mid rows u l m (fun _ _ => False) kvs [] :=
  ⟨s.nd, s.re, s.st, fun k d h => ⟨(s.low k d h).1, by have := (s.low k d h).2.1; omega, (s.low k d h).2.2⟩, s.lay,
    fun k => ⟨fun h => absurd h List.not_mem_nil, fun h => by have := (s.low k _ h).2.1; omega⟩, s.dn, fun _ _ h => h.elim, s.m0⟩
theorem Mid.skip (s : Mid rows u l m Pe kvs f) {w d : Int} (h : dist kvs w = some d) (hp : ∀ k x, Pe' k x → Pe k x ∨ x = w) : Mid rows u l m Pe' kvs f :=
  ⟨s.nd, s.re, s.st, s.low, s.lay, s.fu, s.dn, fun k x p => by
    rcases hp k x p with z | z
    · exact s.cur k x z
    · rw [z]
      exact ⟨d, h, (s.low w d h).2.1⟩, s.m0⟩
theorem Mid.add (s : Mid rows u l m Pe kvs f) {v w : Int} (hv : v ∈ l) (hw : w ∈ rowAt rows v) (n : dist kvs w = none) (hp : ∀ k x, Pe' k x → Pe k x ∨ x = w) : Mid rows u l m Pe' (kvs ++ [(w, m + 1)]) (f ++ [w]) := by
  have dv := (s.lay v).mp hv
  have ds : ∀ k, dist (kvs ++ [(w, m + 1)]) k = if k = w then some (m + 1) else dist kvs k := fun k => dist_snoc k n
  have up : ∀ {k d}, dist kvs k = some d → dist (kvs ++ [(w, m + 1)]) k = some d := fun {k d} h => by
    rw [ds, if_neg (fun z => by rw [z, n] at h; cases h)]
    exact h
  have dw : dist (kvs ++ [(w, m + 1)]) w = some (m + 1) := by rw [ds, if_pos rfl]
  have m0 := s.m0
  refine ⟨?_, fun k d h => ?_, up s.st, fun k d h => ?_, fun k => ?_, fun k => ?_, fun k d h lt x hx => ?_, fun k x p => ?_, s.m0⟩
  · rw [List.map_append]
    refine List.nodup_append.mpr ⟨s.nd, List.nodup_cons.mpr ⟨List.not_mem_nil, List.nodup_nil⟩, fun x hx y hy => ?_⟩
    rw [List.mem_singleton.mp hy]
    intro z
    obtain ⟨d, hd⟩ := dist_mem.mp hx
    rw [z, n] at hd
    cases hd
  · rw [ds] at h
    split at h
    · rename_i z
      rw [z]
      exact .step (s.re v m dv) hw
    · exact s.re k d h
  · rw [ds] at h
    split at h
    · rename_i z
      obtain rfl := Option.some.inj h
      refine ⟨by omega, Int.le_refl _, fun _ => ⟨by omega, v, ?_, z ▸ hw⟩⟩
      rw [show m + 1 - 1 = m by omega]
      exact up dv
    · obtain ⟨h1, h2, h3⟩ := s.low k d h
      refine ⟨h1, h2, fun ne => ?_⟩
      obtain ⟨h4, j, h5, h6⟩ := h3 ne
      exact ⟨h4, j, up h5, h6⟩
  · rw [s.lay k, ds]
    split
    · rename_i z
      rw [z, n]
      exact ⟨fun h => (by cases h), fun h => by have := Option.some.inj h; omega⟩
    · exact Iff.rfl
  · rw [List.mem_append, List.mem_singleton, s.fu k, ds]
    split
    · rename_i z
      exact ⟨fun _ => rfl, fun _ => .inr z⟩
    · rename_i z
      exact ⟨fun h => h.resolve_right z, .inl⟩
  · rw [ds] at h
    split at h
    · have := Option.some.inj h
      omega
    · obtain ⟨e, h1, h2⟩ := s.dn k d h lt x hx
      exact ⟨e, up h1, h2⟩
  · rcases hp k x p with z | z
    · obtain ⟨e, h1, h2⟩ := s.cur k x z
      exact ⟨e, up h1, h2⟩
    · rw [z]
      exact ⟨_, dw, Int.le_refl _⟩
theorem Mid.lay_next (s : Mid rows u l m Pe kvs f) (hp : ∀ k, k ∈ l → ∀ w ∈ rowAt rows k, Pe k w) : Lay rows u kvs f (m + 1) :=
  ⟨s.nd, s.re, s.st, s.low, s.fu, fun k d h lt w hw => by
    rcases Int.lt_or_le d m with z | z
    · exact s.dn k d h z w hw
    · obtain rfl : d = m := by omega
      exact s.cur k w (hp k ((s.lay k).mpr h) w hw), by have := s.m0; omega⟩
end
/-- the people whom u finds, and by how many cards -/
structure Dists (rows : List (List Int)) (u : Int) (kvs : List (Int × Int)) : Prop where
  nd : (kvs.map (·.1)).Nodup
  re : ∀ k, k ∈ kvs.map (·.1) ↔ Reach rows u k
  st : dist kvs u = some 0
  low : ∀ k d, dist kvs k = some d → 0 ≤ d ∧ (k ≠ u → 0 < d ∧ ∃ j, dist kvs j = some (d - 1) ∧ k ∈ rowAt rows j)
  ok : ∀ k d, dist kvs k = some d → ∀ w ∈ rowAt rows k, ∃ e, dist kvs w = some e ∧ e ≤ d + 1
theorem Lay.dists {rows : List (List Int)} {u : Int} {kvs : List (Int × Int)} {m : Int} (s : Lay rows u kvs [] m) : Dists rows u kvs := by
  have ok : ∀ k d, dist kvs k = some d → ∀ w ∈ rowAt rows k, ∃ e, dist kvs w = some e ∧ e ≤ d + 1 := fun k d h w hw => by
    refine s.dn k d h ?_ w hw
    have h1 := (s.low k d h).2.1
    rcases Int.lt_or_le d m with z | z
    · exact z
    · obtain rfl : d = m := by omega
      exact absurd ((s.lay k).mpr h) List.not_mem_nil
  refine ⟨s.nd, fun k => ?_, s.st, fun k d h => ⟨(s.low k d h).1, (s.low k d h).2.2⟩, ok⟩
  rw [dist_mem]
  refine ⟨fun ⟨d, h⟩ => s.re k d h, fun r => ?_⟩
  induction r with
  | refl => exact ⟨0, s.st⟩
  | step _ hw ih =>
    obtain ⟨d, hd⟩ := ih
    obtain ⟨e, he, _⟩ := ok _ d hd _ hw
    exact ⟨e, he⟩
theorem Lay.few {rows : List (List Int)} {u : Int} {kvs : List (Int × Int)} {l : List Int} {m : Int} (s : Lay rows u kvs l m) (h : InRange rows) (hu : 0 ≤ u ∧ u < (rows.length : Int)) : kvs.length ≤ rows.length := by
  have z := few_below s.nd fun k hk => by
    obtain ⟨d, hd⟩ := dist_mem.mp hk
    exact (s.re k d hd).range h hu
  rw [List.length_map] at z
  exact z
theorem Mid.few {rows : List (List Int)} {u : Int} {kvs : List (Int × Int)} {l f : List Int} {m : Int} {Pe : Int → Int → Prop} (s : Mid rows u l m Pe kvs f) (h : InRange rows) (hu : 0 ≤ u ∧ u < (rows.length : Int)) : kvs.length ≤ rows.length := by
  have z := few_below s.nd fun k hk => by
    obtain ⟨d, hd⟩ := dist_mem.mp hk
    exact (s.re k d hd).range h hu
  rw [List.length_map] at z
  exact z
end Hn

set_option maxHeartbeats 4000000
/-! slices of a tuple -/
namespace Hn
open PySem PySem.Spec PyProof.Rows L2 EF
open PySem.W (Frag keepIn)
theorem cut_all {xs : List V} {lo hi : Option Int} (h : HT.sIx xs.length 0 lo = 0 ∧ HT.sIx xs.length xs.length hi = xs.length) : cutV xs lo hi = xs := by
  unfold cutV
  rw [h.1, h.2, Nat.sub_zero, List.drop_zero, List.take_length]
theorem sl_any {K : Frag} {H : Hp} {a : Addr} {xs : List V} {lo hi : Option Int} {Q : VK} (h : SqT K H a xs) (q : ∀ p H', Same H H' → SqT K H' p (cutV xs lo hi) → Q (.ref p) H') : rSlA K (.ref a) lo hi H Q :=
  ⟨a, xs, rfl, h, fun e => q a H (Same.refl H) (by rw [cut_all e]; exact h), fun _ p np => q p _ (same_new np) (SqT.of upd_same)⟩
theorem cut_init (xs : List V) : cutV xs none (some (-1)) = xs.take (xs.length - 1) := by
  have e : HT.sIx xs.length xs.length (some (-1)) = xs.length - 1 := by
    show (if (-1 : Int) < 0 then ((-1 : Int) + (xs.length : Int)).toNat else min (-1 : Int).toNat xs.length) = _
    rw [if_pos (by decide)]
    omega
  unfold cutV
  rw [e, HT.sIx_none, List.drop_zero, Nat.sub_zero]
/-- from the i-th on -/
theorem cut_from (xs : List V) (i : Nat) : cutV xs (some (i : Int)) none = xs.drop i := by
  have e : HT.sIx xs.length 0 (some (i : Int)) = min i xs.length := HT.sIx_nat xs.length 0 i
  unfold cutV
  rw [e, HT.sIx_none]
  rcases Nat.lt_or_ge i xs.length with h | h
  · rw [Nat.min_eq_left (Nat.le_of_lt h)]
    exact List.take_of_length_le (by rw [List.length_drop]; exact Nat.le_refl _)
  · rw [Nat.min_eq_right h, List.drop_length, List.take_nil, List.drop_eq_nil_of_le h]
/-- up to the i-th -/
theorem cut_to (xs : List V) (i : Nat) : cutV xs none (some (i : Int)) = xs.take i := by
  have e : HT.sIx xs.length xs.length (some (i : Int)) = min i xs.length := HT.sIx_nat xs.length xs.length i
  unfold cutV
  rw [e, HT.sIx_none, List.drop_zero, Nat.sub_zero]
  rcases Nat.lt_or_ge i xs.length with h | h
  · rw [Nat.min_eq_left (Nat.le_of_lt h)]
  · rw [Nat.min_eq_right h, List.take_length, List.take_of_length_le h]
/-- from the i-th up to the j-th -/
theorem cut_part (xs : List V) (i j : Nat) : cutV xs (some (i : Int)) (some (j : Int)) = (xs.drop i).take (j - i) := by
  have e : HT.sIx xs.length 0 (some (i : Int)) = min i xs.length := HT.sIx_nat xs.length 0 i
  have e2 : HT.sIx xs.length xs.length (some (j : Int)) = min j xs.length := HT.sIx_nat xs.length xs.length j
  unfold cutV
  rw [e, e2]
  rcases Nat.lt_or_ge i xs.length with h | h
  · rw [Nat.min_eq_left (Nat.le_of_lt h)]
    rcases Nat.lt_or_ge j xs.length with k | k
    · rw [Nat.min_eq_left (Nat.le_of_lt k)]
    · rw [Nat.min_eq_right k, List.take_of_length_le (by rw [List.length_drop]; exact Nat.le_refl _), List.take_of_length_le (by rw [List.length_drop]; omega)]
  · rw [Nat.min_eq_right h, List.drop_length, List.drop_eq_nil_of_le h, List.take_nil, List.take_nil]
end Hn

set_option maxHeartbeats 4000000
/-! a caught own error asked by isinstance; a call of a def that a local name holds -/
namespace Hn
open PySem PySem.Spec PyProof.Rows L2 EF
open PySem.W (Frag keepIn)
section
variable {X : Cx} {a D : Addr} {oe : Obj} {pn : List (Addr × Obj)}
theorem caughtAt {pins : List (Addr × Obj)} {σ : L2.St} {H : Hp} {s : Shared} (hz : Zc (.ref D) none oe) (hf : ∃ vs, oe.data = .fields vs) (I : L2.Inv (X.suite a ((a, oe) :: pn)) pins σ H s) : PySem.W.InstAt s.heap a oe D none := by
  obtain ⟨hg, _⟩ := I.pin (a, oe) (List.mem_append.mpr (.inl List.mem_cons_self))
  obtain ⟨vs, hv⟩ := hf
  refine ⟨hg, hz.1, ?_, ?_⟩
  · unfold PySem.W.notCls
    rw [hv] <;> rfl
  · rw [hz.2]
    trivial
/-- isinstance(e, c), e the error that is handled -/
def rIsS (K : Frag) (D a : Addr) : List V → Hp → VK → Prop := fun xs H Q => ∃ (c : V) (u : Value) (b : Bool), xs = [.ref a, c] ∧ ClsV c u ∧ PySem.W.kitOne K (.ref D) u = some b ∧ Q (.bl b) H
theorem call_isS (T : IsE X.K D) (hz : Zc (.ref D) none oe) (hf : ∃ vs, oe.data = .fields vs) : CallR (X.suite a ((a, oe) :: pn)) (.builtin "isinstance") (rIsS X.K D a) := by
  intro pins s σ H xs us Q I r h
  obtain ⟨c, u, b, rfl, k, e, q⟩ := h
  obtain ⟨u1, u2, rfl, r1, r2⟩ := vals2 r
  have e2 := k.eq r2
  subst e2
  cases (show u1 = Value.ref a from r1)
  exact PySem.W.kia_one (PySem.W.kitx_exc T.cl T.ga T.gg T.exC T.kls T.get T.tk T.obj) I.kIn (caughtAt hz hf I) e (fun z => nomatch z) fun tk => ⟨.bl b, H, I.tok tk, rfl, q⟩
theorem cls_eq : ∀ {cs : List V} {us its : List Value}, Paired ClsV cs us → Vals cs its → its = us
  | _, _, _, .nil, .nil => rfl
  | _, _, _, .cons k ks, .cons r rs => by rw [k.eq r, cls_eq ks rs]
/-- isinstance(e, (c, ..)) -/
def rIsST (K : Frag) (D a : Addr) : List V → Hp → VK → Prop := fun xs H Q => ∃ (t : Addr) (cs : List V) (us : List Value) (b : Bool), xs = [.ref a, .ref t] ∧ H t = some (.tup cs) ∧ Paired ClsV cs us ∧ PySem.W.kitAny K (.ref D) us = some b ∧ Q (.bl b) H
theorem call_isST (T : IsE X.K D) (hz : Zc (.ref D) none oe) (hf : ∃ vs, oe.data = .fields vs) : CallR (X.suite a ((a, oe) :: pn)) (.builtin "isinstance") (rIsST X.K D a) := by
  intro pins s σ H xs us Q I r h
  obtain ⟨t, cs, ws, b, rfl, ht, k, e, q⟩ := h
  obtain ⟨u1, u2, rfl, r1, r2⟩ := vals2 r
  cases (show u1 = Value.ref a from r1)
  cases (show u2 = Value.ref t from r2)
  obtain ⟨_, its, rv, ⟨o, ho, hc, n, hd⟩⟩ := I.hok t _ ht
  obtain rfl := cls_eq k rv
  obtain ⟨c, dd, dt, sl⟩ := o
  obtain rfl : c = .type "tuple" := hc
  obtain rfl : dt = .seq its.toArray n := hd
  exact PySem.W.kia_tup (PySem.W.kitx_exc T.cl T.ga T.gg T.exC T.kls T.get T.tk T.obj) I.kIn (caughtAt hz hf I) ho e (fun z => nomatch z) fun tk => ⟨.bl b, H, I.tok tk, rfl, q⟩
end
/-- f(e, ..), f a local name that holds the def at f, which may raise -/
def tCallLS (i : Nat) (f : Addr) (sp : Sp) (E : L2.St → XK) (t : TA) : TE := fun σ H Q => σ[i]? = some (some (.ref f)) ∧ t σ H fun vs H1 => sp vs H1 Q (E σ)
theorem pe_callLS {X : Cx} {CX : CXT} {k i : Nat} {f : Addr} {fd : FuncData} {ps : List Str} {sp : Sp} {E : L2.St → XK} {x : Str} {p pos : Pos} {e : Expr} {es : List Expr} {t : TA} (F : FnOk X.prog X.w X.K X.mg X.base CX k f fd ps sp) (hr : Room k X.A) (hN : X.N[i]? = some x) (hv : Vis X.env.scope x)
    (hk : keepIn X.K (.ref f) = true) (hb : L2.Binds X.K fd ps []) (hx : ∀ σ, PassesAt CX X σ (E σ)) (ha : PA X (e :: es) t) (hdb : (x == ("__debug__" : Str)) = false := by decide) (hcd : (x == ("__classdict__" : Str)) = false := by decide)
    (he : starEach (e :: es) X.env = (false, eval e X.env) :: starEach es X.env := by rfl) (hpl : (backTo pos (starEach es X.env)).any (·.1) = false := by rfl) : PE X (.Call (.Name x p) (e :: es) [] pos) (tCallLS i f sp E t) := by
  refine ⟨fun pins s σ H Q I h => ?_⟩
  obtain ⟨hs, ht⟩ := h
  refine wpAny_Call_Name_kw (thn ((pe_var hN hv hdb hcd).run pins s σ H (fun v H1 => v = .ref f ∧ H1 = H) I ⟨_, hs, rfl, rfl⟩) ?_)
  rintro u s1 ⟨v, H1, I1, r1, rfl, rfl⟩
  cases (show u = Value.ref f from r1)
  refine PySem.W.callWith_K I.ok.mod.kin hk (thn (ha.run pos pins s1 σ H1 _ I1 ht) ?_) he hpl
  rintro us s2 ⟨vs, H2, I2, r, q⟩
  exact ⟨I2.kIn, run_fnS F hr hb (hx σ) I2 r q⟩
end Hn

set_option maxHeartbeats 4000000
/-! data whose tuples are short; data beside a bag -/
namespace Hn
open PySem PySem.Spec PyProof.Rows L2 EF
open PySem.W (Frag keepIn)
mutual
/-- no tuple within has more than b items (what stands in lists is not asked) -/
def Wide (b : Nat) : PyData → Prop
  | .tuple ds => ds.length ≤ b ∧ WideL b ds
  | _ => True
def WideL (b : Nat) : List PyData → Prop
  | [] => True
  | d :: ds => Wide b d ∧ WideL b ds
end
theorem wideL_iff {b : Nat} : ∀ {ds : List PyData}, WideL b ds ↔ ∀ d ∈ ds, Wide b d
  | [] => ⟨fun _ d h => absurd h List.not_mem_nil, fun _ => trivial⟩
  | d :: ds => by
    rw [WideL, wideL_iff, List.forall_mem_cons]
mutual
theorem Wide.mono {b c : Nat} (h : b ≤ c) : ∀ {d : PyData}, Wide b d → Wide c d
  | .tuple ds, w => ⟨Nat.le_trans w.1 h, WideL.mono h w.2⟩
  | .none, _ => trivial
  | .bool _, _ => trivial
  | .int _, _ => trivial
  | .str _, _ => trivial
  | .list _, _ => trivial
  | .dict _, _ => trivial
theorem WideL.mono {b c : Nat} (h : b ≤ c) : ∀ {ds : List PyData}, WideL b ds → WideL c ds
  | [], _ => trivial
  | d :: ds, w => ⟨Wide.mono h w.1, WideL.mono h w.2⟩
end
theorem Wide.at {b : Nat} {ds : List PyData} (w : Wide b (.tuple ds)) {d : PyData} (h : d ∈ ds) : Wide b d := wideL_iff.mp w.2 d h
theorem Wide.of {b : Nat} {ds : List PyData} (h : ds.length ≤ b) (w : ∀ d ∈ ds, Wide b d) : Wide b (.tuple ds) := ⟨h, wideL_iff.mpr w⟩
theorem Rep.but {N M : Addr → Prop} {b g : Addr} {H H' : Hp} {d : PyData} {x : V} (h : Rep N H d x) (hb : BagAt H b g) (t : But b g H H') (hN : ∀ a, N a → a ≠ b ∧ a ≠ g) (hM : ∀ a, N a → M a) : Rep M H' d x :=
  h.keep (fun a kvs e => t.keep hb e fun _ z => by cases z) (fun a xs e => t.keep hb e fun _ z => by cases z) fun a xs na e => ⟨hM a na, t a _ (hN a na).1 (hN a na).2 e⟩
theorem RepL.but {N M : Addr → Prop} {b g : Addr} {H H' : Hp} {ds : List PyData} {xs : List V} (h : RepL N H ds xs) (hb : BagAt H b g) (t : But b g H H') (hN : ∀ a, N a → a ≠ b ∧ a ≠ g) (hM : ∀ a, N a → M a) : RepL M H' ds xs :=
  h.keep (fun a kvs e => t.keep hb e fun _ z => by cases z) (fun a xs e => t.keep hb e fun _ z => by cases z) fun a xs na e => ⟨hM a na, t a _ (hN a na).1 (hN a na).2 e⟩
theorem Rep.all {N M : Addr → Prop} {H : Hp} {d : PyData} {x : V} (h : Rep N H d x) (hM : ∀ a, N a → M a) : Rep M H d x := h.keep (fun _ _ e => e) (fun _ _ e => e) fun _ _ na e => ⟨hM _ na, e⟩
end Hn

set_option maxHeartbeats 4000000
/-! t[::-1] of a tuple -/
namespace Hn
open PySem PySem.Spec PyProof.Rows L2 EF
open PySem.W (Frag keepIn)
section
variable {P : Program} {w : World} {A : Around} {E : Value → Shared → Prop} {z : Shared}
/-- the places of [::-1]: from the last one down -/
theorem places_back (n : Nat) : Builtin.Slice.slicePlaces ((n : Int) - 1) (-1) (-1) = n := by
  unfold Builtin.Slice.slicePlaces
  rw [if_neg (show ¬ (-1 : Int) > 0 by decide), show (- -1 : Int) = 1 by decide]
  split
  · rw [Int.ediv_one]
    omega
  · omega
theorem applied_back {sl : Addr} {a b c : Value} {n : Nat} {Q : Int × Int × Nat → Shared → Prop} (hs : z.heap.IsSliceOf sl a b c) (ha : IsPart a none) (hb : IsPart b none) (hc : IsPart c (some (-1)))
    (h : Q ((n : Int) - 1, -1, n) z) : wpAny (model P w) A (Builtin.Slice.sliceApplied (.ref sl) (pure (n : Int))) Q E z := by
  obtain ⟨_, g, _, d⟩ := hs
  rw [← places_back n] at h
  unfold Builtin.Slice.sliceApplied Builtin.Slice.sliceFields
  have tail : wpAny (model P w) A (pure ((n : Int) - 1, (-1 : Int), Builtin.Slice.slicePlaces ((n : Int) - 1) (-1) (-1))) Q E z := wpAny_pure (by
    rw [places_back n] at h ⊢
    exact h)
  refine wpAny_bind (wpAny_bind (wpAny_field g d (x := a) rfl (wpAny_bind (wpAny_field g d (x := b) rfl (wpAny_bind (wpAny_field g d (x := c) rfl (wpAny_pure (wpAny_bind (HT.slicePart_ hc ?_)))))))))
  show wpAny _ _ (if ((-1 : Int) == 0) = true then _ else _) _ _ z
  rw [if_neg (by decide)]
  exact wpAny_bind (HT.slicePart_ ha (wpAny_bind (HT.slicePart_ hb (wpAny_bind (wpAny_pure tail)))))
theorem picked_back (xs : Array Value) : ((List.range xs.size).filterMap fun (k : Nat) => xs[(((xs.size : Int) - 1) + (k : Int) * (-1)).toNat]?).toArray = xs.toList.reverse.toArray := by
  have one : ∀ k : Nat, (((xs.size : Int) - 1) + (k : Int) * (-1)).toNat = xs.size - 1 - k := fun k => by omega
  simp only [one]
  rw [← PySem.W.krv_all xs, ← List.filterMap_reverse, ← PySem.W.krv_range, List.filterMap_map]
  rfl
theorem got_back {t sl : Addr} {its : Array Value} {a b c : Value} {Q : Value → Shared → Prop} (ht : IsTup z.heap t its) (hs : z.heap.IsSliceOf sl a b c) (ha : IsPart a none) (hb : IsPart b none) (hc : IsPart c (some (-1))) (lt : its.size ≤ sizeLine)
    (h : Q (.ref z.heap.objs.size) { z with heap := z.heap.push { cls := .type "tuple", data := .seq its.toList.reverse.toArray } }) : wpAny (model P w) A (getItem (.ref t) (.ref sl)) Q E z := by
  have room : sizeOk (.seq its.toList.reverse.toArray) := (show its.toList.reverse.toArray.size ≤ sizeLine by simpa using lt)
  have isS : z.TypeIs (.ref sl) "slice" := by
    obtain ⟨o, g, k, _⟩ := hs
    exact ⟨o, g, k⟩
  have none' : ¬ ((((its.size : Int) - 1) == 0 && (-1 : Int) == 1 && its.size == its.size) = true) := by simp
  unfold getItem
  with_reducible refine wpAny_holding ?_
  first | refine wpAny_bind (wpAny_pure (wpAny_bind (wpAny_sequenceKey ht.typeIs (by decide) ?_))) | refine wpAny_bind (wpAny_sequenceKey ht.typeIs (by decide) ?_)
  refine wpAny_bind (wpAny_callSpecial?_slot (name := Str.ofString "__getitem__") ht.typeIs slot_tuple_getitem (wpAny_call_entry slot_tuple_getitem ht.typeIs entry_tuple_getitem ?_ (args_tuple_getitem _ _)))
  show wpAny _ _ (Builtin.Tuple.tupleItemsOf (.ref t) >>= _) _ _ z
  refine wpAny_bind (tupleItemsOf_ ht (wpAny_bind (wpAny_typeOf isS ?_)))
  rw [if_pos (by decide)]
  refine wpAny_bind (applied_back hs ha hb hc ?_)
  show wpAny _ _ (if (((its.size : Int) - 1) == 0 && (-1 : Int) == 1 && its.size == its.size) = true then _ else _) _ _ z
  rw [if_neg none', picked_back]
  first
    | exact wpAny_bind (m := Builtin.Tuple.tupleExact _) (wpAny_newObj_type (wpAny_pure ⟨_, rfl, wpAny_pure h⟩) room)
    | exact wpAny_bind (wpAny_bind (m := Builtin.Tuple.tupleExact _) (wpAny_newObj_type (wpAny_pure (wpAny_pure ⟨_, rfl, wpAny_pure h⟩)) room))
    | exact wpAny_bind (wpAny_bind (m := Builtin.Tuple.tupleExact _) (wpAny_newObj_type (wpAny_pure ⟨_, rfl, wpAny_pure h⟩) room))
    | exact wpAny_bind (m := Builtin.Tuple.tupleExact _) (wpAny_newObj_type (wpAny_bind (wpAny_pure (wpAny_pure ⟨_, rfl, wpAny_pure h⟩))) room)
end
def tRevT (K : PySem.W.Frag) (te : TE) : TE := fun σ H Q => te σ H fun x H1 => ∃ a xs, x = .ref a ∧ SqT K H1 a xs ∧ ∀ p, H1 p = none → Q (.ref p) (upd H1 p (.tup xs.reverse))
theorem pe_revT {X : Cx} {e : Expr} {te : TE} {k : Nat} {p1 p2 p3 pos : Pos} (he : PE X e te) : PE X (.Subscript e (.Slice none none (some (.UnaryOp .USub (.Constant (.int 1) k p1) p2)) p3) pos) (tRevT X.K te) := by
  have less : PO X (some (.UnaryOp .USub (.Constant (.int 1) k p1) p2)) (tPart (tUn (rU fun i => .int (-i)) (tC (.int 1)))) := po_some (pe_un un_neg pe_int)
  constructor
  intro pins s σ H Q I h
  refine Subscript_ (thn (he.run pins s σ H _ I h) ?_)
  rintro v s1 ⟨_, H1, I1, r1, a, xs, rfl, hx, q⟩
  cases r1
  refine wpAny_Slice (thn (po_none.run pins s1 σ H1 (fun o G => o = none ∧ G = H1) I1 ⟨rfl, rfl⟩) ?_)
  rintro va s2 ⟨_, G1, I2, pa, rfl, rfl⟩
  refine thn (po_none.run pins s2 σ _ (fun o G => o = none ∧ G = G1) I2 ⟨rfl, rfl⟩) ?_
  rintro vb s3 ⟨_, G2, I3, pb, rfl, rfl⟩
  refine thn (less.run pins s3 σ _ (fun o G => o = some (-1) ∧ G = G2) I3 ⟨1, rfl, -1, rfl, rfl, rfl⟩) ?_
  rintro vc s4 ⟨_, G3, I4, pc, rfl, rfl⟩
  have I5 : Inv X pins σ G3 { s4 with heap := s4.heap.push { cls := .type "slice", data := .fields #[va, vb, vc] } } := I4.kept (t' := s4.toks) fun _ _ g => Heap.get?_push_of_some _ g
  obtain ⟨its, r, ht, hz⟩ := I5.tuple hx
  have le : its.toArray.size ≤ sizeLine := by
    rw [List.size_toArray, ← r.length]
    exact hz
  show wpAny (model X.prog X.w) X.A (subscriptTail e (.Slice none none (some (.UnaryOp .USub (.Constant (.int 1) k p1) p2)) p3) (.ref a) (.ref s4.heap.objs.size)) (EP X pins σ Q) X.xe { s4 with heap := s4.heap.push { cls := .type "slice", data := .fields #[va, vb, vc] } }
  refine tail_any (ops := [.ref a, .ref s4.heap.objs.size]) ht.typeIs slot_tuple_getitem.lookup (got_back ht (Heap.IsSliceOf.new _ va vb vc) pa pb pc le ?_) (by with_unfolding_all rfl)
  have fit : xs.reverse.length ≤ sizeLine := by
    rw [List.length_reverse]
    exact hz
  exact ⟨.ref _, _, I5.laid (t' := s4.toks) (o := .tup xs.reverse) (fun _ _ g => Heap.get?_push_of_some _ g) (Nat.le_refl _) ⟨fit, _, r.reverse, IsTup.new _ _⟩, rfl, q _ (I5.hok.fresh (Nat.le_refl _))⟩
end Hn

set_option maxHeartbeats 4000000
/-! cutting a block behind a statement; enumerate(list) in a comprehension; a list of own lists beside a bag -/
namespace Hn
open PySem PySem.Spec PyProof.Rows L2 EF
open PySem.W (Frag keepIn)
/-- what follows a statement is shown once, from what P tells -/
theorem cutS {a b : TS} {D : Ends} {σ : L2.St} {H : Hp} (P : L2.St → Hp → Prop) (hb : ∀ σ H, P σ H → b D σ H) (ha : (∀ σ H, P σ H → b D σ H) → tSeq a b D σ H) : tSeq a b D σ H := ha hb
theorem lc_enumL {K : Frag} {a : Addr} {xs : List V} {g : TG} {tt : TT} {te : TE} {vs : List Nat} {σ : L2.St} {H1 : Hp} {D : Addr} {Qd : Hp → Prop} (Pv : Nat → Hp → Prop) (h0 : Pv 0 (upd H1 D (.lst [])))
    (hq : ∀ i H, Pv i H → SqL K H a xs)
    (hs : ∀ i x T H, xs[i]? = some x → Pv i H → H T = none → g (.ref T) (wipe σ vs) (upd H T (.tup [.int (i : Nat), x])) fun σ2 H2 => wipe σ2 vs = wipe σ vs ∧ tt σ2 H2 fun c H3 =>
      if c = true then te σ2 H3 fun z H4 => ∃ acc, H4 D = some (.lst acc) ∧ acc.length < sizeLine ∧ Pv (i + 1) (upd H4 D (.lst (acc ++ [z]))) else Pv (i + 1) H3) (hd : ∀ H, Pv xs.length H → Qd H) :
    ∃ W : Nat → Nat → Hp → Prop, (∃ m, W 0 m (upd H1 D (.lst []))) ∧ ∀ i m H, W i m H →
      ((Ite K a).stop i H ∧ Qd H) ∨ ((Ite K a).go i H ∧ ∃ Nx : Hp → Prop, (∀ H', Nx H' → ∃ m', m' < m ∧ W (i + 1) m' H') ∧ ∀ x H', (Ite K a).yld i H x H' → g x (wipe σ vs) H' fun σ2 H2 => wipe σ2 vs = wipe σ vs ∧ tt σ2 H2 fun c H3 =>
        if c = true then te σ2 H3 fun y H4 => ∃ acc, H4 D = some (.lst acc) ∧ acc.length < sizeLine ∧ Nx (upd H4 D (.lst (acc ++ [y]))) else Nx H3) := by
  refine ⟨fun i m H => m = xs.length - i ∧ i ≤ xs.length ∧ Pv i H, ⟨xs.length, rfl, Nat.zero_le _, h0⟩, ?_⟩
  rintro i m H ⟨rfl, hi, p⟩
  have q1 := hq i H p
  rcases Nat.lt_or_ge i xs.length with h | h
  · have e1 : xs[i]? = some xs[i] := List.getElem?_eq_getElem h
    refine .inr ⟨⟨xs, _, q1, e1⟩, Pv (i + 1), fun H' z => ⟨xs.length - (i + 1), by omega, rfl, h, z⟩, ?_⟩
    rintro x H' hy
    obtain ⟨T, x1, rfl, nT, rfl, f1⟩ := hy
    exact hs i x1 T H (f1 _ q1) p nT
  · obtain rfl : i = xs.length := by omega
    exact .inl ⟨⟨xs, q1, Nat.le_refl _⟩, hd H p⟩
theorem But.new {b g p : Addr} {H : Hp} {o : HO} (n : H p = none) : But b g H (upd H p o) := .of (same_new n)
theorem But.mut {b g p : Addr} {H H' : Hp} {o : HO} (t : But b g H H') (n : H p = none) : But b g H (upd H' p o) := fun a x h1 h2 e => by
  rw [upd_ne (ne_of_none e n)]
  exact t a x h1 h2 e
theorem But.none {b g a : Addr} {H H' : Hp} (t : But b g H H') (h : BagAt H' b g) (n : H' a = none) : H a = none := by
  obtain ⟨n1, n2⟩ := h.ne n
  cases z : H a with
  | none => rfl
  | some o =>
    rw [t a o n1 n2 z] at n
    cases n
theorem BagAt.mut {b g p : Addr} {H : Hp} {o : HO} (h : BagAt H b g) (n1 : p ≠ b) (n2 : p ≠ g) : BagAt (upd H p o) b g := by
  obtain ⟨n, s, c, gs, al, h1, h2, r⟩ := h
  exact ⟨n, s, c, gs, al, by rw [upd_ne (Ne.symm n1)]; exact h1, by rw [upd_ne (Ne.symm n2)]; exact h2, r⟩
theorem lst_ne {H : Hp} {a p : Addr} {o : HO} (h : H a = some o) (n : H p = Option.none) : a ≠ p := fun z => by
  rw [z, n] at h
  cases h
/-- c is a new list of new lists of ints, beside the bag -/
structure Cards (H0 H : Hp) (b g c : Addr) (rows : List (List Int)) : Prop where
  bt : But b g H0 H
  bag : BagAt H b g
  nc : H0 c = none
  cb : c ≠ b
  cg : c ≠ g
  qs : ∃ qs : List Addr, H c = some (.lst (qs.map V.ref)) ∧ qs.length = rows.length ∧ (∀ q ∈ qs, H0 q = none ∧ q ≠ c ∧ q ≠ b ∧ q ≠ g) ∧
    ∀ (i : Nat) (q : Addr) (r : List Int), qs[i]? = some q → rows[i]? = some r → H q = some (.lst (r.map V.int))
section
variable {H0 H H' : Hp} {b g c p : Addr} {rows : List (List Int)}
theorem Cards.nil (bt : But b g H0 H) (h : BagAt H b g) (n : H c = none) : Cards H0 (upd H c (.lst [])) b g c [] :=
  ⟨bt.trans (.new n), h.same (same_new n), bt.none h n, (h.ne n).1, (h.ne n).2, [], upd_same, rfl, fun q h => absurd h List.not_mem_nil, fun i q r e => by simp at e⟩
theorem Cards.but (k : Cards H0 H b g c rows) (t : But b g H H') (h : BagAt H' b g) : Cards H0 H' b g c rows := by
  obtain ⟨bt, bag, nc, cb, cg, qs, h1, h2, h3, h4⟩ := k
  refine ⟨bt.trans t, h, nc, cb, cg, qs, t _ _ cb cg h1, h2, h3, fun i q r e1 e2 => ?_⟩
  obtain ⟨_, _, n1, n2⟩ := h3 q (List.mem_of_getElem? e1)
  exact t _ _ n1 n2 (h4 i q r e1 e2)
theorem Cards.same (k : Cards H0 H b g c rows) (t : Same H H') : Cards H0 H' b g c rows := k.but (.of t) (k.bag.same t)
/-- what is not within may be changed -/
theorem Cards.mut (k : Cards H0 H b g c rows) {o : HO} (hp : H0 p = none) (n1 : p ≠ b) (n2 : p ≠ g) (n3 : p ≠ c) (n4 : ∀ qs : List Addr, H c = some (.lst (qs.map V.ref)) → p ∉ qs) : Cards H0 (upd H p o) b g c rows := by
  obtain ⟨bt, bag, nc, cb, cg, qs, h1, h2, h3, h4⟩ := k
  refine ⟨bt.mut hp, bag.mut n1 n2, nc, cb, cg, qs, by rw [upd_ne (Ne.symm n3)]; exact h1, h2, h3, fun i q r e1 e2 => ?_⟩
  have nq : q ≠ p := fun z => n4 qs h1 (by rw [← z]; exact List.mem_of_getElem? e1)
  rw [upd_ne nq]
  exact h4 i q r e1 e2
/-- one more row, a list at p -/
theorem Cards.push (k : Cards H0 H b g c rows) {r : List Int} (hp : H p = some (.lst (r.map V.int))) (n0 : H0 p = none) (n1 : p ≠ b) (n2 : p ≠ g) (n3 : p ≠ c) : ∃ acc, H c = some (.lst acc) ∧ acc.length = rows.length ∧ Cards H0 (upd H c (.lst (acc ++ [.ref p]))) b g c (rows ++ [r]) := by
  obtain ⟨bt, bag, nc, cb, cg, qs, h1, h2, h3, h4⟩ := k
  refine ⟨_, h1, by rw [List.length_map]; exact h2, bt.mut nc, bag.mut cb cg, nc, cb, cg, qs ++ [p], by rw [upd_same, List.map_append]; rfl, by rw [List.length_append, List.length_append, h2]; rfl, fun q hq => ?_, fun i q r' e1 e2 => ?_⟩
  · rcases List.mem_append.mp hq with z | z
    · exact h3 q z
    · rw [List.mem_singleton.mp z]
      exact ⟨n0, n3, n1, n2⟩
  · rw [List.getElem?_append] at e1 e2
    rw [h2] at e1
    split at e1
    · rename_i hi
      rw [if_pos hi] at e2
      have := (h3 q (List.mem_of_getElem? e1)).2.1
      rw [upd_ne this]
      exact h4 i q r' e1 e2
    · rename_i hi
      rw [if_neg hi] at e2
      have e3 := List.mem_singleton.mp (List.mem_of_getElem? e1)
      have e4 := List.mem_singleton.mp (List.mem_of_getElem? e2)
      rw [e3, e4, upd_ne n3]
      exact hp
theorem Cards.row (k : Cards H0 H b g c rows) {i : Nat} {r : List Int} (e : rows[i]? = some r) : ∃ xs q, H c = some (.lst xs) ∧ xs.length = rows.length ∧ xs[i]? = some (.ref q) ∧ H q = some (.lst (r.map V.int)) ∧ H0 q = none ∧ q ≠ c ∧ q ≠ b ∧ q ≠ g := by
  obtain ⟨bt, bag, nc, cb, cg, qs, h1, h2, h3, h4⟩ := k
  have hi : i < rows.length := (List.getElem?_eq_some_iff.mp e).1
  have e1 : qs[i]? = some (qs[i]'(by omega)) := List.getElem?_eq_getElem (by omega)
  have z := h3 _ (List.mem_of_getElem? e1)
  exact ⟨_, _, h1, by rw [List.length_map]; exact h2, by rw [List.getElem?_map, e1]; rfl, h4 i _ r e1 e, z.1, z.2.1, z.2.2.1, z.2.2.2⟩
theorem Cards.list (k : Cards H0 H b g c rows) : ∃ qs : List Addr, H c = some (.lst (qs.map V.ref)) ∧ qs.length = rows.length := by
  obtain ⟨bt, bag, nc, cb, cg, qs, h1, h2, h3, h4⟩ := k
  exact ⟨qs, h1, h2⟩
end
/-- beside the cards stands something at p -/
structure Side (H0 H : Hp) (b g c : Addr) (rows : List (List Int)) (p : Addr) : Prop where
  k : Cards H0 H b g c rows
  n0 : H0 p = none
  pb : p ≠ b
  pg : p ≠ g
  pc : p ≠ c
  off : ∀ qs : List Addr, H c = some (.lst (qs.map V.ref)) → p ∉ qs
section
variable {H0 H H' : Hp} {b g c p : Addr} {rows : List (List Int)}
theorem Cards.off (k : Cards H0 H b g c rows) (n : H p = none) : p ≠ b ∧ p ≠ g ∧ p ≠ c ∧ ∀ qs : List Addr, H c = some (.lst (qs.map V.ref)) → p ∉ qs := by
  obtain ⟨bt, bag, nc, cb, cg, qs, h1, h2, h3, h4⟩ := k
  refine ⟨(bag.ne n).1, (bag.ne n).2, Ne.symm (lst_ne h1 n), fun qs' e hp => ?_⟩
  have e2 := HO.lst.inj (Option.some.inj (e.symm.trans h1))
  have e3 : qs' = qs := (List.map_inj_right (fun _ _ z => V.ref.inj z)).mp e2
  rw [e3] at hp
  obtain ⟨j, hj, e4⟩ := List.getElem_of_mem hp
  have e5 := h4 j p (rows[j]'(by omega)) (by rw [← e4]; exact List.getElem?_eq_getElem hj) (List.getElem?_eq_getElem (by omega))
  rw [n] at e5
  cases e5
theorem Side.new {o : HO} (k : Cards H0 H b g c rows) (n : H p = none) : Side H0 (upd H p o) b g c rows p := by
  obtain ⟨h1, h2, h3, h4⟩ := k.off n
  exact ⟨k.same (same_new n), k.bt.none k.bag n, h1, h2, h3, fun qs e => h4 qs (by rw [upd_ne (Ne.symm h3)] at e; exact e)⟩
theorem Side.but (s : Side H0 H b g c rows p) (t : But b g H H') (h : BagAt H' b g) : Side H0 H' b g c rows p := by
  refine ⟨s.k.but t h, s.n0, s.pb, s.pg, s.pc, fun qs e => ?_⟩
  obtain ⟨qs', h1, _⟩ := s.k.list
  have e2 := HO.lst.inj (Option.some.inj (e.symm.trans (t _ _ s.k.cb s.k.cg h1)))
  have e3 : qs = qs' := (List.map_inj_right (fun _ _ z => V.ref.inj z)).mp e2
  rw [e3]
  exact s.off qs' h1
theorem Side.same (s : Side H0 H b g c rows p) (t : Same H H') : Side H0 H' b g c rows p := s.but (.of t) (s.k.bag.same t)
theorem Side.set {o : HO} (s : Side H0 H b g c rows p) : Side H0 (upd H p o) b g c rows p :=
  ⟨s.k.mut s.n0 s.pb s.pg s.pc s.off, s.n0, s.pb, s.pg, s.pc, fun qs e => s.off qs (by rw [upd_ne (Ne.symm s.pc)] at e; exact e)⟩
theorem Side.push (s : Side H0 H b g c rows p) {r : List Int} (hp : H p = some (.lst (r.map V.int))) : ∃ acc, H c = some (.lst acc) ∧ acc.length = rows.length ∧ Cards H0 (upd H c (.lst (acc ++ [.ref p]))) b g c (rows ++ [r]) := s.k.push hp s.n0 s.pb s.pg s.pc
end
/-- a row of a web's: of person i of n -/
def GoodRow (n i : Nat) (r : List Int) : Prop := r.Pairwise (· < ·) ∧ (∀ w ∈ r, 0 ≤ w ∧ w < (n : Int)) ∧ (i : Int) ∉ r
def GoodRows (n : Nat) (rows : List (List Int)) : Prop := ∀ (i : Nat) (r : List Int), rows[i]? = some r → GoodRow n i r
theorem GoodRow.nil {n i : Nat} : GoodRow n i [] := ⟨.nil, fun _ h => absurd h List.not_mem_nil, List.not_mem_nil⟩
theorem GoodRows.snoc {n : Nat} {rows : List (List Int)} {r : List Int} (h : GoodRows n rows) (k : GoodRow n rows.length r) : GoodRows n (rows ++ [r]) := fun i r' e => by
  rw [List.getElem?_append] at e
  split at e
  · exact h i r' e
  · rename_i hi
    have e4 := List.mem_singleton.mp (List.mem_of_getElem? e)
    have e5 : i - rows.length < 1 := (List.getElem?_eq_some_iff.mp e).1
    have e6 : i = rows.length := by omega
    rw [e4, e6]
    exact k
theorem GoodRow.few {n i : Nat} {r : List Int} (h : GoodRow n i r) : r.length ≤ n := few_below (h.1.imp fun z => Int.ne_of_lt z) h.2.1
end Hn

set_option maxHeartbeats 4000000
/-! things of any kind beside a bag -/
namespace Hn
open PySem PySem.Spec PyProof.Rows L2 EF
open PySem.W (Frag keepIn)
/-- x is some datum beside the bag, none of its tuples long -/
def Odd (b g : Addr) (H : Hp) (x : V) : Prop := ∃ d, Rep (fun a => a ≠ b ∧ a ≠ g) H d x ∧ Wide 10 d
def Odds (b g : Addr) (H : Hp) (xs : List V) : Prop := ∀ x ∈ xs, Odd b g H x
section
variable {b g : Addr} {H H' : Hp}
theorem Odd.same {x : V} (o : Odd b g H x) (s : Same H H') : Odd b g H' x := by
  obtain ⟨d, r, w⟩ := o
  exact ⟨d, r.same s, w⟩
theorem Odd.but {x : V} (o : Odd b g H x) (hb : BagAt H b g) (t : But b g H H') : Odd b g H' x := by
  obtain ⟨d, r, w⟩ := o
  exact ⟨d, r.but hb t (fun _ h => h) (fun _ h => h), w⟩
theorem Odd.int (i : Int) : Odd b g H (.int i) := ⟨.int i, rfl, trivial⟩
theorem Odd.bl (k : Bool) : Odd b g H (.bl k) := ⟨.bool k, rfl, trivial⟩
theorem Odd.non : Odd b g H .non := ⟨.none, rfl, trivial⟩
theorem Odd.str (x : Str) : Odd b g H (.str x) := ⟨.str x, rfl, trivial⟩
theorem Odds.nil : Odds b g H [] := fun x h => absurd h List.not_mem_nil
theorem Odds.cons {x : V} {xs : List V} (o : Odd b g H x) (os : Odds b g H xs) : Odds b g H (x :: xs) := fun y h => by
  rcases List.mem_cons.mp h with rfl | h
  · exact o
  · exact os y h
theorem Odds.same {xs : List V} (o : Odds b g H xs) (s : Same H H') : Odds b g H' xs := fun x h => (o x h).same s
theorem Odds.but {xs : List V} (o : Odds b g H xs) (hb : BagAt H b g) (t : But b g H H') : Odds b g H' xs := fun x h => (o x h).but hb t
theorem Odds.app {xs ys : List V} (o : Odds b g H xs) (p : Odds b g H ys) : Odds b g H (xs ++ ys) := fun x h => (List.mem_append.mp h).elim (o x) (p x)
theorem Odds.one {x : V} (o : Odd b g H x) : Odds b g H [x] := .cons o .nil
theorem Odds.reps : ∀ {xs : List V}, Odds b g H xs → ∃ ds, RepL (fun a => a ≠ b ∧ a ≠ g) H ds xs ∧ ∀ d ∈ ds, Wide 10 d
  | [], _ => ⟨[], rfl, fun d h => absurd h List.not_mem_nil⟩
  | x :: xs, o => by
    obtain ⟨d, r, w⟩ := o x List.mem_cons_self
    obtain ⟨ds, rs, ws⟩ := Odds.reps (xs := xs) fun y h => o y (List.mem_cons_of_mem _ h)
    refine ⟨d :: ds, ⟨x, xs, rfl, r, rs⟩, fun e h => ?_⟩
    rcases List.mem_cons.mp h with rfl | h
    · exact w
    · exact ws e h
theorem Odd.tup {p : Addr} {xs : List V} (h : H p = some (.tup xs)) (l : xs.length ≤ 10) (os : Odds b g H xs) : Odd b g H (.ref p) := by
  obtain ⟨ds, rs, ws⟩ := os.reps
  exact ⟨.tuple ds, ⟨p, xs, rfl, h, rs⟩, .of (by rw [← rs.length]; exact l) ws⟩
theorem Odd.lst {p : Addr} {xs : List V} (h : H p = some (.lst xs)) (n : p ≠ b ∧ p ≠ g) (os : Odds b g H xs) : Odd b g H (.ref p) := by
  obtain ⟨ds, rs, ws⟩ := os.reps
  exact ⟨.list ds, ⟨p, xs, rfl, n, h, rs⟩, trivial⟩
theorem Odd.dic {p : Addr} {kvs : List (Key × V)} (h : H p = some (.dK kvs)) : Odd b g H (.ref p) := ⟨.dict [], ⟨p, kvs, rfl, h⟩, trivial⟩
/-- each list or tuple that is made adds to what there is -/
theorem Odds.addT {p : Addr} {xs acc : List V} (hb : BagAt H b g) (n : H p = none) (l : xs.length ≤ 10) (os : Odds b g H xs) (a : Odds b g H acc) : Same H (upd H p (.tup xs)) ∧ BagAt (upd H p (.tup xs)) b g ∧ Odds b g (upd H p (.tup xs)) (.ref p :: acc) :=
  have s := same_new (o := .tup xs) n
  ⟨s, hb.same s, .cons (.tup upd_same l (os.same s)) (a.same s)⟩
theorem Odds.addL {p : Addr} {xs acc : List V} (hb : BagAt H b g) (n : H p = none) (os : Odds b g H xs) (a : Odds b g H acc) : Same H (upd H p (.lst xs)) ∧ BagAt (upd H p (.lst xs)) b g ∧ Odds b g (upd H p (.lst xs)) (.ref p :: acc) :=
  have s := same_new (o := .lst xs) n
  ⟨s, hb.same s, .cons (.lst upd_same (hb.ne n) (os.same s)) (a.same s)⟩
theorem Odds.addD {p : Addr} {kvs : List (Key × V)} {acc : List V} (hb : BagAt H b g) (n : H p = none) (a : Odds b g H acc) : Same H (upd H p (.dK kvs)) ∧ BagAt (upd H p (.dK kvs)) b g ∧ Odds b g (upd H p (.dK kvs)) (.ref p :: acc) :=
  have s := same_new (o := .dK kvs) n
  ⟨s, hb.same s, .cons (.dic upd_same) (a.same s)⟩
end
theorem Wide.fit {n : Nat} {d : PyData} (w : Wide n d) (h : n ≤ 1000) : match d with | .tuple ps => ps.length ≤ 1000 ∧ ∀ p ∈ ps, (match p with | .tuple ds => ds.length ≤ 1000 | _ => True) | _ => True := by
  cases d with
  | tuple ps =>
    refine ⟨Nat.le_trans w.1 h, fun p hp => ?_⟩
    have z := w.at hp
    cases p with
    | tuple es => exact Nat.le_trans z.1 h
    | _ => trivial
  | _ => trivial
theorem flat_rep {x : V} : ∀ n : Nat, (List.replicate n [x]).flatten = List.replicate n x
  | 0 => rfl
  | n + 1 => by rw [List.replicate_succ, List.flatten_cons, flat_rep n]; rfl
end Hn

set_option maxHeartbeats 4000000
namespace Lw
open PySem PySem.Spec PyProof.Rows L2 EF Hn
open PySem.W (Frag keepIn)
def top (i : Nat) : Stmt := PySem.Challenge.pw_stillfound_k01_whole_webs_judged.main.body.getD i (.Pass ⟨0, 0, 0, 0⟩)
abbrev s_law_bag : Stmt := top 27
abbrev N_law_bag : List Str := ["script", "seed", "cell", "great", "always"]
theorem sc_law_bag : FnScope N_law_bag ["script"] (defScope s_law_bag) := ⟨rfl, rfl, rfl, by decide +kernel, rfl, by decide +kernel, by decide +kernel⟩
abbrev s_law_pick : Stmt := top 28
abbrev N_law_pick : List Str := ["bag", "many", "great", "digit", "number"]
theorem sc_law_pick : FnScope N_law_pick ["bag", "many"] (defScope s_law_pick) := ⟨rfl, rfl, rfl, by decide +kernel, rfl, by decide +kernel, by decide +kernel⟩
abbrev s_law_some : Stmt := top 29
abbrev N_law_some : List Str := ["bag", "things"]
theorem sc_law_some : FnScope N_law_some ["bag", "things"] (defScope s_law_some) := ⟨rfl, rfl, rfl, by decide +kernel, rfl, by decide +kernel, by decide +kernel⟩
section
variable {P : Program} {w : World} {K : Frag} {mg : Str → Option Value} {base : Heap}
theorem k_pick (B : Bl mg) (D : Dfn K mg "_law_pick" s_law_pick ["bag", "many"]) : Kept P w K mg base 1 "_law_pick" ["bag", "many"] spPick := by
  refine D.kept (N := N_law_pick) sc_law_pick (fun vs H Q E h => ?_) (fun f cdv A outer s H vs Q E hr h => ?_)
  · obtain ⟨b, g, m, rfl, _⟩ := h
    rfl
  obtain ⟨b, g, m, rfl, ⟨nbg, z, c, gs, al, hb, hg, hl, ha⟩, m0, m1, q⟩ := h
  refine ⟨_, (pss_cons (ps_if (pt_cmpR op_notN (pe_ix ix_list (pv 0) pe_int (fun _ _ => rfl)) pe_non (nomark _)) (pss_one (ps_ret (pe_op op_mod (pe_callTy call_int1 (by rfl) B.b_int (by decide +kernel) (pa_cons (pe_ix ix_list (pv 0) pe_int (fun _ _ => rfl)) pa_nil)) (pv 1)))) pss_nil)
      (pss_cons (ps_asg (pe_op op_add (pe_ix ix_list (pv 0) pe_int (fun _ _ => rfl)) pe_int) (pg_sub (pv 0) pe_int set_list))
      (pss_cons (ps_set (i := 2) sc_law_pick.nd rfl (Or.inl rfl) (pe_ix ix_list (pv 0) pe_int (fun _ _ => rfl)))
      (pss_cons (ps_if (pt_cmpR op_gt (pe_callB call_len_seq (by rfl) B.b_len PySem.boot_len (pa_cons (pv 2) pa_nil)) pe_int (nomark _)) (pss_cons (ps_set (i := 3) sc_law_pick.nd rfl (Or.inl rfl) (pe_op op_mod (pe_callTy call_int1 (by rfl) B.b_int (by decide +kernel) (pa_cons (pe_ix ix_list (pv 2) pe_int (fun _ _ => rfl)) pa_nil)) (pv 1)))
      (pss_cons (ps_asg (pe_op op_fdiv (pe_callTy call_int1 (by rfl) B.b_int (by decide +kernel) (pa_cons (pe_ix ix_list (pv 2) pe_int (fun _ _ => rfl)) pa_nil)) (pv 1)) (pg_sub (pv 2) pe_int set_list))
      (pss_cons (ps_if (pt_cmpR op_eq (pe_ix ix_list (pv 2) pe_int (fun _ _ => rfl)) pe_int (nomark _)) (pss_one (ps_expr (pe_bm PySem.F.plainAttrs_list PySem.F.slot_list_pop PySem.F.type_list_pop mt_popAt (pv 2) (pa_cons pe_int pa_nil)))) pss_nil)
      (pss_one (ps_ret (pv 3)))))) pss_nil)
      (pss_cons (ps_set (i := 4) sc_law_pick.nd rfl (Or.inl rfl) (pe_op op_mod (pe_callTy call_int1 (by rfl) B.b_int (by decide +kernel) (pa_cons (pe_op op_mul (pe_op op_add (pe_ix ix_list (pv 0) pe_int (fun _ _ => rfl)) (pe_op op_mul pe_int (pe_ix ix_list (pv 0) pe_int (fun _ _ => rfl)))) pe_int) pa_nil)) pe_int))
      (pss_cons (ps_set (i := 4) sc_law_pick.nd rfl (Or.inl rfl) (pe_op op_mod (pe_callTy call_int1 (by rfl) B.b_int (by decide +kernel) (pa_cons (pe_op op_mul (pv 4) (pe_op op_add (pe_op op_fdiv (pv 4) pe_int) pe_int)) pa_nil)) pe_int))
      (pss_cons (ps_set (i := 4) sc_law_pick.nd rfl (Or.inl rfl) (pe_op op_mod (pe_callTy call_int1 (by rfl) B.b_int (by decide +kernel) (pa_cons (pe_op op_mul (pv 4) (pe_op op_add (pe_op op_fdiv (pv 4) pe_int) pe_int)) pa_nil)) pe_int))
      (pss_one (ps_ret (pe_op op_mod (pe_callTy call_int1 (by rfl) B.b_int (by decide +kernel) (pa_cons (pe_op op_fdiv (pv 4) pe_int) pa_nil)) (pv 1))))))))))), ?_⟩
  have nbg' : g ≠ b := fun e => nbg e.symm
  -- if bag[3] is not None
  refine ⟨_, rfl, b, _, 3, al, rfl, rfl, SqL.of hb, rfl, rfl, _, rfl, ite2 (fun e => ?_) (fun e => ?_)⟩
  · obtain ⟨i, rfl⟩ : ∃ i, al = .int i := by
      rcases ha with rfl | ha
      · cases e
      · exact ha
    refine ⟨_, rfl, b, _, 3, .int i, rfl, rfl, SqL.of hb, rfl, .inl ⟨i, rfl, _, rfl, i, m, rfl, rfl, m0, ?_⟩⟩
    exact q _ H .refl ⟨nbg, z, c, gs, _, hb, hg, hl, .inr ⟨i, rfl⟩⟩ (Int.emod_nonneg _ (by omega)) (Int.emod_lt_of_pos _ m0)
  -- bag[1] = bag[1] + 1
  refine ⟨_, rfl, b, _, 1, .int c, rfl, rfl, SqL.of hb, rfl, c, 1, rfl, rfl, _, rfl, b, _, 1, 1, rfl, rfl, hb, rfl, ?_⟩
  have hb1 : upd H b (.lst [.int z, .int (c + 1), .ref g, al]) b = some (.lst [.int z, .int (c + 1), .ref g, al]) := upd_same
  have hg1 : upd H b (.lst [.int z, .int (c + 1), .ref g, al]) g = some (.lst (gs.map V.int)) := by rw [upd_ne nbg']; exact hg
  have bt1 : But b g H (upd H b (.lst [.int z, .int (c + 1), .ref g, al])) := fun a o n1 n2 e => by rw [upd_ne n1]; exact e
  show tSeq _ _ _ _ (upd H b (.lst [.int z, .int (c + 1), .ref g, al]))
  generalize upd H b (.lst [.int z, .int (c + 1), .ref g, al]) = H1 at hb1 hg1 bt1 ⊢
  -- great = bag[2]
  refine ⟨_, rfl, b, _, 2, .ref g, rfl, rfl, SqL.of hb1, rfl, ?_⟩
  -- if len(great) > 0
  refine ⟨_, rfl, g, _, rfl, .inl (SqL.of hg1), _, 0, rfl, rfl, _, rfl, ite2 (fun e1 => ?_) (fun e1 => ?_)⟩
  · obtain ⟨x, r, rfl⟩ : ∃ x r, gs = x :: r := by
      cases gs with
      | nil => exact absurd (of_decide_eq_true e1) (by decide)
      | cons x r => exact ⟨x, r, rfl⟩
    have hg1 : H1 g = some (.lst (.int x :: r.map V.int)) := hg1
    -- digit = int(great[0]) % many
    refine ⟨_, rfl, g, _, 0, .int x, rfl, rfl, SqL.of hg1, at0, .inl ⟨x, rfl, _, rfl, x, m, rfl, rfl, m0, ?_⟩⟩
    -- great[0] = int(great[0]) // many
    refine ⟨_, rfl, g, _, 0, .int x, rfl, rfl, SqL.of hg1, at0, .inl ⟨x, rfl, _, rfl, x, m, rfl, rfl, ⟨m0, m1⟩, _, rfl, g, _, 0, 0, rfl, rfl, hg1, ix0, ?_⟩⟩
    have hb2 : upd H1 g (.lst (.int (x / m) :: r.map V.int)) b = some (.lst [.int z, .int (c + 1), .ref g, al]) := by rw [upd_ne nbg]; exact hb1
    have hg2 : upd H1 g (.lst (.int (x / m) :: r.map V.int)) g = some (.lst (.int (x / m) :: r.map V.int)) := upd_same
    have bt2 : But b g H (upd H1 g (.lst (.int (x / m) :: r.map V.int))) := bt1.trans fun a o n1 n2 e => by rw [upd_ne n2]; exact e
    show tSeq _ _ _ _ (upd H1 g (.lst (.int (x / m) :: r.map V.int)))
    generalize upd H1 g (.lst (.int (x / m) :: r.map V.int)) = H2 at hb2 hg2 bt2 ⊢
    have lo : 0 ≤ x % m := Int.emod_nonneg _ (by omega)
    have hi : x % m < m := Int.emod_lt_of_pos _ m0
    rw [List.length_cons] at hl
    -- if great[0] == 0: great.pop(0)
    refine ⟨_, rfl, g, _, 0, .int (x / m), rfl, rfl, SqL.of hg2, at0, rfl, _, rfl, ite2 (fun e2 => ?_) (fun e2 => ?_)⟩
    · refine ⟨_, rfl, .inl ⟨rfl, _, SqL.of hg2⟩, g, _, 0, 0, .int (x / m), rfl, rfl, hg2, by decide, by decide, sx0, rfl, ?_⟩
      refine ⟨_, rfl, q _ _ (bt2.trans fun a o n1 n2 e => by rw [upd_ne n2]; exact e) ⟨nbg, z, c + 1, r, al, by rw [upd_ne nbg]; exact hb2, upd_same, by omega, ha⟩ lo hi⟩
    · exact ⟨_, rfl, q _ _ bt2 ⟨nbg, z, c + 1, (x / m) :: r, al, hb2, hg2, by rw [List.length_cons]; omega, ha⟩ lo hi⟩
  · -- the three numbers
    refine ⟨_, rfl, b, _, 0, .int z, rfl, rfl, SqL.of hb1, rfl, _, rfl, b, _, 1, .int (c + 1), rfl, rfl, SqL.of hb1, rfl, 7919, c + 1, rfl, rfl, .inl ⟨by decide, by decide⟩, z, _, rfl, rfl, _, _, rfl, rfl, .inr ⟨by decide, by decide⟩, .inl ⟨_, rfl, _, 2147483647, rfl, rfl, (show (0 : Int) < 2147483647 by decide), ?_⟩⟩
    refine ⟨_, rfl, _, rfl, _, 1009, rfl, rfl, ⟨by decide, by decide⟩, _, 69621, rfl, rfl, _, _, rfl, rfl, cmulL (by decide) (by decide), .inl ⟨_, rfl, _, 2147483647, rfl, rfl, (show (0 : Int) < 2147483647 by decide), ?_⟩⟩
    refine ⟨_, rfl, _, rfl, _, 2003, rfl, rfl, ⟨by decide, by decide⟩, _, 40692, rfl, rfl, _, _, rfl, rfl, cmulL (by decide) (by decide), .inl ⟨_, rfl, _, 2147483399, rfl, rfl, (show (0 : Int) < 2147483399 by decide), ?_⟩⟩
    refine ⟨_, rfl, _, 16, rfl, rfl, ⟨by decide, by decide⟩, .inl ⟨_, rfl, _, rfl, _, m, rfl, rfl, m0, ?_⟩⟩
    exact q _ _ bt1 ⟨nbg, z, c + 1, gs, al, hb1, hg1, hl, ha⟩ (Int.emod_nonneg _ (by omega)) (Int.emod_lt_of_pos _ m0)
theorem k_some (B : Bl mg) (D : Dfn K mg "_law_some" s_law_some ["bag", "things"]) (G_law_pick : Kept P w K mg base 1 "_law_pick" ["bag", "many"] spPick) : Kept P w K mg base 2 "_law_some" ["bag", "things"] (spSome K) := by
  refine D.kept (N := N_law_some) sc_law_some (fun vs H Q E h => ?_) (fun f cdv A outer s H vs Q E hr h => ?_)
  · obtain ⟨b, g, l, xs, rfl, _⟩ := h
    rfl
  obtain ⟨b, g, l, xs, rfl, hb, n1, n2, hl, h0, h1, q⟩ := h
  have fin : ∀ (r : Int) (H' : Hp), But b g H H' → BagAt H' b g → 0 ≤ r → r < (xs.length : Int) → ∃ x, atI xs r = some x ∧ Q x H' := fun r H' bt hb' r0 r1 => by
    obtain ⟨k, rfl⟩ : ∃ k : Nat, r = (k : Int) := ⟨r.toNat, by omega⟩
    have hk : k < xs.length := by omega
    refine ⟨xs[k], ?_, q _ H' bt hb' (List.getElem_mem hk)⟩
    exact atI_nat (List.getElem?_eq_getElem hk)
  have keepL : ∀ H', But b g H H' → SqL K H l xs → SqL K H' l xs := fun H' bt h => by
    rcases h with (h | ⟨o, h⟩) | h
    · exact .inl (.inl (bt _ _ n1 n2 h))
    · exact .inl (.inr ⟨o, bt _ _ n1 n2 h⟩)
    · exact .inr h
  have keepT : ∀ H', But b g H H' → SqT K H l xs → SqT K H' l xs := fun H' bt h => by
    rcases h with (h | ⟨o, h⟩) | h
    · exact .inl (.inl (bt _ _ n1 n2 h))
    · exact .inl (.inr ⟨o, bt _ _ n1 n2 h⟩)
    · exact .inr h
  rcases hl with hl | hl
  · refine ⟨_, (pss_one (ps_ret (pe_ix ix_list (pv 1) (pe_k G_law_pick (hr.mono (by first | decide | omega)) (by rfl) (pa_cons (pv 0) (pa_cons (pe_callB call_len_seq (by rfl) B.b_len PySem.boot_len (pa_cons (pv 1) pa_nil)) pa_nil))) (fun _ _ => rfl)))), ?_⟩
    refine ⟨_, rfl, _, rfl, _, rfl, l, xs, rfl, .inl hl, b, g, _, rfl, hb, by omega, by omega, fun r H' bt hb' r0 r1 => ?_⟩
    obtain ⟨x, e, qx⟩ := fin r H' bt hb' r0 r1
    exact ⟨l, xs, r, x, rfl, rfl, keepL H' bt hl, e, qx⟩
  · refine ⟨_, (pss_one (ps_ret (pe_ix ix_tup (pv 1) (pe_k G_law_pick (hr.mono (by first | decide | omega)) (by rfl) (pa_cons (pv 0) (pa_cons (pe_callB call_len_seq (by rfl) B.b_len PySem.boot_len (pa_cons (pv 1) pa_nil)) pa_nil))) (fun _ _ => rfl)))), ?_⟩
    refine ⟨_, rfl, _, rfl, _, rfl, l, xs, rfl, .inr hl, b, g, _, rfl, hb, by omega, by omega, fun r H' bt hb' r0 r1 => ?_⟩
    obtain ⟨x, e, qx⟩ := fin r H' bt hb' r0 r1
    exact ⟨l, xs, r, x, rfl, rfl, keepT H' bt hl, e, qx⟩
theorem k_bag (B : Bl mg) (D : Dfn K mg "_law_bag" s_law_bag ["script"]) : Kept P w K mg base 1 "_law_bag" ["script"] (spBag K) := by
  refine D.kept (N := N_law_bag) sc_law_bag (fun vs H Q E h => ?_) (fun f cdv A outer s H vs Q E hr h => ?_)
  · obtain ⟨a, ns, rfl, _⟩ := h
    rfl
  obtain ⟨a, ns, rfl, hS, h63, q⟩ := h
  refine ⟨_, (pss_cons (ps_set (i := 1) sc_law_bag.nd rfl (Or.inl rfl) (pe_op op_add pe_int (pe_callB call_len_seq (by rfl) B.b_len PySem.boot_len (pa_cons (pv 0) pa_nil))))
      (pss_cons (ps_for PassesOwn.never rfl (pi_list (pe_slice sl_list (pv 0) po_none (po_some pe_int))) (pg_name (i := 2) sc_law_bag.nd rfl (Or.inl rfl)) (pss_one (ps_set (i := 1) sc_law_bag.nd rfl (Or.inl rfl) (pe_op op_mod (pe_callTy call_int1 (by rfl) B.b_int (by decide +kernel) (pa_cons (pe_op op_add (pe_op op_add (pe_op op_mul (pv 1) pe_int) (pe_op op_mod (pe_callTy call_int1 (by rfl) B.b_int (by decide +kernel) (pa_cons (pv 2) pa_nil)) pe_int)) pe_int) pa_nil)) pe_int))))
      (pss_cons (ps_setLc (i := 3) (own := [("cell", 2)]) (g := gName 2) (by rfl) sc_law_bag.nd rfl rfl (sw_true rfl rfl rfl (by decide +kernel)) (pi_list (pe_slice sl_list (pv 0) po_none (po_some pe_int))) (blkOk_by (own := [("cell", 2)]) (N := N_law_bag) (sc := defScope s_law_bag) (by decide +kernel)) (fun _ _ _ _ _ => (pg_name (i := 2) sc_law_bag.nd rfl (Or.inl rfl))) (fun _ _ _ _ _ => (pts_one (pt_cmpR op_ge (pe_callB call_abs (by rfl) B.b_abs (by decide +kernel) (pa_cons (pe_callTy call_int1 (by rfl) B.b_int (by decide +kernel) (pa_cons (pv 2) pa_nil)) pa_nil)) (pe_op op_pow pe_int pe_int) (nomark _)))) (fun _ _ _ _ _ => (pe_callB call_abs (by rfl) B.b_abs (by decide +kernel) (pa_cons (pe_callTy call_int1 (by rfl) B.b_int (by decide +kernel) (pa_cons (pv 2) pa_nil)) pa_nil))))
      (pss_cons (ps_set (i := 4) sc_law_bag.nd rfl (Or.inl rfl) pe_non)
      (pss_cons (ps_if (pw_and (pt_cmpR op_lt (pe_callB call_len_seq (by rfl) B.b_len PySem.boot_len (pa_cons (pv 0) pa_nil)) pe_int (nomark _)) (pw_and1 (pt_cmpR op_eq (pe_callB call_len_seq (by rfl) B.b_len PySem.boot_len (pa_cons (pv 3) pa_nil)) pe_int (nomark _)))).pt (pss_one (ps_set (i := 4) sc_law_bag.nd rfl (Or.inl rfl) (pe_callB call_abs (by rfl) B.b_abs (by decide +kernel) (pa_cons (pe_callB (cr_sum rfl) (by rfl) B.b_sum (by decide +kernel) (pa_cons (pe_lc (own := [("cell", 2)]) (g := gName 2) (by rfl) sc_law_bag.nd (pi_list (pv 0)) (blkOk_by (own := [("cell", 2)]) (N := N_law_bag) (sc := defScope s_law_bag) (by decide +kernel)) (fun _ _ _ _ _ => (pg_name (i := 2) sc_law_bag.nd rfl (Or.inl rfl))) (fun _ _ _ _ _ => pts_nil) (fun _ _ _ _ _ => (pe_callTy call_int1 (by rfl) B.b_int (by decide +kernel) (pa_cons (pv 2) pa_nil)))) pa_nil)) pa_nil)))) pss_nil)
      (pss_one (ps_ret (pe_lst (pa_cons (pv 1) (pa_cons pe_int (pa_cons (pv 3) (pa_cons (pv 4) pa_nil)))))))))))), ?_⟩
  -- seed = 41 + len(script)
  refine ⟨_, rfl, a, _, rfl, .inl hS, 41, _, rfl, rfl, ?_⟩
  have hl : (ns.map V.int).length = ns.length := List.length_map _
  -- for cell in script[:63]
  have cut : cutV (ns.map V.int) none (some 63) = ns.map V.int := cut63 (by rw [hl]; exact h63)
  refine ⟨_, rfl, _, rfl, a, _, rfl, hS, fun p hp => ?_⟩
  rw [cut]
  have s1 : Same H (upd H p (.lst (ns.map V.int))) := same_new hp
  have hp1 : upd H p (.lst (ns.map V.int)) p = some (.lst (ns.map V.int)) := upd_same
  generalize upd H p (.lst (ns.map V.int)) = H1 at s1 hp1 ⊢
  refine ⟨p, rfl, ⟨_, SqL.of hp1⟩, for_list (K := K) (a := p) (xs := ns.map V.int) (fun i σ H' => H' = H1 ∧ ∃ (sd : Int) (y : Option V), σ = [some (.ref a), some (.int sd), y, none, none])
    ⟨rfl, _, none, rfl⟩ (fun i σ H' _ ⟨e, _⟩ => by rw [e]; exact SqL.of hp1) ?_ ?_⟩
  · rintro i x σ H' hi ⟨rfl, sd, y, rfl⟩
    obtain ⟨n, rfl, _⟩ := int_at hi
    refine ⟨_, rfl, _, _, rfl, rfl, .inr ⟨by decide, by decide⟩, _, rfl, .inl ⟨_, rfl, _, _, rfl, rfl, (show (0 : Int) < 1000003 by decide), _, _, rfl, rfl, _, _, rfl, rfl, .inl ⟨_, rfl, _, _, rfl, rfl, (show (0 : Int) < 2147483647 by decide), ?_⟩⟩⟩
    exact ⟨rfl, _, _, rfl⟩
  rintro σ H' ⟨rfl, sd, y, rfl⟩
  -- great = [..]
  refine ⟨_, rfl, _, rfl, a, _, rfl, s1.seq hS, fun p2 hp2 => ?_⟩
  rw [cut]
  have s2 : Same H (upd H' p2 (.lst (ns.map V.int))) := s1.trans (same_new hp2)
  have hq2 : upd H' p2 (.lst (ns.map V.int)) p2 = some (.lst (ns.map V.int)) := upd_same
  generalize upd H' p2 (.lst (ns.map V.int)) = H2 at s2 hq2 ⊢
  refine ⟨p2, rfl, ⟨_, SqL.of hq2⟩, fun D hD => lc_list (K := K) (a := p2) (xs := ns.map V.int) (fun i H' => ∃ acc : List Int, acc.length ≤ i ∧ H' = upd H2 D (.lst (acc.map V.int)))
    ⟨[], Nat.le_refl _, rfl⟩ (fun i H' _ ⟨acc, _, e⟩ => by rw [e]; exact (same_new hD).seq (SqL.of hq2)) ?_ ?_⟩
  · rintro i x H'' hi ⟨acc, hacc, rfl⟩
    obtain ⟨n, rfl, hin⟩ := int_at hi
    refine ⟨rfl, _, rfl, .inl ⟨n, rfl, n, rfl, 10, 18, rfl, rfl, ⟨by decide, by decide, by decide⟩, _, _, rfl, rfl, _, rfl, ite2 (fun e => ?_) (fun e => ?_)⟩⟩
    · refine ⟨_, rfl, .inl ⟨n, rfl, n, rfl, _, upd_same, ?_, acc ++ [if n < 0 then -n else n], ?_, ?_⟩⟩
      · rw [List.length_map]
        exact len_lt (by omega)
      · rw [List.length_append, List.length_singleton]
        omega
      · rw [upd_upd, List.map_append]
        rfl
    · exact ⟨acc, by omega, rfl⟩
  rintro H3 ⟨gs, hgs, rfl⟩
  have hgs63 : gs.length ≤ 63 := by omega
  have hD0 : H D = none := s2.free hD
  have s3 : Same H (upd H2 D (.lst (gs.map V.int))) := same_mut s2 hD0
  have hDD : upd H2 D (.lst (gs.map V.int)) D = some (.lst (gs.map V.int)) := upd_same
  generalize upd H2 D (.lst (gs.map V.int)) = H3 at s3 hDD ⊢
  -- the test
  have fin : ∀ (H4 : Hp) (al : V), Same H H4 → H4 D = some (.lst (gs.map V.int)) → (al = .non ∨ ∃ i, al = .int i) → ∀ b, H4 b = none → Q (.ref b) (upd H4 b (.lst [.int sd, .int 1, .ref D, al])) := fun H4 al s4 h4 hal b hb4 =>
    q b D _ (s4.trans (same_new hb4)) (s4.free hb4) hD0 ⟨(ne_of_none h4 hb4).symm, sd, 1, gs, al, upd_same, by rw [upd_ne (ne_of_none h4 hb4)]; exact h4, hgs63, hal⟩
  refine ⟨_, rfl, a, _, rfl, .inl (s3.seq hS), _, 2, rfl, rfl, _, rfl, ite2 (fun e1 => ?_) (fun e1 => ?_)⟩
  · refine ⟨_, rfl, D, _, rfl, .inl (SqL.of hDD), rfl, _, rfl, ite2 (fun e2 => ?_) (fun e2 => ?_)⟩
    · refine ⟨_, rfl, a, rfl, ⟨_, s3.seq hS⟩, fun D2 hD2 => lc_list (K := K) (a := a) (xs := ns.map V.int) (fun i H' => ∃ acc : List Int, acc.length ≤ i ∧ H' = upd H3 D2 (.lst (acc.map V.int)))
        ⟨[], Nat.le_refl _, rfl⟩ (fun i H' _ ⟨acc, _, e⟩ => by rw [e]; exact (same_new hD2).seq (s3.seq hS)) ?_ ?_⟩
      · rintro i x H'' hi ⟨acc, hacc, rfl⟩
        obtain ⟨n, rfl, hin⟩ := int_at hi
        refine ⟨rfl, ?_⟩
        refine ⟨_, rfl, .inl ⟨n, rfl, _, upd_same, ?_, acc ++ [n], ?_, ?_⟩⟩
        · rw [List.length_map]
          exact len_lt (by omega)
        · rw [List.length_append, List.length_singleton]
          omega
        · rw [upd_upd, List.map_append]
          rfl
      · rintro H5 ⟨acc, _, rfl⟩
        refine ⟨D2, acc, rfl, SqL.of upd_same, _, rfl, ?_⟩
        refine ⟨_, rfl, _, rfl, _, rfl, (len_le (by show 4 ≤ 1000; decide)), fun b hb => ?_⟩
        exact fin _ _ (s3.trans (same_new hD2)) (by rw [upd_ne (ne_of_none hDD hD2)]; exact hDD) (.inr ⟨_, rfl⟩) b hb
    · refine ⟨_, rfl, _, rfl, _, rfl, (len_le (by show 4 ≤ 1000; decide)), fun b hb => ?_⟩
      exact fin _ _ s3 hDD (.inl rfl) b hb
  · refine ⟨_, rfl, _, rfl, _, rfl, (len_le (by show 4 ≤ 1000; decide)), fun b hb => ?_⟩
    exact fin _ _ s3 hDD (.inl rfl) b hb
end
end Lw

set_option maxHeartbeats 4000000
namespace Lw
open PySem PySem.Spec PyProof.Rows L2 EF Hn
open PySem.W (Frag keepIn)
abbrev s_law_is : Stmt := top 30
abbrev N_law_is : List Str := ["thing", "due", "one", "other"]
theorem sc_law_is : FnScope N_law_is ["thing", "due"] (defScope s_law_is) := ⟨rfl, rfl, rfl, by decide +kernel, rfl, by decide +kernel, by decide +kernel⟩
abbrev s_law_deep : Stmt := top 32
abbrev N_law_deep : List Str := ["thing", "turn"]
theorem sc_law_deep : FnScope N_law_deep [] (defScope s_law_deep) := ⟨rfl, rfl, rfl, by decide +kernel, rfl, by decide +kernel, by decide +kernel⟩
section
variable {P : Program} {w : World} {K : Frag} {mg : Str → Option Value} {base : Heap}
theorem k_deep (B : Bl mg) (D : Dfn K mg "_law_deep" s_law_deep []) : Kept P w K mg base 1 "_law_deep" [] spDeep := by
  refine D.kept (N := N_law_deep) sc_law_deep (fun vs H Q E h => ?_) (fun f cdv A outer s H vs Q E hr h => ?_)
  · obtain ⟨rfl, _⟩ := h
    rfl
  obtain ⟨rfl, q⟩ := h
  refine ⟨_, (pss_cons (ps_set (i := 0) sc_law_deep.nd rfl (Or.inl rfl) (pe_tup pa_nil))
      (pss_cons (ps_for PassesOwn.never rfl (pi_range1 (by rfl) B.b_range (pa_cons pe_int pa_nil)) (pg_name (i := 1) sc_law_deep.nd rfl (Or.inl rfl)) (pss_one (ps_set (i := 0) sc_law_deep.nd rfl (Or.inl rfl) (pe_lst (pa_cons (pe_tup (pa_cons (pv 0) pa_nil)) pa_nil)))))
      (pss_one (ps_ret (pv 0))))), ?_⟩
  refine ⟨len_le (by show 0 ≤ 1000; decide), fun p hp => ?_⟩
  refine ⟨11, rfl, by decide, by decide, for_range (n := 11) (fun i σ H' => ∃ x y, σ = [some x, y] ∧ Same H H' ∧ Good (fun a => H a = none) H' (2 * i + 1) x)
    ⟨.ref p, none, rfl, same_new hp, .tup (n := 0) upd_same (fun x hx => nomatch hx) (Nat.zero_le _)⟩ ?_ ?_⟩
  · rintro i σ H' hi ⟨x, y, rfl, s1, g⟩
    refine ⟨x, rfl, len_le (by show 1 ≤ 1000; decide), fun t ht => ⟨len_le (by show 1 ≤ 1000; decide), fun l hl => ?_⟩⟩
    refine ⟨_, _, rfl, (s1.trans (same_new ht)).trans (same_new hl), ?_⟩
    have g1 : Good (fun a => H a = none) (upd H' t (.tup [x])) (2 * i + 2) (.ref t) := .tup upd_same (fun z hz => by
      rcases List.mem_cons.mp hz with rfl | hz
      · exact g.same (same_new ht)
      · cases hz) (by show 1 ≤ 100; decide)
    exact .lst (n := 2 * i + 2) upd_same (fun z hz => by
      rcases List.mem_cons.mp hz with rfl | hz
      · exact g1.same (same_new hl)
      · cases hz) (by show 1 ≤ 100; decide) ((s1.trans (same_new ht)).free hl)
  · rintro σ H' ⟨x, y, rfl, s1, g⟩
    exact ⟨x, rfl, q x H' s1 g⟩
theorem k_is (B : Bl mg) (D : Dfn K mg "_law_is" s_law_is ["thing", "due"]) : ∀ n, Kept P w K mg base n "_law_is" ["thing", "due"] (spIs n)
  | 0 => kept_zero D fun vs H Q E ⟨_, _, _, _, h, _⟩ => absurd h (Nat.not_lt_zero _)
  | n + 1 => by
    have G_law_is := k_is B D n
    refine D.kept (N := N_law_is) sc_law_is (fun vs H Q E h => ?_) (fun f cdv A outer s H vs Q E hr h => ?_)
    · obtain ⟨N, x, m, rfl, _⟩ := h
      rfl
    obtain ⟨N, x, m, rfl, hm, g, q⟩ := h
    refine ⟨_, (pss_cons (ps_if (pt_val (pe_callB call_isiT (by rfl) B.b_isinstance (by decide +kernel) (pa_cons (pv 1) (pa_cons (pe_tup (pa_cons (pe_bltn (v := .ty "tuple") (by rfl) B.b_tuple (by decide +kernel) rfl) (pa_cons (pe_bltn (v := .ty "list") (by rfl) B.b_list (by decide +kernel) rfl) pa_nil))) pa_nil)))) (pss_cons (ps_if (pw_or (pt_cmpR op_ne (pe_callB call_isi (by rfl) B.b_isinstance (by decide +kernel) (pa_cons (pv 0) (pa_cons (pe_bltn (v := .ty "tuple") (by rfl) B.b_tuple (by decide +kernel) rfl) pa_nil))) (pe_callB call_isi (by rfl) B.b_isinstance (by decide +kernel) (pa_cons (pv 1) (pa_cons (pe_bltn (v := .ty "tuple") (by rfl) B.b_tuple (by decide +kernel) rfl) pa_nil))) (nomark _)) (pw_or1 (pt_cmpR op_ne (pe_callB call_isi (by rfl) B.b_isinstance (by decide +kernel) (pa_cons (pv 0) (pa_cons (pe_bltn (v := .ty "list") (by rfl) B.b_list (by decide +kernel) rfl) pa_nil))) (pe_callB call_isi (by rfl) B.b_isinstance (by decide +kernel) (pa_cons (pv 1) (pa_cons (pe_bltn (v := .ty "list") (by rfl) B.b_list (by decide +kernel) rfl) pa_nil))) (nomark _)))).pt (pss_one (ps_ret pe_bl)) pss_nil)
      (pss_one (ps_ret (pe_and (pe_cmpR op_eq (pe_callB call_len_seq (by rfl) B.b_len PySem.boot_len (pa_cons (pv 0) pa_nil)) (pe_callB call_len_seq (by rfl) B.b_len PySem.boot_len (pa_cons (pv 1) pa_nil)) (nomark _)) (pe_one (pe_callB (cr_all rfl) (by rfl) B.b_all (by decide +kernel) (pa_cons (pe_lc (own := [("one", 2), ("other", 3)]) (g := gTup K 2 (gCons (gName 2) (gCons (gName 3) (gNil)))) (by rfl) sc_law_is.nd (RZ.pi_zipA (by rfl) B.b_zip (pa_cons (pv 0) (pa_cons (pv 1) pa_nil))) (blkOk_by (own := [("one", 2), ("other", 3)]) (N := N_law_is) (sc := defScope s_law_is) (by decide +kernel)) (fun _ _ _ _ _ => (pg_tup rfl (pgs_cons (pg_name (i := 2) sc_law_is.nd rfl (Or.inl rfl)) (pgs_cons (pg_name (i := 3) sc_law_is.nd rfl (Or.inl rfl)) pgs_nil)))) (fun _ _ _ _ _ => pts_nil) (fun _ _ _ _ _ => (pe_k G_law_is (hr.mono (by first | decide | omega)) (by rfl) (pa_cons (pv 2) (pa_cons (pv 3) pa_nil))))) pa_nil))))))) pss_nil)
      (pss_one (ps_ret (pe_and (pe_cmpR op_eq (pe_callB call_isi (by rfl) B.b_isinstance (by decide +kernel) (pa_cons (pv 0) (pa_cons (pe_bltn (v := .ty "bool") (by rfl) B.b_bool (by decide +kernel) rfl) pa_nil))) (pe_callB call_isi (by rfl) B.b_isinstance (by decide +kernel) (pa_cons (pv 1) (pa_cons (pe_bltn (v := .ty "bool") (by rfl) B.b_bool (by decide +kernel) rfl) pa_nil))) (nomark _)) (pe_one (pe_cmpR (OpR.or op_eq (op_eq_dict (Nat.lt_of_succ_lt (hu_of hr)))) (pv 0) (pv 1) (nomark _))))))), ?_⟩
    refine ⟨x, rfl, len_le (by show 2 ≤ 1000; decide), fun tp htp => ?_⟩
    have s1 : Same H (upd H tp (.tup [.ty "tuple", .ty "list"])) := same_new htp
    have htp1 : upd H tp (.tup [.ty "tuple", .ty "list"]) tp = some (.tup [.ty "tuple", .ty "list"]) := upd_same
    generalize upd H tp (.tup [.ty "tuple", .ty "list"]) = H1 at s1 htp1 ⊢
    rcases (g.same s1).kind (K := K) with ⟨T, bb, ty1, k1, k2, k3, hx⟩ | ⟨a, xs, k, rfl, rfl, hk, hlen, ha⟩
    · refine ⟨x, tp, _, .type T, _, false, rfl, htp1, twoTys, ty1, kitTL k1 k2, false, rfl, ?_⟩
      refine ⟨x, rfl, x, _, .type T, _, bb, rfl, .ty _, ty1, kit_ty k3, x, rfl, x, _, .type T, _, bb, rfl, .ty _, ty1, kit_ty k3, rfl, _, rfl, ?_⟩
      rw [decide_eq_true rfl]
      refine iteT ?_
      rcases hx with hx | ⟨a, kvs, rfl, e, nd, fl⟩
      · refine ⟨x, rfl, x, rfl, .inl ⟨hx, ?_⟩⟩
        rw [decide_eq_true rfl]
        exact q H1 s1
      · exact ⟨_, rfl, _, rfl, .inr ⟨a, a, kvs, rfl, rfl, e, e, nd, fl, q H1 s1⟩⟩
    · obtain ⟨T, t1, t2, ty1, k1, k2, k3⟩ : ∃ T b1 b2, TyX K H1 (.ref a) (.type T) ∧ kitB T "tuple" = some b1 ∧ kitB T "list" = some b2 ∧ (b1 || b2) = true := by
        rcases ha with e | e
        · exact ⟨"tuple", true, false, .base (.tup e), by decide +kernel, by decide +kernel, rfl⟩
        · exact ⟨"list", false, true, .base (.lst e), by decide +kernel, by decide +kernel, rfl⟩
      refine ⟨_, tp, _, .type T, _, _, rfl, htp1, twoTys, ty1, kitTL k1 k2, _, rfl, ?_⟩
      rw [k3]
      -- the two kinds are alike
      refine ⟨_, rfl, _, _, .type T, _, t1, rfl, .ty _, ty1, kit_ty k1, _, rfl, _, _, .type T, _, t1, rfl, .ty _, ty1, kit_ty k1, rfl, _, rfl, ?_⟩
      rw [decide_eq_true rfl]
      refine ⟨_, rfl, _, _, .type T, _, t2, rfl, .ty _, ty1, kit_ty k2, _, rfl, _, _, .type T, _, t2, rfl, .ty _, ty1, kit_ty k2, rfl, _, rfl, ?_⟩
      rw [decide_eq_true rfl]
      have hsq : SqL K H1 a xs ∨ SqT K H1 a xs := by
        rcases ha with e | e
        · exact .inr (SqT.of e)
        · exact .inl (SqL.of e)
      refine ⟨_, rfl, a, xs, rfl, hsq, _, rfl, a, xs, rfl, hsq, rfl, _, rfl, ?_⟩
      rw [decide_eq_true rfl]
      refine ⟨_, rfl, _, rfl, a, a, xs, xs, rfl, ?_⟩
      rcases ha with ea | ea
      · refine .inr ⟨SqT.of ea, SqT.of ea, fun D hD => lc_zipT rfl (fun i H' => ∃ bs : List Bool, bs.all id = true ∧ bs.length = i ∧ Same H1 H' ∧ H' D = some (.lst (bs.map V.bl))) ⟨[], rfl, rfl, same_new hD, upd_same⟩
          (fun i H' ⟨_, _, _, sm, _⟩ => ⟨sm.seqT (SqT.of ea), sm.seqT (SqT.of ea)⟩) ?_ ?_⟩
        · rintro i y z Tt H2 hy hz ⟨bs, ball, blen, sm, hD2⟩ nT
          obtain rfl : y = z := Option.some.inj (hy.symm.trans hz)
          have hi : i < xs.length := by
            rcases Nat.lt_or_ge i xs.length with h | h
            · exact h
            · rw [List.getElem?_eq_none_iff.mpr h] at hy
              cases hy
          have gy := hk y (List.mem_of_getElem? hy)
          refine ⟨Tt, _, rfl, SqT.of upd_same, rfl, _, _, rfl, _, _, rfl, rfl, rfl, ?_⟩
          refine ⟨_, rfl, _, rfl, N, y, k, rfl, by omega, gy.same (sm.trans (same_new nT)), fun H3 s3 => ?_⟩
          have e3 : H3 D = some (.lst (bs.map V.bl)) := s3 _ _ ((same_new nT) _ _ hD2)
          refine ⟨bs.map V.bl, e3, by rw [List.length_map]; exact len_lt (by omega), bs ++ [true], by rw [List.all_append, ball]; rfl, by rw [List.length_append, blen]; rfl, same_mut ((sm.trans (same_new nT)).trans s3) hD, by rw [upd_same, List.map_append]; rfl⟩
        · rintro H2 ⟨bs, ball, blen, sm, hD2⟩
          refine ⟨D, bs, rfl, SqL.of hD2, ?_⟩
          rw [ball]
          exact q H2 (s1.trans sm)
      · refine .inl ⟨SqL.of ea, SqL.of ea, fun D hD => lc_zipL rfl (fun i H' => ∃ bs : List Bool, bs.all id = true ∧ bs.length = i ∧ Same H1 H' ∧ H' D = some (.lst (bs.map V.bl))) ⟨[], rfl, rfl, same_new hD, upd_same⟩
          (fun i H' ⟨_, _, _, sm, _⟩ => ⟨sm.seq (SqL.of ea), sm.seq (SqL.of ea)⟩) ?_ ?_⟩
        · rintro i y z Tt H2 hy hz ⟨bs, ball, blen, sm, hD2⟩ nT
          obtain rfl : y = z := Option.some.inj (hy.symm.trans hz)
          have hi : i < xs.length := by
            rcases Nat.lt_or_ge i xs.length with h | h
            · exact h
            · rw [List.getElem?_eq_none_iff.mpr h] at hy
              cases hy
          have gy := hk y (List.mem_of_getElem? hy)
          refine ⟨Tt, _, rfl, SqT.of upd_same, rfl, _, _, rfl, _, _, rfl, rfl, rfl, ?_⟩
          refine ⟨_, rfl, _, rfl, N, y, k, rfl, by omega, gy.same (sm.trans (same_new nT)), fun H3 s3 => ?_⟩
          have e3 : H3 D = some (.lst (bs.map V.bl)) := s3 _ _ ((same_new nT) _ _ hD2)
          refine ⟨bs.map V.bl, e3, by rw [List.length_map]; exact len_lt (by omega), bs ++ [true], by rw [List.all_append, ball]; rfl, by rw [List.length_append, blen]; rfl, same_mut ((sm.trans (same_new nT)).trans s3) hD, by rw [upd_same, List.map_append]; rfl⟩
        · rintro H2 ⟨bs, ball, blen, sm, hD2⟩
          refine ⟨D, bs, rfl, SqL.of hD2, ?_⟩
          rw [ball]
          exact q H2 (s1.trans sm)
end
end Lw

set_option maxHeartbeats 4000000
namespace Lw
open PySem PySem.Spec PyProof.Rows L2 EF Hn
open PySem.W (Frag keepIn)
abbrev sis_integer : Stmt := top 7
abbrev Nis_integer : List Str := ["thing"]
theorem scis_integer : FnScope Nis_integer ["thing"] (defScope sis_integer) := ⟨rfl, rfl, rfl, by decide +kernel, rfl, by decide +kernel, by decide +kernel⟩
abbrev sis_between : Stmt := top 8
abbrev Nis_between : List Str := ["thing", "least", "most"]
theorem scis_between : FnScope Nis_between ["thing", "least", "most"] (defScope sis_between) := ⟨rfl, rfl, rfl, by decide +kernel, rfl, by decide +kernel, by decide +kernel⟩
abbrev sis_person : Stmt := top 9
abbrev Nis_person : List Str := ["thing", "many"]
theorem scis_person : FnScope Nis_person ["thing", "many"] (defScope sis_person) := ⟨rfl, rfl, rfl, by decide +kernel, rfl, by decide +kernel, by decide +kernel⟩
abbrev sis_ascending : Stmt := top 10
abbrev Nis_ascending : List Str := ["row", "k"]
theorem scis_ascending : FnScope Nis_ascending ["row"] (defScope sis_ascending) := ⟨rfl, rfl, rfl, by decide +kernel, rfl, by decide +kernel, by decide +kernel⟩
abbrev sis_web : Stmt := top 13
abbrev Nis_web : List Str := ["thing", "u"]
theorem scis_web : FnScope Nis_web ["thing"] (defScope sis_web) := ⟨rfl, rfl, rfl, by decide +kernel, rfl, by decide +kernel, by decide +kernel⟩
abbrev sis_pocket : Stmt := top 14
abbrev Nis_pocket : List Str := ["thing", "u", "many", "w"]
theorem scis_pocket : FnScope Nis_pocket ["thing", "u", "many"] (defScope sis_pocket) := ⟨rfl, rfl, rfl, by decide +kernel, rfl, by decide +kernel, by decide +kernel⟩
/-- what is told of a datum is a flag by it -/
def spFlag1 (f : PyData → Bool) : Sp := fun vs H Q _ => ∃ (N : Addr → Prop) (d : PyData) (x : V), vs = [x] ∧ Rep N H d x ∧ ∀ H', Same H H' → Q (.bl (f d)) H'
def intB : PyData → Bool
  | .int _ => true
  | _ => false
def betB (l m : Int) : PyData → Bool
  | .int i => decide (l ≤ i) && decide (i ≤ m)
  | _ => false
def spBet : Sp := fun vs H Q _ => ∃ (N : Addr → Prop) (d : PyData) (x : V) (l m : Int), vs = [x, .int l, .int m] ∧ Rep N H d x ∧ ∀ H', Same H H' → Q (.bl (betB l m d)) H'
theorem per_bet (m : Int) (d : PyData) : betB 0 (m - 1) d = perB m d := by
  cases d with
  | int i =>
    show (decide (0 ≤ i) && decide (i ≤ m - 1)) = (decide (0 ≤ i) && decide (i < m))
    congr 1
    exact decide_eq_decide.mpr ⟨fun h => by omega, fun h => by omega⟩
  | _ => rfl
def spPerson : Sp := fun vs H Q _ => ∃ (N : Addr → Prop) (d : PyData) (x : V) (m : Int), vs = [x, .int m] ∧ Rep N H d x ∧ ∀ H', Same H H' → Q (.bl (perB m d)) H'
def spAsc (K : Frag) : Sp := fun vs H Q _ => ∃ (a : Addr) (ns : List Int), vs = [.ref a] ∧ SqT K H a (ns.map V.int) ∧ ns.length ≤ 1000 ∧ ∀ H', Same H H' → Q (.bl (asc ns)) H'
/-- a tuple that is not too long -/
def short : PyData → Prop
  | .tuple ds => ds.length ≤ 1000
  | _ => True
/-- short throughout -/
def fit : PyData → Prop
  | .tuple ps => ps.length ≤ 1000 ∧ ∀ p ∈ ps, short p
  | _ => True
def spWeb : Sp := fun vs H Q _ => ∃ (N : Addr → Prop) (d : PyData) (x : V), vs = [x] ∧ Rep N H d x ∧ fit d ∧ ∀ H', Same H H' → Q (.bl (webB d)) H'

def spPocket : Sp := fun vs H Q _ => ∃ (N : Addr → Prop) (d : PyData) (x : V) (u m : Int), vs = [x, .int u, .int m] ∧ Rep N H d x ∧ short d ∧ ∀ H', Same H H' → Q (.bl (pocketB u m d)) H'
section
variable {P : Program} {w : World} {K : Frag} {mg : Str → Option Value} {base : Heap}
theorem k_integer (B : Bl mg) (D : Dfn K mg "is_integer" sis_integer ["thing"]) : Kept P w K mg base 1 "is_integer" ["thing"] (spFlag1 intB) := by
  refine D.kept (N := Nis_integer) scis_integer (fun vs H Q E h => ?_) (fun f cdv A outer s H vs Q E hr h => ?_)
  · obtain ⟨N, d, x, rfl, _⟩ := h
    rfl
  obtain ⟨N, d, x, rfl, r, q⟩ := h
  refine ⟨_, (pss_one (ps_ret (pe_and (pe_callB call_isi (by rfl) B.b_isinstance (by decide +kernel) (pa_cons (pv 0) (pa_cons (pe_bltn (v := .ty "int") (by rfl) B.b_int (by decide +kernel) rfl) pa_nil))) (pe_one (pe_not (pe_callB call_isi (by rfl) B.b_isinstance (by decide +kernel) (pa_cons (pv 0) (pa_cons (pe_bltn (v := .ty "bool") (by rfl) B.b_bool (by decide +kernel) rfl) pa_nil)))))))), ?_⟩
  refine ⟨x, rfl, x, _, _, _, isIntD d, rfl, .ty _, r.ty, kit_ty (kit_int d), _, rfl, ite2 (fun e => ?_) (fun e => ?_)⟩
  · refine ⟨x, rfl, x, _, _, _, isBoolD d, rfl, .ty _, r.ty, kit_ty (kit_bool d), _, rfl, ?_⟩
    have z := q H (Same.refl H)
    cases d with
    | int i => exact z
    | bool b => exact z
    | _ => cases e
  · have z := q H (Same.refl H)
    cases d with
    | int i => exact absurd rfl e
    | bool b => exact absurd rfl e
    | _ => exact z
theorem k_between (B : Bl mg) (D : Dfn K mg "is_between" sis_between ["thing", "least", "most"]) (Gis_integer : Kept P w K mg base 1 "is_integer" ["thing"] (spFlag1 intB)) : Kept P w K mg base 2 "is_between" ["thing", "least", "most"] spBet := by
  refine D.kept (N := Nis_between) scis_between (fun vs H Q E h => ?_) (fun f cdv A outer s H vs Q E hr h => ?_)
  · obtain ⟨N, d, x, l, m, rfl, _⟩ := h
    rfl
  obtain ⟨N, d, x, l, m, rfl, r, q⟩ := h
  refine ⟨_, (pss_one (ps_ret (pe_and (pe_k Gis_integer (hr.mono (by first | decide | omega)) (by rfl) (pa_cons (pv 0) pa_nil)) (pe_one (pe_chain op_le op_le (pv 1) (pv 0) (pv 2)))))), ?_⟩
  refine ⟨x, rfl, N, d, x, rfl, r, fun H' sm => ⟨_, rfl, ite2 (fun e => ?_) (fun e => ?_)⟩⟩
  · have z := q H' sm
    cases d with
    | int i =>
      rw [show x = V.int i from r]
      refine ⟨_, rfl, _, rfl, _, _, rfl, rfl, _, rfl, ite2 (fun e1 => ?_) (fun e1 => ?_)⟩
      · refine ⟨_, rfl, _, _, rfl, rfl, ?_⟩
        have y : betB l m (.int i) = decide (i ≤ m) := by
          show (decide (l ≤ i) && decide (i ≤ m)) = _
          rw [show decide (l ≤ i) = true from e1, Bool.true_and]
        rw [y] at z
        exact z
      · have y : betB l m (.int i) = false := by
          show (decide (l ≤ i) && decide (i ≤ m)) = _
          rw [show decide (l ≤ i) = false from Bool.eq_false_iff.mpr e1, Bool.false_and]
        rw [y] at z
        exact z
    | _ => cases e
  · have z := q H' sm
    cases d with
    | int i => exact absurd rfl e
    | _ => exact z
theorem k_person (B : Bl mg) (D : Dfn K mg "is_person" sis_person ["thing", "many"]) (Gis_between : Kept P w K mg base 2 "is_between" ["thing", "least", "most"] spBet) : Kept P w K mg base 3 "is_person" ["thing", "many"] spPerson := by
  refine D.kept (N := Nis_person) scis_person (fun vs H Q E h => ?_) (fun f cdv A outer s H vs Q E hr h => ?_)
  · obtain ⟨N, d, x, m, rfl, _⟩ := h
    rfl
  obtain ⟨N, d, x, m, rfl, r, q⟩ := h
  refine ⟨_, (pss_one (ps_ret (pe_k Gis_between (hr.mono (by first | decide | omega)) (by rfl) (pa_cons (pv 0) (pa_cons pe_int (pa_cons (pe_op op_sub (pv 1) pe_int) pa_nil)))))), ?_⟩
  refine ⟨x, rfl, _, rfl, _, _, rfl, rfl, N, d, x, _, _, rfl, r, fun H' sm => ?_⟩
  have z := q H' sm
  rw [← per_bet] at z
  exact z
theorem k_ascending (B : Bl mg) (D : Dfn K mg "is_ascending" sis_ascending ["row"]) : Kept P w K mg base 1 "is_ascending" ["row"] (spAsc K) := by
  refine D.kept (N := Nis_ascending) scis_ascending (fun vs H Q E h => ?_) (fun f cdv A outer s H vs Q E hr h => ?_)
  · obtain ⟨a, ns, rfl, _⟩ := h
    rfl
  obtain ⟨a, ns, rfl, hS, hl, q⟩ := h
  refine ⟨_, (pss_one (ps_ret (pe_callB (cr_all rfl) (by rfl) B.b_all (by decide +kernel) (pa_cons (pe_lc (own := [("k", 1)]) (g := gName 1) (by rfl) scis_ascending.nd (pi_range1 (by rfl) B.b_range (pa_cons (pe_op op_sub (pe_callB call_len_seq (by rfl) B.b_len PySem.boot_len (pa_cons (pv 0) pa_nil)) pe_int) pa_nil)) (blkOk_by (own := [("k", 1)]) (N := Nis_ascending) (sc := defScope sis_ascending) (by decide +kernel)) (fun _ _ _ _ _ => (pg_name (i := 1) scis_ascending.nd rfl (Or.inl rfl))) (fun _ _ _ _ _ => pts_nil) (fun _ _ _ _ _ => (pe_cmpR op_lt (pe_ix (ix_tupK (K := K) rfl) (pv 0) (pv 1) (fun _ _ => rfl)) (pe_ix (ix_tupK (K := K) rfl) (pv 0) (pe_op op_add (pv 1) pe_int) (fun _ _ => rfl)) (nomark _)))) pa_nil)))), ?_⟩
  have hlm : (ns.map V.int).length = ns.length := List.length_map _
  have itm : ∀ k : Nat, k < ns.length → (ns.map V.int)[k]? = some (.int (ns.getD k 0)) := fun k hk => by
    rw [List.getElem?_map, List.getElem?_eq_getElem hk, List.getD_eq_getElem?_getD, List.getElem?_eq_getElem hk]
    rfl
  refine ⟨_, rfl, a, _, rfl, .inr hS, _, _, rfl, rfl, _, rfl, by rw [hlm]; omega, by rw [hlm]; omega, fun D nD => ?_⟩
  refine lc_range (lo := 0) (n := (((ns.map V.int).length : Int) - 1).toNat) (fun i H' => Same H H' ∧ H' D = some (.lst (((List.range i).map fun k => decide (ns.getD k 0 < ns.getD (k + 1) 0)).map V.bl))) ⟨same_new nD, upd_same⟩ ?_ ?_
  · rintro i H' hi ⟨sm, hD⟩
    have h1 : i + 1 < ns.length := by omega
    refine ⟨rfl, ?_⟩
    refine ⟨_, rfl, _, rfl, a, _, _, .int (ns.getD i 0), rfl, rfl, sm.seqT hS, ?_, _, rfl, _, rfl, _, _, rfl, rfl, a, _, _, .int (ns.getD (i + 1) 0), rfl, rfl, sm.seqT hS, ?_, _, _, rfl, rfl, _, hD, ?_, same_mut sm nD, ?_⟩
    · rw [Int.zero_add]
      exact atI_nat (itm i (by omega))
    · have e : (0 : Int) + (i : Int) + 1 = ((i + 1 : Nat) : Int) := by omega
      show atI _ ((0 : Int) + (i : Int) + 1) = _
      rw [e]
      exact atI_nat (itm (i + 1) h1)
    · rw [List.length_map, List.length_map, List.length_range]
      exact len_lt (by omega)
    · rw [upd_same, List.range_succ, List.map_append, List.map_append]
      rfl
  · rintro H' ⟨sm, hD⟩
    refine ⟨D, _, rfl, SqL.of hD, ?_⟩
    have e : (((ns.map V.int).length : Int) - 1).toNat = ns.length - 1 := by omega
    rw [e, ← asc_range]
    exact q H' sm
theorem k_pocket (B : Bl mg) (D : Dfn K mg "is_pocket" sis_pocket ["thing", "u", "many"]) (Gis_person : Kept P w K mg base 3 "is_person" ["thing", "many"] spPerson) (Gis_ascending : Kept P w K mg base 1 "is_ascending" ["row"] (spAsc K)) : Kept P w K mg base 4 "is_pocket" ["thing", "u", "many"] spPocket := by
  refine D.kept (N := Nis_pocket) scis_pocket (fun vs H Q E h => ?_) (fun f cdv A outer s H vs Q E hr h => ?_)
  · obtain ⟨N, d, x, u, m, rfl, _⟩ := h
    rfl
  obtain ⟨N, d, x, u, m, rfl, r, sh, q⟩ := h
  refine ⟨_, (pss_cons (ps_if (pt_not (pt_val (pe_callB call_isi (by rfl) B.b_isinstance (by decide +kernel) (pa_cons (pv 0) (pa_cons (pe_bltn (v := .ty "tuple") (by rfl) B.b_tuple (by decide +kernel) rfl) pa_nil))))) (pss_one (ps_ret pe_bl)) pss_nil)
      (pss_one (ps_ret (pe_and (pe_callB (cr_all rfl) (by rfl) B.b_all (by decide +kernel) (pa_cons (pe_lc (own := [("w", 3)]) (g := gName 3) (by rfl) scis_pocket.nd (pi_tup (pv 0)) (blkOk_by (own := [("w", 3)]) (N := Nis_pocket) (sc := defScope sis_pocket) (by decide +kernel)) (fun _ _ _ _ _ => (pg_name (i := 3) scis_pocket.nd rfl (Or.inl rfl))) (fun _ _ _ _ _ => pts_nil) (fun _ _ _ _ _ => (pe_and (pe_k Gis_person (hr.mono (by first | decide | omega)) (by rfl) (pa_cons (pv 3) (pa_cons (pv 2) pa_nil))) (pe_one (pe_cmpR op_ne (pv 3) (pv 1) (nomark _)))))) pa_nil)) (pe_one (pe_k Gis_ascending (hr.mono (by first | decide | omega)) (by rfl) (pa_cons (pv 0) pa_nil))))))), ?_⟩
  refine ⟨x, rfl, x, _, _, _, isTupD d, rfl, .ty _, r.ty, kit_ty (kit_tup d), _, rfl, ite2 (fun e => ?_) (fun e => ?_)⟩
  · have z := q H (Same.refl H)
    cases d with
    | tuple ds => cases e
    | _ => exact z
  · cases d with
    | tuple ds =>
      obtain ⟨a, xs, rfl, ha, rl⟩ := r
      have hl := rl.length
      refine ⟨.ref a, rfl, a, rfl, ⟨xs, SqT.of ha⟩, fun D nD => ?_⟩
      refine lc_tup (xs := xs) (fun i H' => Same H H' ∧ H' D = some (.lst (((ds.take i).map fun d => perB m d && !decide (intOf d = u)).map V.bl))) ⟨same_new nD, upd_same⟩ (fun i H' _ p => SqT.of (p.1 _ _ ha)) ?_ ?_
      · rintro i x H' hx ⟨sm, hD⟩
        obtain ⟨d, hd, rx⟩ := rl.get hx
        have hi : i < ds.length := (List.getElem?_eq_some_iff.mp hd).1
        have tk : ds.take (i + 1) = ds.take i ++ [d] := by
          rw [List.take_succ, hd]
          rfl
        refine ⟨rfl, x, rfl, _, rfl, N, d, x, m, rfl, rx.same sm, fun H'' s2 => ?_⟩
        have hD2 := s2 _ _ hD
        have sz : (((ds.take i).map fun d => perB m d && !decide (intOf d = u)).map V.bl).length < sizeLine := by
          rw [List.length_map, List.length_map, List.length_take]
          refine len_lt ?_
          have : ds.length ≤ 1000 := sh
          omega
        refine ⟨_, rfl, ite2 (fun e1 => ?_) (fun e1 => ?_)⟩
        · cases d with
          | int k =>
            obtain rfl : x = V.int k := rx
            refine ⟨_, rfl, _, rfl, rfl, _, hD2, sz, same_mut (sm.trans s2) nD, ?_⟩
            rw [upd_same, tk, List.map_append, List.map_append]
            have y : (perB m (.int k) && !decide (intOf (.int k) = u)) = !decide (V.int k = V.int u) := by
              rw [show perB m (.int k) = true from e1, Bool.true_and]
              congr 1
              exact decide_eq_decide.mpr ⟨fun z => by rw [show k = u from z], fun z => V.int.inj z⟩
            show some (HO.lst (_ ++ [V.bl _])) = some (HO.lst (_ ++ [V.bl (perB m (.int k) && !decide (intOf (.int k) = u))]))
            rw [y]
          | _ => cases e1
        · refine ⟨_, hD2, sz, same_mut (sm.trans s2) nD, ?_⟩
          rw [upd_same, tk, List.map_append, List.map_append]
          have y : (perB m d && !decide (intOf d = u)) = false := by rw [show perB m d = false from Bool.eq_false_iff.mpr e1, Bool.false_and]
          show some (HO.lst (_ ++ [V.bl _])) = some (HO.lst (_ ++ [V.bl (perB m d && !decide (intOf d = u))]))
          rw [y]
      · rintro H' ⟨sm, hD⟩
        rw [hl, List.take_length] at hD
        refine ⟨D, _, rfl, SqL.of hD, ?_⟩
        have ea : ((ds.map fun d => perB m d && !decide (intOf d = u)).all id) = ds.all fun d => perB m d && !decide (intOf d = u) := by rw [List.all_map]; rfl
        rw [ea]
        refine ⟨_, rfl, ite2 (fun e1 => ?_) (fun e1 => ?_)⟩
        · have en := pers_ints e1
          have rn := rl.same sm
          rw [en] at rn
          have ex := rn.ints
          refine ⟨.ref a, rfl, a, ds.map intOf, rfl, ?_, ?_, fun H'' s2 => ?_⟩
          · rw [← ex]
            exact SqT.of (sm _ _ ha)
          · rw [List.length_map]
            exact sh
          · have z := q H'' (sm.trans s2)
            have y : pocketB u m (.tuple ds) = asc (ds.map intOf) := by
              show (ds.all _ && _) = _
              rw [e1, Bool.true_and]
            rw [y] at z
            exact z
        · have z := q H' sm
          have y : pocketB u m (.tuple ds) = false := by
            show (ds.all _ && _) = _
            rw [Bool.eq_false_iff.mpr e1, Bool.false_and]
          rw [y] at z
          exact z
    | _ => exact absurd rfl e
theorem k_is_web (B : Bl mg) {tk : Tok} (cMOST_PEOPLE : mg "MOST_PEOPLE" = some (.int 9 tk)) (D : Dfn K mg "is_web" sis_web ["thing"]) (Gis_pocket : Kept P w K mg base 4 "is_pocket" ["thing", "u", "many"] spPocket) : Kept P w K mg base 5 "is_web" ["thing"] spWeb := by
  refine D.kept (N := Nis_web) scis_web (fun vs H Q E h => ?_) (fun f cdv A outer s H vs Q E hr h => ?_)
  · obtain ⟨N, d, x, rfl, _⟩ := h
    rfl
  obtain ⟨N, d, x, rfl, r, sh, q⟩ := h
  refine ⟨_, (pss_cons (ps_if (pw_or (pt_not (pt_val (pe_callB call_isi (by rfl) B.b_isinstance (by decide +kernel) (pa_cons (pv 0) (pa_cons (pe_bltn (v := .ty "tuple") (by rfl) B.b_tuple (by decide +kernel) rfl) pa_nil))))) (pw_or1 (pt_not (pt_chain op_le op_le pe_int (pe_callB call_len_seq (by rfl) B.b_len PySem.boot_len (pa_cons (pv 0) pa_nil)) (pe_glob (v := .int 9) (by rfl) cMOST_PEOPLE ⟨_, rfl⟩))))).pt (pss_one (ps_ret pe_bl)) pss_nil)
      (pss_one (ps_ret (pe_callB (cr_all rfl) (by rfl) B.b_all (by decide +kernel) (pa_cons (pe_lc (own := [("u", 1)]) (g := gName 1) (by rfl) scis_web.nd (pi_range1 (by rfl) B.b_range (pa_cons (pe_callB call_len_seq (by rfl) B.b_len PySem.boot_len (pa_cons (pv 0) pa_nil)) pa_nil)) (blkOk_by (own := [("u", 1)]) (N := Nis_web) (sc := defScope sis_web) (by decide +kernel)) (fun _ _ _ _ _ => (pg_name (i := 1) scis_web.nd rfl (Or.inl rfl))) (fun _ _ _ _ _ => pts_nil) (fun _ _ _ _ _ => (pe_k Gis_pocket (hr.mono (by first | decide | omega)) (by rfl) (pa_cons (pe_ix (ix_tupK (K := K) rfl) (pv 0) (pv 1) (fun _ _ => rfl)) (pa_cons (pv 1) (pa_cons (pe_callB (lenK (K := K) rfl) (by rfl) B.b_len PySem.boot_len (pa_cons (pv 0) pa_nil)) pa_nil)))))) pa_nil))))), ?_⟩
  refine ⟨x, rfl, x, _, _, _, isTupD d, rfl, .ty _, r.ty, kit_ty (kit_tup d), _, rfl, ?_⟩
  have z := q H (Same.refl H)
  refine ite2 (fun e => ite2 (fun _ => ?_) (fun n => absurd rfl n)) (fun e => ?_)
  · cases d with
    | tuple ds => cases e
    | _ => exact z
  · cases d with
    | tuple ds =>
      obtain ⟨a, xs, rfl, ha, rl⟩ := r
      have hl := rl.length
      refine ⟨.ref a, rfl, a, xs, rfl, .inr (SqT.of ha), _, _, rfl, rfl, _, rfl, ?_⟩
      have webF : ¬ (1 ≤ ds.length ∧ ds.length ≤ 9) → webB (.tuple ds) = false := fun n => by
        show ((decide _ && decide _) && _) = false
        rw [← Bool.decide_and, decide_eq_false n, Bool.false_and]
      refine ite2 (fun e1 => ⟨_, _, rfl, rfl, _, rfl, ite2 (fun e2 => ?_) (fun e2 => ?_)⟩) (fun e1 => ⟨_, rfl, ite2 (fun _ => ?_) (fun n => absurd rfl n)⟩)
      · have n : ¬ ds.length ≤ 9 := fun z => by
          have : ((xs.length : Int) ≤ 9) := by omega
          rw [show decide ((xs.length : Int) ≤ 9) = true from decide_eq_true this] at e2
          cases e2
        rw [webF (fun z => n z.2)] at z
        exact z
      · have h1 : 1 ≤ ds.length := by
          have := of_decide_eq_true e1
          omega
        have h9 : ds.length ≤ 9 := by
          rcases Nat.lt_or_ge 9 ds.length with k | k
          · have : ¬ ((xs.length : Int) ≤ 9) := by omega
            rw [show decide ((xs.length : Int) ≤ 9) = false from decide_eq_false this] at e2
            exact absurd rfl e2
          · exact k
        refine ⟨.ref a, rfl, a, xs, rfl, .inr (SqT.of ha), _, rfl, by omega, by omega, fun D nD => ?_⟩
        refine lc_range (lo := 0) (n := (xs.length : Int).toNat) (fun i H' => Same H H' ∧ H' D = some (.lst (((List.range i).map fun k => pocketB ((0 + k : Nat) : Int) (ds.length : Int) (ds.getD k .none)).map V.bl))) ⟨same_new nD, upd_same⟩ ?_ ?_
        · rintro i H' hi ⟨sm, hD⟩
          have hi' : i < ds.length := by omega
          have hx : xs[i]? = some xs[i] := List.getElem?_eq_getElem (by omega)
          obtain ⟨p, hp, rp⟩ := rl.get hx
          refine ⟨rfl, ?_⟩
          have ei : (0 : Int) + (i : Int) = ((i : Nat) : Int) := by omega
          have h0 : atI xs ((0 : Int) + (i : Int)) = some xs[i] := by
            rw [ei]
            exact atI_nat hx
          have sp : short p := sh.2 p (List.mem_of_getElem? hp)
          refine ⟨_, rfl, _, rfl, a, xs, _, xs[i], rfl, rfl, SqT.of (sm _ _ ha), h0, _, rfl, _, rfl, a, xs, rfl, .inr (SqT.of (sm _ _ ha)), N, p, xs[i], _, _, rfl, rp.same sm, sp, fun H'' s2 => ?_⟩
          refine ⟨_, s2 _ _ hD, ?_, same_mut (sm.trans s2) nD, ?_⟩
          · rw [List.length_map, List.length_map, List.length_range]
            exact len_lt (by omega)
          · rw [upd_same, List.range_succ, List.map_append, List.map_append]
            show some (HO.lst (_ ++ [V.bl _])) = some (HO.lst (_ ++ [V.bl _]))
            have y : pocketB ((0 : Int) + (i : Int)) (xs.length : Int) p = pocketB ((0 + i : Nat) : Int) (ds.length : Int) (ds.getD i .none) := by
              rw [List.getD_eq_getElem?_getD, hp, hl, show (0 : Int) + (i : Int) = ((0 + i : Nat) : Int) by omega]
              rfl
            rw [y]
        · rintro H' ⟨sm, hD⟩
          refine ⟨D, _, rfl, SqL.of hD, ?_⟩
          have y : webB (.tuple ds) = ((List.range (xs.length : Int).toNat).map fun k => pocketB ((0 + k : Nat) : Int) (ds.length : Int) (ds.getD k .none)).all id := by
            rw [show (xs.length : Int).toNat = ds.length by omega, ← pocketsB_range]
            show ((decide _ && decide _) && _) = _
            rw [decide_eq_true h1, decide_eq_true h9]
            rfl
          rw [← y]
          exact q H' sm
      · have n : ¬ 1 ≤ ds.length := fun z => by
          have : (1 ≤ (xs.length : Int)) := by omega
          rw [show decide (1 ≤ (xs.length : Int)) = true from decide_eq_true this] at e1
          exact e1 rfl
        rw [webF (fun z => n z.1)] at z
        exact z
    | _ => exact absurd rfl e
end
end Lw

set_option maxHeartbeats 4000000
namespace Lw
open PySem PySem.Spec PyProof.Rows L2 EF Hn
open PySem.W (Frag keepIn)
abbrev ssteps_from : Stmt := top 19
abbrev Nsteps_from : List Str := ["pockets", "start", "steps", "last", "further", "u", "w"]
theorem scsteps_from : FnScope Nsteps_from ["pockets", "start"] (defScope ssteps_from) := ⟨rfl, rfl, rfl, by decide +kernel, rfl, by decide +kernel, by decide +kernel⟩
abbrev sfound_from : Stmt := top 20
abbrev Nfound_from : List Str := ["pockets", "start"]
theorem scfound_from : FnScope Nfound_from ["pockets", "start"] (defScope sfound_from) := ⟨rfl, rfl, rfl, by decide +kernel, rfl, by decide +kernel, by decide +kernel⟩
abbrev sall_found : Stmt := top 21
abbrev Nall_found : List Str := ["pockets", "u"]
theorem scall_found : FnScope Nall_found ["pockets"] (defScope sall_found) := ⟨rfl, rfl, rfl, by decide +kernel, rfl, by decide +kernel, by decide +kernel⟩
abbrev sboth_ways : Stmt := top 22
abbrev Nboth_ways : List Str := ["pockets", "linked", "pocket", "u", "w"]
theorem scboth_ways : FnScope Nboth_ways ["pockets"] (defScope sboth_ways) := ⟨rfl, rfl, rfl, by decide +kernel, rfl, by decide +kernel, by decide +kernel⟩
abbrev sknot_around : Stmt := top 25
abbrev Nknot_around : List Str := ["u", "found", "w"]
theorem scknot_around : FnScope Nknot_around ["u", "found"] (defScope sknot_around) := ⟨rfl, rfl, rfl, by decide +kernel, rfl, by decide +kernel, by decide +kernel⟩
abbrev sknots_among : Stmt := top 24
abbrev Nknots_among : List Str := ["found", "u"]
theorem scknots_among : FnScope Nknots_among ["found"] (defScope sknots_among) := ⟨rfl, rfl, rfl, by decide +kernel, rfl, by decide +kernel, by decide +kernel⟩
abbrev spieces_among : Stmt := top 23
abbrev Npieces_among : List Str := ["pockets"]
theorem scpieces_among : FnScope Npieces_among ["pockets"] (defScope spieces_among) := ⟨rfl, rfl, rfl, by decide +kernel, rfl, by decide +kernel, by decide +kernel⟩
abbrev scheck_web : Stmt := top 15
abbrev Ncheck_web : List Str := ["thing"]
theorem sccheck_web : FnScope Ncheck_web ["thing"] (defScope scheck_web) := ⟨rfl, rfl, rfl, by decide +kernel, rfl, by decide +kernel, by decide +kernel⟩
abbrev sfinds : Stmt := top 16
abbrev Nfinds : List Str := ["web"]
theorem scfinds : FnScope Nfinds ["web"] (defScope sfinds) := ⟨rfl, rfl, rfl, by decide +kernel, rfl, by decide +kernel, by decide +kernel⟩
abbrev spieces : Stmt := top 17
abbrev Npieces : List Str := ["web"]
theorem scpieces : FnScope Npieces ["web"] (defScope spieces) := ⟨rfl, rfl, rfl, by decide +kernel, rfl, by decide +kernel, by decide +kernel⟩
abbrev sknots : Stmt := top 18
abbrev Nknots : List Str := ["web"]
theorem scknots : FnScope Nknots ["web"] (defScope sknots) := ⟨rfl, rfl, rfl, by decide +kernel, rfl, by decide +kernel, by decide +kernel⟩
theorem seqL_same {K : Frag} {H H' : Hp} {a : Addr} {xs : List V} (e : Same H H') (h : SqL K H a xs) : SqL K H' a xs := by
  rcases h with (h | ⟨o, h⟩) | h
  · exact .inl (.inl (e _ _ h))
  · exact .inl (.inr ⟨o, e _ _ h⟩)
  · exact .inr h
/-- a is a tuple of tuples of ints, or a list of lists of ints -/
def Grid (K : Frag) (t : Bool) (H : Hp) (a : Addr) (rows : List (List Int)) : Prop :=
  ∃ as : List Addr, (bif t then SqT K H a (as.map V.ref) else SqL K H a (as.map V.ref)) ∧ as.length = rows.length ∧ ∀ (i : Nat) (p : Addr) (r : List Int), as[i]? = some p → rows[i]? = some r → (bif t then SqT K H p (r.map V.int) else SqL K H p (r.map V.int))
theorem Grid.same {K : Frag} {t : Bool} {H H' : Hp} {a : Addr} {rows : List (List Int)} (g : Grid K t H a rows) (s : Same H H') : Grid K t H' a rows := by
  obtain ⟨as, h1, h2, h3⟩ := g
  cases t with
  | true => exact ⟨as, s.seqT h1, h2, fun i p r e1 e2 => s.seqT (h3 i p r e1 e2)⟩
  | false => exact ⟨as, seqL_same s h1, h2, fun i p r e1 e2 => seqL_same s (h3 i p r e1 e2)⟩
/-- the people whom u finds, each with how far it is -/
def spSteps (K : Frag) : Sp := fun vs H Q _ => ∃ (t : Bool) (a : Addr) (rows : List (List Int)) (u : Int), vs = [.ref a, .int u] ∧ Grid K t H a rows ∧ rows.length ≤ 9 ∧ InRange rows ∧ (0 ≤ u ∧ u < (rows.length : Int)) ∧
  ∀ (p : Addr) (kvs : List (Int × Int)) (H' : Hp), Same H H' → H p = none → H' p = some (.dK (encI kvs)) → Dists rows u kvs → kvs.length ≤ 9 → Q (.ref p) H'
/-- the people whom u finds, ascending -/
def spFound (K : Frag) : Sp := fun vs H Q _ => ∃ (t : Bool) (a : Addr) (rows : List (List Int)) (u : Int), vs = [.ref a, .int u] ∧ Grid K t H a rows ∧ rows.length ≤ 9 ∧ InRange rows ∧ (0 ≤ u ∧ u < (rows.length : Int)) ∧
  ∀ (p : Addr) (ns : List Int) (H' : Hp), Same H H' → H p = none → H' p = some (.tup (ns.map V.int)) → ns.Pairwise (· < ·) → (∀ k, k ∈ ns ↔ Reach rows u k) → ns.length ≤ 9 → Q (.ref p) H'
/-- for each person the row of whom they find -/
def Finds (rows fs : List (List Int)) : Prop := fs.length = rows.length ∧ ∀ (i : Nat) (f : List Int), fs[i]? = some f → f.Pairwise (· < ·) ∧ (∀ k, k ∈ f ↔ Reach rows i k) ∧ f.length ≤ 9
def spAll (K : Frag) : Sp := fun vs H Q _ => ∃ (t : Bool) (a : Addr) (rows : List (List Int)), vs = [.ref a] ∧ Grid K t H a rows ∧ rows.length ≤ 9 ∧ InRange rows ∧
  ∀ (p : Addr) (fs : List (List Int)) (H' : Hp), Same H H' → H p = none → Grid K true H' p fs → Finds rows fs → Q (.ref p) H'
section
variable {P : Program} {w : World} {K : Frag} {mg : Str → Option Value} {base : Heap}
theorem get_snoc {α : Type} {xs : List α} {x y : α} {j : Nat} (h : (xs ++ [y])[j]? = some x) : xs[j]? = some x ∨ (j = xs.length ∧ x = y) := by
  rcases Nat.lt_or_ge j xs.length with k | k
  · rw [List.getElem?_append_left k] at h
    exact .inl h
  · rw [List.getElem?_append_right k] at h
    rcases Nat.eq_zero_or_pos (j - xs.length) with z | z
    · rw [z] at h
      exact .inr ⟨by omega, (Option.some.inj h).symm⟩
    · rw [List.getElem?_eq_none (by show 1 ≤ _; exact z)] at h
      cases h
theorem none_of {H H' : Hp} {a : Addr} (s : Same H H') (n : H' a = none) : H a = none := by
  cases z : H a with
  | none => rfl
  | some o =>
    rw [s _ _ z] at n
    cases n
/-- while the search from u goes on: D holds who is seen, L is a list of l -/
structure Way (H0 : Hp) (D L : Addr) (kvs : List (Int × Int)) (l : List Int) (H : Hp) : Prop where
  sm : Same H0 H
  nD : H0 D = none
  hD : H D = some (.dK (encI kvs))
  hL : H L = some (.lst (l.map V.int))
theorem Way.ne {H0 H : Hp} {D L : Addr} {kvs : List (Int × Int)} {l : List Int} (k : Way H0 D L kvs l H) : D ≠ L := fun z => by
  have h := k.hD
  rw [z, k.hL] at h
  cases h
theorem k_steps_from (B : Bl mg) (D : Dfn K mg "steps_from" ssteps_from ["pockets", "start"]) : Kept P w K mg base 1 "steps_from" ["pockets", "start"] (spSteps K) := by
  refine D.kept (N := Nsteps_from) scsteps_from (fun vs H Q E h => ?_) (fun f cdv A outer s H vs Q E hr h => ?_)
  · obtain ⟨t, a, rows, u, rfl, _⟩ := h
    rfl
  obtain ⟨t, a, rows, u, rfl, g, h9, hin, hu, q⟩ := h
  obtain ⟨as, g1, g2, g3⟩ := g
  cases t with
  | true =>
    refine ⟨_, (pss_cons (ps_set (i := 2) scsteps_from.nd rfl (Or.inl rfl) (pe_disp (pps_cons (pv 1) pe_int pps_nil) (by rfl) (by rfl) (fun z => by cases z) (by decide)))
      (pss_cons (ps_set (i := 3) scsteps_from.nd rfl (Or.inl rfl) (pe_lst (pa_cons (pv 1) pa_nil)))
      (pss_cons (ps_while PassesOwn.never (pt_truth (pv 3) (by intro _; rfl)) (pss_cons (ps_set (i := 4) scsteps_from.nd rfl (Or.inl rfl) (pe_lst pa_nil))
      (pss_cons (ps_for PassesOwn.never rfl (pi_list (pv 3)) (pg_name (i := 5) scsteps_from.nd rfl (Or.inl rfl)) (pss_one (ps_for PassesOwn.never rfl (pi_tup (pe_ix ix_tup (pv 0) (pv 5) (fun _ _ => rfl))) (pg_name (i := 6) scsteps_from.nd rfl (Or.inl rfl)) (pss_one (ps_if (pt_cmp (pc_dnotin (hu_of hr) (pv 6) (pv 2))) (pss_cons (ps_dput (hu_of hr) (pv 2) (pv 6) (pe_op op_add (pe_dget (hu_of hr) (pv 2) (pv 5) (fun _ _ => rfl)) pe_int) rfl)
      (pss_one (ps_expr (pe_bm PySem.F.plainAttrs_list PySem.F.slot_list_append PySem.F.type_list_append mt_append (pv 4) (pa_cons (pv 6) pa_nil))))) pss_nil)))))
      (pss_one (ps_set (i := 3) scsteps_from.nd rfl (Or.inl rfl) (pv 4))))))
      (pss_one (ps_ret (pv 2)))))), ?_⟩
    intro D nD
    refine ⟨_, rfl, upd_same, [(Sum.inl u, V.int 0)], rfl, (by decide : 1 ≤ 15), ?_⟩
    have hm : mergeK [] [((Sum.inl u : Key), V.int 0)] = encI [(u, 0)] := rfl
    rw [hm]
    generalize e1 : upd (upd H D _) D _ = H1
    have sm1 : Same H H1 := by
      rw [← e1]
      exact same_mut (same_new nD) nD
    have hD1 : H1 D = some (.dK (encI [(u, 0)])) := by
      rw [← e1]
      exact upd_same
    clear e1
    refine ⟨_, rfl, len_le (by decide : 1 ≤ 1000), fun L nL => ?_⟩
    have nLD : L ≠ D := fun z => by
      rw [z, hD1] at nL
      cases nL
    have way0 : Way H D L [(u, 0)] [u] (upd H1 L (.lst [.int u])) := by
      refine ⟨sm1.trans (same_new nL), nD, ?_, upd_same⟩
      rw [upd_ne (Ne.symm nLD)]
      exact hD1
    generalize upd H1 L (.lst [.int u]) = H2 at way0 ⊢
    have hu' : 0 ≤ u ∧ u < (rows.length : Int) := hu
    refine ⟨fun n σ H' => ∃ kvs l m L x4 x5 x6, σ = [some (.ref a), some (.int u), some (.ref D), some (.ref L), x4, x5, x6] ∧ Way H D L kvs l H' ∧ Lay rows u kvs l m ∧ l.length ≤ kvs.length ∧ n = 2 * (rows.length - kvs.length) + l.length, ⟨_, _, _, 0, _, _, _, _, rfl, way0, Lay.start, Nat.le_refl _, rfl⟩, ?_⟩
    rintro n σ H3 ⟨kvs, l, m, L, x4, x5, x6, rfl, way, ly, lk, rfl⟩
    refine ⟨_, rfl, !(l.map V.int).isEmpty, .inl ⟨_, SqL.of way.hL, rfl⟩, ?_⟩
    have c9 := ly.few hin hu'
    refine ite2 (fun e => ⟨_, fun _ _ z => z, ?_⟩) (fun e => ?_)
    · have l0 : l ≠ [] := fun z => by
        rw [z] at e
        cases e
      have l1 : 0 < l.length := List.length_pos_iff.mpr l0
      refine ⟨len_le (by decide : 0 ≤ 1000), fun F nF => ?_⟩
      have nFD : F ≠ D := fun z => by
        rw [z, way.hD] at nF
        cases nF
      have nFL : F ≠ L := fun z => by
        rw [z, way.hL] at nF
        cases nF
      have way1 : Way H D L kvs l (upd H3 F (.lst [])) := ⟨way.sm.trans (same_new nF), way.nD, by rw [upd_ne (Ne.symm nFD)]; exact way.hD, by rw [upd_ne (Ne.symm nFL)]; exact way.hL⟩
      have hF1 : upd H3 F (.lst []) F = some (.lst (([] : List Int).map V.int)) := upd_same
      have nF0 := none_of way.sm nF
      generalize upd H3 F (.lst []) = H4 at way1 hF1 ⊢
      refine ⟨_, rfl, L, rfl, ⟨_, SqL.of way1.hL⟩, ?_⟩
      refine for_list (xs := l.map V.int) (fun i σ H' => ∃ kvs' f y5 y6, σ = [some (.ref a), some (.int u), some (.ref D), some (.ref L), some (.ref F), y5, y6] ∧ Way H D L kvs' l H' ∧ H' F = some (.lst (f.map V.int)) ∧ Mid rows u l m (fun k x => k ∈ l.take i ∧ x ∈ rowAt rows k) kvs' f ∧ kvs'.length = kvs.length + f.length) ?_ ?_ ?_ ?_
      · refine ⟨kvs, [], _, _, rfl, way1, hF1, ?_, rfl⟩
        have z := ly.mid
        exact ⟨z.nd, z.re, z.st, z.low, z.lay, z.fu, z.dn, fun k x p => absurd p.1 List.not_mem_nil, z.m0⟩
      · rintro i σ H' _ ⟨kvs', f, y5, y6, rfl, way', _⟩
        exact SqL.of way'.hL
      · rintro i x σ H' hx ⟨kvs', f, y5, y6, rfl, way', hF, md, el⟩
        rw [List.getElem?_map] at hx
        obtain ⟨v, hv, rfl⟩ := Option.map_eq_some_iff.mp hx
        have vl : v ∈ l := List.mem_of_getElem? hv
        have dv := (ly.lay v).mp vl
        have hvr := (ly.re v m dv).range hin hu'
        have tks : l.take (i + 1) = l.take i ++ [v] := by
          rw [List.take_succ, hv]
          rfl
        obtain ⟨p, hp⟩ : ∃ p, as[v.toNat]? = some p := ⟨_, List.getElem?_eq_getElem (by omega)⟩
        obtain ⟨r, hr'⟩ : ∃ r, rows[v.toNat]? = some r := ⟨_, List.getElem?_eq_getElem (by omega)⟩
        have rv : rowAt rows v = r := by
          unfold rowAt
          rw [List.getD_eq_getElem?_getD, hr']
          rfl
        have hpr : SqT K H p (r.map V.int) := g3 _ _ _ hp hr'
        have hat : atI (as.map V.ref) v = some (V.ref p) := by
          have ev : v = ((v.toNat : Nat) : Int) := by omega
          rw [ev]
          refine atI_nat ?_
          rw [List.getElem?_map, hp]
          rfl
        refine ⟨_, rfl, _, rfl, a, _, _, .ref p, rfl, rfl, way'.sm.seqT g1, hat, p, rfl, ⟨_, way'.sm.seqT hpr⟩, ?_⟩
        refine for_tup (xs := r.map V.int) (fun j σ H' => ∃ kvs' f y6, σ = [some (.ref a), some (.int u), some (.ref D), some (.ref L), some (.ref F), some (.int v), y6] ∧ Way H D L kvs' l H' ∧ H' F = some (.lst (f.map V.int)) ∧ Mid rows u l m (fun k x => (k ∈ l.take i ∧ x ∈ rowAt rows k) ∨ (k = v ∧ x ∈ r.take j)) kvs' f ∧ kvs'.length = kvs.length + f.length) ?_ ?_ ?_ ?_
        · refine ⟨kvs', f, _, rfl, way', hF, ?_, el⟩
          exact ⟨md.nd, md.re, md.st, md.low, md.lay, md.fu, md.dn, fun k x p => p.elim (md.cur k x) fun z => absurd z.2 List.not_mem_nil, md.m0⟩
        · rintro j σ H5 _ ⟨kvs2, f2, z6, rfl, way2, _⟩
          exact way2.sm.seqT hpr
        · rintro j x σ H5 hx ⟨kvs2, f2, z6, rfl, way2, hF2, md2, el2⟩
          rw [List.getElem?_map] at hx
          obtain ⟨w0, hw0, rfl⟩ := Option.map_eq_some_iff.mp hx
          have hwr : w0 ∈ rowAt rows v := by
            rw [rv]
            exact List.mem_of_getElem? hw0
          have tkj : r.take (j + 1) = r.take j ++ [w0] := by
            rw [List.take_succ, hw0]
            rfl
          have pe : ∀ k x, ((k ∈ l.take i ∧ x ∈ rowAt rows k) ∨ (k = v ∧ x ∈ r.take (j + 1))) → ((k ∈ l.take i ∧ x ∈ rowAt rows k) ∨ (k = v ∧ x ∈ r.take j)) ∨ x = w0 := fun k x p => by
            rcases p with z | ⟨z1, z2⟩
            · exact .inl (.inl z)
            · rw [tkj] at z2
              rcases List.mem_append.mp z2 with y | y
              · exact .inl (.inr ⟨z1, y⟩)
              · exact .inr (List.mem_singleton.mp y)
          have c10 := md2.few hin hu'
          refine ⟨_, rfl, _, rfl, D, _, rfl, DGet.k (k := Sum.inl w0) way2.hD, _, rfl, ?_⟩
          rw [valV_enc]
          cases ew : dist kvs2 w0 with
          | some d =>
            refine ite2 (fun n => by cases n) (fun _ => ?_)
            exact ⟨kvs2, f2, _, rfl, way2, hF2, md2.skip ew pe, el2⟩
          | none =>
            refine ite2 (fun _ => ?_) (fun n => absurd rfl n)
            have dv2 := (md2.lay v).mp vl
            have eg : valV (encI kvs2) (Sum.inl v) = some (V.int m) := by rw [valV_enc, dv2]; rfl
            refine ⟨_, rfl, _, rfl, D, V.int m, rfl, ?_, m, 1, rfl, rfl, _, rfl, _, rfl, D, _, rfl, DPut.k (k := Sum.inl w0) way2.hD ?_, ?_⟩
            · rw [← eg]
              exact DGet.k (k := Sum.inl v) way2.hD
            · show (kvs2.map _).length < sizeLine
              rw [List.length_map]
              exact len_lt (by omega)
            · rw [enc_put ew]
              have nDF : D ≠ F := fun z => by
                have h := way2.hD
                rw [z, hF2] at h
                cases h
              have hF3 : upd H5 D (.dK (encI (kvs2 ++ [(w0, m + 1)]))) F = some (.lst (f2.map V.int)) := by
                rw [upd_ne (Ne.symm nDF)]
                exact hF2
              refine ⟨_, rfl, .inl ⟨rfl, _, SqL.of hF3⟩, _, rfl, F, _, _, rfl, rfl, hF3, by rw [List.length_map]; exact len_lt (by omega), ?_⟩
              refine ⟨kvs2 ++ [(w0, m + 1)], f2 ++ [w0], _, rfl, ⟨same_mut (same_mut way2.sm way2.nD) nF0, way2.nD, ?_, ?_⟩, ?_, md2.add vl hwr ew pe, ?_⟩
              · rw [upd_ne nDF]
                exact upd_same
              · rw [upd_ne (Ne.symm nFL), upd_ne (Ne.symm way2.ne)]
                exact way2.hL
              · rw [upd_same, List.map_append]
                rfl
              · rw [List.length_append, List.length_append, el2]
                rfl
        · rintro σ H5 ⟨kvs2, f2, z6, rfl, way2, hF2, md2, el2⟩
          rw [List.length_map, List.take_length] at md2
          refine ⟨kvs2, f2, _, _, rfl, way2, hF2, ?_, el2⟩
          refine ⟨md2.nd, md2.re, md2.st, md2.low, md2.lay, md2.fu, md2.dn, fun k x p => ?_, md2.m0⟩
          rw [tks] at p
          rcases List.mem_append.mp p.1 with z | z
          · exact md2.cur k x (.inl ⟨z, p.2⟩)
          · refine md2.cur k x (.inr ⟨List.mem_singleton.mp z, ?_⟩)
            rw [← rv, ← List.mem_singleton.mp z]
            exact p.2
      · rintro σ H5 ⟨kvs', f, y5, y6, rfl, way', hF, md, el⟩
        rw [List.length_map, List.take_length] at md
        have c10 := md.few hin hu'
        refine ⟨_, rfl, 2 * (rows.length - kvs'.length) + f.length, ?_, kvs', f, m + 1, F, _, _, _, rfl, ⟨way'.sm, way'.nD, way'.hD, hF⟩, md.lay_next fun k hk x hx => ⟨hk, hx⟩, by omega, rfl⟩
        omega
    · have l0 : l = [] := by
        cases l with
        | nil => rfl
        | cons x r => exact absurd rfl e
      subst l0
      exact ⟨_, rfl, q D kvs H3 way.sm way.nD way.hD ly.dists (by omega)⟩
  | false =>
    refine ⟨_, (pss_cons (ps_set (i := 2) scsteps_from.nd rfl (Or.inl rfl) (pe_disp (pps_cons (pv 1) pe_int pps_nil) (by rfl) (by rfl) (fun z => by cases z) (by decide)))
      (pss_cons (ps_set (i := 3) scsteps_from.nd rfl (Or.inl rfl) (pe_lst (pa_cons (pv 1) pa_nil)))
      (pss_cons (ps_while PassesOwn.never (pt_truth (pv 3) (by intro _; rfl)) (pss_cons (ps_set (i := 4) scsteps_from.nd rfl (Or.inl rfl) (pe_lst pa_nil))
      (pss_cons (ps_for PassesOwn.never rfl (pi_list (pv 3)) (pg_name (i := 5) scsteps_from.nd rfl (Or.inl rfl)) (pss_one (ps_for PassesOwn.never rfl (pi_list (pe_ix ix_list (pv 0) (pv 5) (fun _ _ => rfl))) (pg_name (i := 6) scsteps_from.nd rfl (Or.inl rfl)) (pss_one (ps_if (pt_cmp (pc_dnotin (hu_of hr) (pv 6) (pv 2))) (pss_cons (ps_dput (hu_of hr) (pv 2) (pv 6) (pe_op op_add (pe_dget (hu_of hr) (pv 2) (pv 5) (fun _ _ => rfl)) pe_int) rfl)
      (pss_one (ps_expr (pe_bm PySem.F.plainAttrs_list PySem.F.slot_list_append PySem.F.type_list_append mt_append (pv 4) (pa_cons (pv 6) pa_nil))))) pss_nil)))))
      (pss_one (ps_set (i := 3) scsteps_from.nd rfl (Or.inl rfl) (pv 4))))))
      (pss_one (ps_ret (pv 2)))))), ?_⟩
    intro D nD
    refine ⟨_, rfl, upd_same, [(Sum.inl u, V.int 0)], rfl, (by decide : 1 ≤ 15), ?_⟩
    have hm : mergeK [] [((Sum.inl u : Key), V.int 0)] = encI [(u, 0)] := rfl
    rw [hm]
    generalize e1 : upd (upd H D _) D _ = H1
    have sm1 : Same H H1 := by
      rw [← e1]
      exact same_mut (same_new nD) nD
    have hD1 : H1 D = some (.dK (encI [(u, 0)])) := by
      rw [← e1]
      exact upd_same
    clear e1
    refine ⟨_, rfl, len_le (by decide : 1 ≤ 1000), fun L nL => ?_⟩
    have nLD : L ≠ D := fun z => by
      rw [z, hD1] at nL
      cases nL
    have way0 : Way H D L [(u, 0)] [u] (upd H1 L (.lst [.int u])) := by
      refine ⟨sm1.trans (same_new nL), nD, ?_, upd_same⟩
      rw [upd_ne (Ne.symm nLD)]
      exact hD1
    generalize upd H1 L (.lst [.int u]) = H2 at way0 ⊢
    have hu' : 0 ≤ u ∧ u < (rows.length : Int) := hu
    refine ⟨fun n σ H' => ∃ kvs l m L x4 x5 x6, σ = [some (.ref a), some (.int u), some (.ref D), some (.ref L), x4, x5, x6] ∧ Way H D L kvs l H' ∧ Lay rows u kvs l m ∧ l.length ≤ kvs.length ∧ n = 2 * (rows.length - kvs.length) + l.length, ⟨_, _, _, 0, _, _, _, _, rfl, way0, Lay.start, Nat.le_refl _, rfl⟩, ?_⟩
    rintro n σ H3 ⟨kvs, l, m, L, x4, x5, x6, rfl, way, ly, lk, rfl⟩
    refine ⟨_, rfl, !(l.map V.int).isEmpty, .inl ⟨_, SqL.of way.hL, rfl⟩, ?_⟩
    have c9 := ly.few hin hu'
    refine ite2 (fun e => ⟨_, fun _ _ z => z, ?_⟩) (fun e => ?_)
    · have l0 : l ≠ [] := fun z => by
        rw [z] at e
        cases e
      have l1 : 0 < l.length := List.length_pos_iff.mpr l0
      refine ⟨len_le (by decide : 0 ≤ 1000), fun F nF => ?_⟩
      have nFD : F ≠ D := fun z => by
        rw [z, way.hD] at nF
        cases nF
      have nFL : F ≠ L := fun z => by
        rw [z, way.hL] at nF
        cases nF
      have way1 : Way H D L kvs l (upd H3 F (.lst [])) := ⟨way.sm.trans (same_new nF), way.nD, by rw [upd_ne (Ne.symm nFD)]; exact way.hD, by rw [upd_ne (Ne.symm nFL)]; exact way.hL⟩
      have hF1 : upd H3 F (.lst []) F = some (.lst (([] : List Int).map V.int)) := upd_same
      have nF0 := none_of way.sm nF
      generalize upd H3 F (.lst []) = H4 at way1 hF1 ⊢
      refine ⟨_, rfl, L, rfl, ⟨_, SqL.of way1.hL⟩, ?_⟩
      refine for_list (xs := l.map V.int) (fun i σ H' => ∃ kvs' f y5 y6, σ = [some (.ref a), some (.int u), some (.ref D), some (.ref L), some (.ref F), y5, y6] ∧ Way H D L kvs' l H' ∧ H' F = some (.lst (f.map V.int)) ∧ Mid rows u l m (fun k x => k ∈ l.take i ∧ x ∈ rowAt rows k) kvs' f ∧ kvs'.length = kvs.length + f.length) ?_ ?_ ?_ ?_
      · refine ⟨kvs, [], _, _, rfl, way1, hF1, ?_, rfl⟩
        have z := ly.mid
        exact ⟨z.nd, z.re, z.st, z.low, z.lay, z.fu, z.dn, fun k x p => absurd p.1 List.not_mem_nil, z.m0⟩
      · rintro i σ H' _ ⟨kvs', f, y5, y6, rfl, way', _⟩
        exact SqL.of way'.hL
      · rintro i x σ H' hx ⟨kvs', f, y5, y6, rfl, way', hF, md, el⟩
        rw [List.getElem?_map] at hx
        obtain ⟨v, hv, rfl⟩ := Option.map_eq_some_iff.mp hx
        have vl : v ∈ l := List.mem_of_getElem? hv
        have dv := (ly.lay v).mp vl
        have hvr := (ly.re v m dv).range hin hu'
        have tks : l.take (i + 1) = l.take i ++ [v] := by
          rw [List.take_succ, hv]
          rfl
        obtain ⟨p, hp⟩ : ∃ p, as[v.toNat]? = some p := ⟨_, List.getElem?_eq_getElem (by omega)⟩
        obtain ⟨r, hr'⟩ : ∃ r, rows[v.toNat]? = some r := ⟨_, List.getElem?_eq_getElem (by omega)⟩
        have rv : rowAt rows v = r := by
          unfold rowAt
          rw [List.getD_eq_getElem?_getD, hr']
          rfl
        have hpr : SqL K H p (r.map V.int) := g3 _ _ _ hp hr'
        have hat : atI (as.map V.ref) v = some (V.ref p) := by
          have ev : v = ((v.toNat : Nat) : Int) := by omega
          rw [ev]
          refine atI_nat ?_
          rw [List.getElem?_map, hp]
          rfl
        refine ⟨_, rfl, _, rfl, a, _, _, .ref p, rfl, rfl, seqL_same way'.sm g1, hat, p, rfl, ⟨_, seqL_same way'.sm hpr⟩, ?_⟩
        refine for_list (xs := r.map V.int) (fun j σ H' => ∃ kvs' f y6, σ = [some (.ref a), some (.int u), some (.ref D), some (.ref L), some (.ref F), some (.int v), y6] ∧ Way H D L kvs' l H' ∧ H' F = some (.lst (f.map V.int)) ∧ Mid rows u l m (fun k x => (k ∈ l.take i ∧ x ∈ rowAt rows k) ∨ (k = v ∧ x ∈ r.take j)) kvs' f ∧ kvs'.length = kvs.length + f.length) ?_ ?_ ?_ ?_
        · refine ⟨kvs', f, _, rfl, way', hF, ?_, el⟩
          exact ⟨md.nd, md.re, md.st, md.low, md.lay, md.fu, md.dn, fun k x p => p.elim (md.cur k x) fun z => absurd z.2 List.not_mem_nil, md.m0⟩
        · rintro j σ H5 _ ⟨kvs2, f2, z6, rfl, way2, _⟩
          exact seqL_same way2.sm hpr
        · rintro j x σ H5 hx ⟨kvs2, f2, z6, rfl, way2, hF2, md2, el2⟩
          rw [List.getElem?_map] at hx
          obtain ⟨w0, hw0, rfl⟩ := Option.map_eq_some_iff.mp hx
          have hwr : w0 ∈ rowAt rows v := by
            rw [rv]
            exact List.mem_of_getElem? hw0
          have tkj : r.take (j + 1) = r.take j ++ [w0] := by
            rw [List.take_succ, hw0]
            rfl
          have pe : ∀ k x, ((k ∈ l.take i ∧ x ∈ rowAt rows k) ∨ (k = v ∧ x ∈ r.take (j + 1))) → ((k ∈ l.take i ∧ x ∈ rowAt rows k) ∨ (k = v ∧ x ∈ r.take j)) ∨ x = w0 := fun k x p => by
            rcases p with z | ⟨z1, z2⟩
            · exact .inl (.inl z)
            · rw [tkj] at z2
              rcases List.mem_append.mp z2 with y | y
              · exact .inl (.inr ⟨z1, y⟩)
              · exact .inr (List.mem_singleton.mp y)
          have c10 := md2.few hin hu'
          refine ⟨_, rfl, _, rfl, D, _, rfl, DGet.k (k := Sum.inl w0) way2.hD, _, rfl, ?_⟩
          rw [valV_enc]
          cases ew : dist kvs2 w0 with
          | some d =>
            refine ite2 (fun n => by cases n) (fun _ => ?_)
            exact ⟨kvs2, f2, _, rfl, way2, hF2, md2.skip ew pe, el2⟩
          | none =>
            refine ite2 (fun _ => ?_) (fun n => absurd rfl n)
            have dv2 := (md2.lay v).mp vl
            have eg : valV (encI kvs2) (Sum.inl v) = some (V.int m) := by rw [valV_enc, dv2]; rfl
            refine ⟨_, rfl, _, rfl, D, V.int m, rfl, ?_, m, 1, rfl, rfl, _, rfl, _, rfl, D, _, rfl, DPut.k (k := Sum.inl w0) way2.hD ?_, ?_⟩
            · rw [← eg]
              exact DGet.k (k := Sum.inl v) way2.hD
            · show (kvs2.map _).length < sizeLine
              rw [List.length_map]
              exact len_lt (by omega)
            · rw [enc_put ew]
              have nDF : D ≠ F := fun z => by
                have h := way2.hD
                rw [z, hF2] at h
                cases h
              have hF3 : upd H5 D (.dK (encI (kvs2 ++ [(w0, m + 1)]))) F = some (.lst (f2.map V.int)) := by
                rw [upd_ne (Ne.symm nDF)]
                exact hF2
              refine ⟨_, rfl, .inl ⟨rfl, _, SqL.of hF3⟩, _, rfl, F, _, _, rfl, rfl, hF3, by rw [List.length_map]; exact len_lt (by omega), ?_⟩
              refine ⟨kvs2 ++ [(w0, m + 1)], f2 ++ [w0], _, rfl, ⟨same_mut (same_mut way2.sm way2.nD) nF0, way2.nD, ?_, ?_⟩, ?_, md2.add vl hwr ew pe, ?_⟩
              · rw [upd_ne nDF]
                exact upd_same
              · rw [upd_ne (Ne.symm nFL), upd_ne (Ne.symm way2.ne)]
                exact way2.hL
              · rw [upd_same, List.map_append]
                rfl
              · rw [List.length_append, List.length_append, el2]
                rfl
        · rintro σ H5 ⟨kvs2, f2, z6, rfl, way2, hF2, md2, el2⟩
          rw [List.length_map, List.take_length] at md2
          refine ⟨kvs2, f2, _, _, rfl, way2, hF2, ?_, el2⟩
          refine ⟨md2.nd, md2.re, md2.st, md2.low, md2.lay, md2.fu, md2.dn, fun k x p => ?_, md2.m0⟩
          rw [tks] at p
          rcases List.mem_append.mp p.1 with z | z
          · exact md2.cur k x (.inl ⟨z, p.2⟩)
          · refine md2.cur k x (.inr ⟨List.mem_singleton.mp z, ?_⟩)
            rw [← rv, ← List.mem_singleton.mp z]
            exact p.2
      · rintro σ H5 ⟨kvs', f, y5, y6, rfl, way', hF, md, el⟩
        rw [List.length_map, List.take_length] at md
        have c10 := md.few hin hu'
        refine ⟨_, rfl, 2 * (rows.length - kvs'.length) + f.length, ?_, kvs', f, m + 1, F, _, _, _, rfl, ⟨way'.sm, way'.nD, way'.hD, hF⟩, md.lay_next fun k hk x hx => ⟨hk, hx⟩, by omega, rfl⟩
        omega
    · have l0 : l = [] := by
        cases l with
        | nil => rfl
        | cons x r => exact absurd rfl e
      subst l0
      exact ⟨_, rfl, q D kvs H3 way.sm way.nD way.hD ly.dists (by omega)⟩
theorem k_found_from (B : Bl mg) (D : Dfn K mg "found_from" sfound_from ["pockets", "start"]) (Gsteps_from : Kept P w K mg base 1 "steps_from" ["pockets", "start"] (spSteps K)) : Kept P w K mg base 2 "found_from" ["pockets", "start"] (spFound K) := by
  refine D.keptC (N := Nfound_from) scfound_from (fun vs H Q E h => ?_) (fun f cdv A outer s H vs Q E hcd hr h => ?_)
  · obtain ⟨t, a, rows, u, rfl, _⟩ := h
    rfl
  obtain ⟨t, a, rows, u, rfl, g, h9, hin, hu, q⟩ := h
  refine ⟨_, (pss_one (ps_ret (pe_callTy call_tuple_of (by rfl) B.b_tuple (by decide +kernel) (pa_cons (pe_callB (call_sortedDI rfl) (by rfl) B.b_sorted (by decide +kernel) (pa_cons (pe_k Gsteps_from (hr.mono (by first | decide | omega)) (by rfl) (pa_cons (pv 0) (pa_cons (pv 1) pa_nil))) pa_nil)) pa_nil)))), ?_⟩
  refine ⟨_, rfl, _, rfl, t, a, rows, u, rfl, g, h9, hin, hu, fun D kvs H1 s1 nD hD ds l9 => ?_⟩
  refine ⟨D, _, kvs.map (·.1), rfl, .inl hD, by unfold encI; rw [List.map_map, List.map_map]; rfl, by rw [List.length_map]; omega, fun ys p pm pw np => ?_⟩
  refine ⟨p, _, rfl, .inl ⟨SqL.of upd_same, fun t nt => ?_⟩⟩
  have sp := s1.trans (same_new (o := .lst (ys.map V.int)) np)
  have nd : ys.Nodup := pm.nodup_iff.mpr ds.nd
  refine q t ys _ (sp.trans (same_new nt)) (none_of sp nt) upd_same ?_ (fun k => (pm.mem_iff).trans (ds.re k)) ?_
  · exact (pw.and nd).imp fun h => by
      have h1 := h.1
      have h2 := h.2
      omega
  · rw [pm.length_eq, List.length_map]
    exact l9
theorem k_all_found (B : Bl mg) (D : Dfn K mg "all_found" sall_found ["pockets"]) (Gfound_from : Kept P w K mg base 2 "found_from" ["pockets", "start"] (spFound K)) : Kept P w K mg base 3 "all_found" ["pockets"] (spAll K) := by
  refine D.kept (N := Nall_found) scall_found (fun vs H Q E h => ?_) (fun f cdv A outer s H vs Q E hr h => ?_)
  · obtain ⟨t, a, rows, rfl, _⟩ := h
    rfl
  obtain ⟨t, a, rows, rfl, g, h9, hin, q⟩ := h
  refine ⟨_, (pss_one (ps_ret (pe_callTy call_tuple_of (by rfl) B.b_tuple (by decide +kernel) (pa_cons (pe_lc (own := [("u", 1)]) (g := gName 1) (by rfl) scall_found.nd (pi_range1 (by rfl) B.b_range (pa_cons (pe_callB call_len_seq (by rfl) B.b_len PySem.boot_len (pa_cons (pv 0) pa_nil)) pa_nil)) (blkOk_by (own := [("u", 1)]) (N := Nall_found) (sc := defScope sall_found) (by decide +kernel)) (fun _ _ _ _ _ => (pg_name (i := 1) scall_found.nd rfl (Or.inl rfl))) (fun _ _ _ _ _ => pts_nil) (fun _ _ _ _ _ => (pe_k Gfound_from (hr.mono (by first | decide | omega)) (by rfl) (pa_cons (pv 0) (pa_cons (pv 1) pa_nil))))) pa_nil)))), ?_⟩
  have hlen : ∃ xs : List V, (SqL K H a xs ∨ SqT K H a xs) ∧ xs.length = rows.length := by
    obtain ⟨as, g1, g2, _⟩ := g
    refine ⟨as.map V.ref, ?_, by rw [List.length_map, g2]⟩
    cases t with
    | true => exact .inr g1
    | false => exact .inl g1
  obtain ⟨xs, hxs, hl⟩ := hlen
  refine ⟨.ref a, rfl, a, xs, rfl, hxs, _, rfl, by omega, by omega, fun D nD => ?_⟩
  refine lc_range (lo := 0) (n := (xs.length : Int).toNat) (fun i H' => Same H H' ∧ ∃ (as' : List Addr) (fs' : List (List Int)), H' D = some (.lst (as'.map V.ref)) ∧ as'.length = i ∧ fs'.length = i ∧
    (∀ (j : Nat) (p : Addr) (f : List Int), as'[j]? = some p → fs'[j]? = some f → SqT K H' p (f.map V.int)) ∧ ∀ (j : Nat) (f : List Int), fs'[j]? = some f → f.Pairwise (· < ·) ∧ (∀ k, k ∈ f ↔ Reach rows j k) ∧ f.length ≤ 9) ⟨same_new nD, [], [], upd_same, rfl, rfl, fun j p f e => by simp at e, fun j f e => by simp at e⟩ ?_ ?_
  · rintro i H' hi ⟨sm, as', fs', hD, rfl, el, h1, h2⟩
    refine ⟨rfl, ?_⟩
    refine ⟨_, rfl, _, rfl, t, a, rows, _, rfl, g.same sm, h9, hin, ⟨by omega, by omega⟩, fun p ns H'' s2 np hp pw mem l9 => ?_⟩
    refine ⟨_, s2 _ _ hD, by rw [List.length_map]; exact len_lt (by omega), same_mut (sm.trans s2) nD, as' ++ [p], fs' ++ [ns], ?_, ?_, ?_, ?_, ?_⟩
    · rw [upd_same, List.map_append]
      rfl
    · rw [List.length_append]
      rfl
    · rw [List.length_append, el]
      rfl
    · intro j p' f' e1 e2
      have sx : Same H' (upd H'' D (.lst (as'.map V.ref ++ [.ref p]))) → True := fun _ => trivial
      have keep : ∀ (x : Addr) (zs : List V), SqT K H'' x zs → H'' D = some (.lst (as'.map V.ref)) → SqT K (upd H'' D (.lst (as'.map V.ref ++ [.ref p]))) x zs := fun x zs hx hD' => by
        rcases hx with (hx | ⟨o, hx⟩) | hx
        · refine .inl (.inl ?_)
          rw [upd_ne (fun z => by rw [z, hD'] at hx; cases hx)]
          exact hx
        · refine .inl (.inr ⟨o, ?_⟩)
          rw [upd_ne (fun z => by rw [z, hD'] at hx; cases hx)]
          exact hx
        · exact .inr hx
      refine keep p' _ ?_ (s2 _ _ hD)
      rcases get_snoc e1 with z | ⟨z1, z2⟩
      · rcases get_snoc e2 with y | ⟨y1, _⟩
        · exact s2.seqT (h1 j p' f' z y)
        · have := (List.getElem?_eq_some_iff.mp z).1
          omega
      · rcases get_snoc e2 with y | ⟨_, y2⟩
        · have := (List.getElem?_eq_some_iff.mp y).1
          omega
        · rw [z2, y2]
          exact SqT.of hp
    · intro j f' e
      rcases get_snoc e with y | ⟨y1, y2⟩
      · exact h2 j f' y
      · rw [y1, y2, el]
        refine ⟨pw, fun k => ?_, l9⟩
        rw [mem k, show (0 : Int) + (as'.length : Int) = ((as'.length : Nat) : Int) by omega]
  · rintro H' ⟨sm, as', fs', hD, ea, el, h1, h2⟩
    refine ⟨D, _, rfl, .inl ⟨SqL.of hD, fun p np => ?_⟩⟩
    have npH := none_of sm np
    have sp := same_new (o := .tup (as'.map V.ref)) np
    refine q p fs' _ (sm.trans sp) npH ⟨as', SqT.of upd_same, by rw [ea, el], fun j p' f' e1 e2 => sp.seqT (h1 j p' f' e1 e2)⟩ ⟨by omega, h2⟩
end
end Lw

set_option maxHeartbeats 4000000
namespace Lw
open PySem PySem.Spec PyProof.Rows L2 EF Hn
open PySem.W (Frag keepIn)
/-- whom u finds and who find u -/
def knot (fs : List (List Int)) (u : Int) : List Int := (rowAt fs u).filter fun w => decide (u ∈ rowAt fs w)
def spKnot (K : Frag) : Sp := fun vs H Q _ => ∃ (a : Addr) (fs : List (List Int)) (u : Int), vs = [.int u, .ref a] ∧ Grid K true H a fs ∧ InRange fs ∧ (0 ≤ u ∧ u < (fs.length : Int)) ∧ (∀ f ∈ fs, f.length ≤ 9) ∧
  ∀ (p : Addr) (H' : Hp), Same H H' → H p = none → H' p = some (.tup ((knot fs u).map V.int)) → Q (.ref p) H'
theorem Grid.row {K : Frag} {H : Hp} {a : Addr} {fs : List (List Int)} (g : Grid K true H a fs) {u : Int} (hu : 0 ≤ u ∧ u < (fs.length : Int)) : ∃ (xs : List V) (p : Addr), SqT K H a xs ∧ atI xs u = some (.ref p) ∧ SqT K H p ((rowAt fs u).map V.int) := by
  obtain ⟨as, g1, g2, g3⟩ := g
  obtain ⟨p, hp⟩ : ∃ p, as[u.toNat]? = some p := ⟨_, List.getElem?_eq_getElem (by omega)⟩
  obtain ⟨r, hr⟩ : ∃ r, fs[u.toNat]? = some r := ⟨_, List.getElem?_eq_getElem (by omega)⟩
  refine ⟨_, p, g1, ?_, ?_⟩
  · have ev : u = ((u.toNat : Nat) : Int) := by omega
    rw [ev]
    refine atI_nat ?_
    rw [List.getElem?_map, hp]
    rfl
  · have e : rowAt fs u = r := by
      unfold rowAt
      rw [List.getD_eq_getElem?_getD, hr]
      rfl
    rw [e]
    exact g3 _ _ _ hp hr
theorem flat_ints (ns : List Int) : (ns.map V.int).all flatV = true := by
  rw [List.all_map]
  exact List.all_eq_true.mpr fun _ _ => rfl
theorem inV_ints (u : Int) : ∀ ns : List Int, inV (.int u) (ns.map V.int) = decide (u ∈ ns)
  | [] => by
    show false = _
    exact (decide_eq_false List.not_mem_nil).symm
  | n :: ns => by
    have ih := inV_ints u ns
    show ((n == u) || inV (.int u) (ns.map V.int)) = _
    rw [ih, Bool.eq_iff_iff, Bool.or_eq_true, beq_iff_eq, decide_eq_true_iff, decide_eq_true_iff, List.mem_cons, eq_comm]
theorem row_short {fs : List (List Int)} (h : ∀ f ∈ fs, f.length ≤ 9) (u : Int) : (rowAt fs u).length ≤ 9 := by
  unfold rowAt
  rw [List.getD_eq_getElem?_getD]
  cases e : fs[u.toNat]? with
  | none => exact Nat.zero_le _
  | some r => exact h r (List.mem_of_getElem? e)
section
variable {P : Program} {w : World} {K : Frag} {mg : Str → Option Value} {base : Heap}
theorem k_knot_around (B : Bl mg) (D : Dfn K mg "knot_around" sknot_around ["u", "found"]) : Kept P w K mg base 1 "knot_around" ["u", "found"] (spKnot K) := by
  refine D.kept (N := Nknot_around) scknot_around (fun vs H Q E h => ?_) (fun f cdv A outer s H vs Q E hr h => ?_)
  · obtain ⟨a, fs, u, rfl, _⟩ := h
    rfl
  obtain ⟨a, fs, u, rfl, g, hin, hu, h9, q⟩ := h
  refine ⟨_, (pss_one (ps_ret (pe_callTy call_tuple_of (by rfl) B.b_tuple (by decide +kernel) (pa_cons (pe_lc (own := [("w", 2)]) (g := gName 2) (by rfl) scknot_around.nd (pi_tup (pe_ix ix_tup (pv 1) (pv 0) (fun _ _ => rfl))) (blkOk_by (own := [("w", 2)]) (N := Nknot_around) (sc := defScope sknot_around) (by decide +kernel)) (fun _ _ _ _ _ => (pg_name (i := 2) scknot_around.nd rfl (Or.inl rfl))) (fun _ _ _ _ _ => (pts_one (pt_cmpR (in_seqK (K := K) rfl) (pv 0) (pe_ix (ix_tupK (K := K) rfl) (pv 1) (pv 2) (fun _ _ => rfl)) (by rfl)))) (fun _ _ _ _ _ => (pv 2))) pa_nil)))), ?_⟩
  obtain ⟨xs, p, hx, hat, hp⟩ := g.row hu
  refine ⟨_, rfl, _, rfl, a, _, _, .ref p, rfl, rfl, hx, hat, p, rfl, ⟨_, hp⟩, fun D nD => ?_⟩
  refine lc_tup (xs := (rowAt fs u).map V.int) (fun i H' => Same H H' ∧ H' D = some (.lst ((((rowAt fs u).take i).filter fun w => decide (u ∈ rowAt fs w)).map V.int))) ⟨same_new nD, upd_same⟩ (fun i H' _ p' => p'.1.seqT hp) ?_ ?_
  · rintro i x H' hx' ⟨sm, hD⟩
    rw [List.getElem?_map] at hx'
    obtain ⟨w0, hw0, rfl⟩ := Option.map_eq_some_iff.mp hx'
    have hwr : w0 ∈ rowAt fs u := List.mem_of_getElem? hw0
    obtain ⟨xs2, p2, hx2, hat2, hp2⟩ := (g.same sm).row (row_range hin hwr)
    have tk : (rowAt fs u).take (i + 1) = (rowAt fs u).take i ++ [w0] := by
      rw [List.take_succ, hw0]
      rfl
    refine ⟨rfl, ?_⟩
    refine ⟨_, rfl, _, rfl, _, rfl, a, _, _, .ref p2, rfl, rfl, hx2, hat2, p2, _, rfl, .inr hp2, rfl, flat_ints _, _, rfl, ?_⟩
    have sz : (((((rowAt fs u).take i).filter fun w => decide (u ∈ rowAt fs w))).map V.int).length < sizeLine := by
      rw [List.length_map]
      have h1 := List.length_filter_le (fun w => decide (u ∈ rowAt fs w)) ((rowAt fs u).take i)
      rw [List.length_take] at h1
      have h2 := row_short h9 u
      exact len_lt (by omega)
    refine ite2 (fun e1 => ?_) (fun e1 => ?_)
    · have y : decide (u ∈ rowAt fs w0) = true := by
        rw [← inV_ints]
        exact e1
      refine ⟨_, rfl, _, hD, sz, same_mut sm nD, ?_⟩
      rw [upd_same, tk, List.filter_append, List.map_append, List.filter_cons, if_pos y]
      rfl
    · have y : ¬ decide (u ∈ rowAt fs w0) = true := by
        rw [← inV_ints]
        exact e1
      refine ⟨sm, ?_⟩
      rw [tk, List.filter_append, List.filter_cons, if_neg y, List.filter_nil, List.append_nil]
      exact hD
  · rintro H' ⟨sm, hD⟩
    rw [List.length_map, List.take_length] at hD
    refine ⟨D, _, rfl, .inl ⟨SqL.of hD, fun t nt => ?_⟩⟩
    exact q t _ (sm.trans (same_new nt)) (none_of sm nt) upd_same
end
theorem seqT_ext {K : Frag} {H : Hp} {D x : Addr} {φ : Heap → Prop} {o : HO} {zs : List V} (hD : H D = some (.ext φ)) (hx : SqT K H x zs) : SqT K (upd H D o) x zs := by
  rcases hx with (hx | ⟨o, hx⟩) | hx
  · refine .inl (.inl ?_)
    rw [upd_ne (fun z => by rw [z, hD] at hx; cases hx)]
    exact hx
  · refine .inl (.inr ⟨o, ?_⟩)
    rw [upd_ne (fun z => by rw [z, hD] at hx; cases hx)]
    exact hx
  · exact .inr hx
/-- the knots: each a row, ascending -/
def KnotsOf (fs ks : List (List Int)) : Prop := ks.Pairwise (fun q r => ¬ r < q) ∧ ks.Nodup ∧ (∀ k, k ∈ ks ↔ ∃ u : Nat, u < fs.length ∧ k = knot fs u)
def spKnots (K : Frag) : Sp := fun vs H Q _ => ∃ (a : Addr) (fs : List (List Int)), vs = [.ref a] ∧ Grid K true H a fs ∧ fs.length ≤ 9 ∧ InRange fs ∧ (∀ f ∈ fs, f.length ≤ 9) ∧ (∀ u : Nat, u < fs.length → (u : Int) ∈ rowAt fs u) ∧
  ∀ (p : Addr) (ks : List (List Int)) (H' : Hp), Same H H' → H p = none → Grid K true H' p ks → KnotsOf fs ks → Q (.ref p) H'
section
variable {P : Program} {w : World} {K : Frag} {mg : Str → Option Value} {base : Heap}
theorem k_knots_among (B : Bl mg) (D : Dfn K mg "knots_among" sknots_among ["found"]) (Gknot_around : Kept P w K mg base 1 "knot_around" ["u", "found"] (spKnot K)) : Kept P w K mg base 2 "knots_among" ["found"] (spKnots K) := by
  refine D.kept (N := Nknots_among) scknots_among (fun vs H Q E h => ?_) (fun f cdv A outer s H vs Q E hr h => ?_)
  · obtain ⟨a, fs, rfl, _⟩ := h
    rfl
  obtain ⟨a, fs, rfl, g, n9, hin, h9, self, q⟩ := h
  refine ⟨_, (pss_one (ps_ret (pe_callTy call_tuple_of (by rfl) B.b_tuple (by decide +kernel) (pa_cons (pe_callB (sortSK (K := K) rfl rfl rfl rfl (room10 hr)) (by rfl) B.b_sorted (by decide +kernel) (pa_cons (pe_sg (wordT (hu_of hr)) (own := [("u", 1)]) (g := gName 1) (by rfl) scknots_among.nd (pi_range1 (by rfl) B.b_range (pa_cons (pe_callB call_len_seq (by rfl) B.b_len PySem.boot_len (pa_cons (pv 0) pa_nil)) pa_nil)) (blkOk_by (own := [("u", 1)]) (N := Nknots_among) (sc := defScope sknots_among) (by decide +kernel)) (fun _ _ _ _ _ => (pg_name (i := 1) scknots_among.nd rfl (Or.inl rfl))) (fun _ _ _ _ _ => pts_nil) (fun _ _ _ _ _ => (pe_k Gknot_around (hr.mono (by first | decide | omega)) (by rfl) (pa_cons (pv 1) (pa_cons (pv 0) pa_nil))))) pa_nil)) pa_nil)))), ?_⟩
  obtain ⟨xs, hx, hl⟩ : ∃ xs : List V, SqT K H a xs ∧ xs.length = fs.length := by
    obtain ⟨as, g1, g2, _⟩ := g
    exact ⟨_, g1, by rw [List.length_map, g2]⟩
  refine ⟨.ref a, rfl, a, xs, rfl, .inr hx, _, rfl, by omega, by omega, fun D nD => ?_⟩
  refine sg_range (lo := 0) (n := (xs.length : Int).toNat) (fun i H' => ∃ L : List (Addr × List Int), Same H H' ∧ H' D = some (SetTO P w D L) ∧ (∀ p ∈ L, SqT K H' p.1 (p.2.map V.int)) ∧ L.length ≤ i ∧ ∀ k, k ∈ L.map (·.2) ↔ ∃ u : Nat, u < i ∧ k = knot fs u) ⟨[], same_new nD, upd_same, fun p hp => absurd hp List.not_mem_nil, Nat.le_refl _, fun k => ⟨fun z => absurd z List.not_mem_nil, fun ⟨u, z, _⟩ => absurd z (Nat.not_lt_zero _)⟩⟩ ?_ ?_
  · rintro i H' hi ⟨L, sm, hD, hL, few, mem⟩
    refine ⟨rfl, ?_⟩
    refine ⟨_, rfl, _, rfl, a, fs, _, rfl, g.same sm, hin, ⟨by omega, by omega⟩, h9, fun p H'' s2 np hp => ?_⟩
    have hD2 := s2 _ _ hD
    refine ⟨p, knot fs i, L, rfl, ?_, hD2, fun p' hp' => s2.seqT (hL p' hp'), by omega, fun L' e1 e2 => ?_⟩
    · rw [show (0 : Int) + (i : Int) = ((i : Nat) : Int) by omega] at hp
      exact SqT.of hp
    rw [show (0 : Int) + (i : Int) = ((i : Nat) : Int) by omega] at hp
    rcases Classical.em (knot fs i ∈ L.map (·.2)) with z | z
    · obtain rfl := e1 z
      refine ⟨L', same_mut (sm.trans s2) nD, upd_same, fun p' hp' => seqT_ext hD2 (s2.seqT (hL p' hp')), by omega, fun k => (mem k).trans ⟨fun ⟨u, h1, h2⟩ => ⟨u, by omega, h2⟩, fun ⟨u, h1, h2⟩ => ?_⟩⟩
      rcases Nat.lt_or_ge u i with y | y
      · exact ⟨u, y, h2⟩
      · obtain rfl : u = i := by omega
        rw [h2]
        exact (mem _).mp z
    · have pm := e2 z
      refine ⟨L', same_mut (sm.trans s2) nD, upd_same, fun p' hp' => ?_, by rw [pm.length_eq]; show L.length + 1 ≤ i + 1; omega, fun k => ?_⟩
      · rcases List.mem_cons.mp (pm.mem_iff.mp hp') with y | y
        · rw [y]
          exact seqT_ext hD2 (SqT.of hp)
        · exact seqT_ext hD2 (s2.seqT (hL p' y))
      · rw [(pm.map (fun x => x.2)).mem_iff, List.map_cons, List.mem_cons, mem k]
        constructor
        · rintro (y | ⟨u, h1, h2⟩)
          · exact ⟨i, Nat.lt_succ_self _, y⟩
          · exact ⟨u, by omega, h2⟩
        · rintro ⟨u, h1, h2⟩
          rcases Nat.lt_or_ge u i with y | y
          · exact .inr ⟨u, y, h2⟩
          · obtain rfl : u = i := by omega
            exact .inl h2
  · rintro H' ⟨L, sm, hD, hL, few, mem⟩
    refine ⟨D, L, rfl, hD, hL, fun p hp => ?_, fun L' p pm nd l64 pw np => ?_⟩
    · obtain ⟨u, h1, h2⟩ := (mem p.2).mp (List.mem_map.mpr ⟨p, hp, rfl⟩)
      have su := self u (by omega)
      intro z
      have m : (u : Int) ∈ knot fs u := List.mem_filter.mpr ⟨su, decide_eq_true su⟩
      rw [← h2, z] at m
      cases m
    · refine ⟨p, _, rfl, .inl ⟨SqL.of upd_same, fun t nt => ?_⟩⟩
      have npH := none_of sm np
      have s1 : Same H' (upd H' p (.lst (L'.map fun q => V.ref q.1))) := same_new np
      have s2 := s1.trans (same_new (o := .tup (L'.map fun q => V.ref q.1)) nt)
      refine q t (L'.map (·.2)) _ (sm.trans s2) (none_of sm (none_of s1 nt)) ⟨L'.map (·.1), ?_, by rw [List.length_map, List.length_map], fun i p' r e1 e2 => ?_⟩ ⟨?_, nd, fun k => ?_⟩
      · rw [List.map_map]
        exact SqT.of upd_same
      · rw [List.getElem?_map] at e1 e2
        obtain ⟨q1, h1, rfl⟩ := Option.map_eq_some_iff.mp e1
        rw [h1] at e2
        obtain rfl := Option.some.inj e2
        exact s2.seqT (hL q1 (pm.mem_iff.mp (List.mem_of_getElem? h1)))
      · exact List.pairwise_map.mpr pw
      · rw [(pm.map (fun x => x.2)).mem_iff, mem k, show (xs.length : Int).toNat = fs.length by omega]
end
end Lw

set_option maxHeartbeats 4000000
namespace Lw
open PySem PySem.Spec PyProof.Rows L2 EF Hn
open PySem.W (Frag keepIn)
/-- L is a list of n own lists of ints -/
structure Links (H0 : Hp) (L : Addr) (qs : List Addr) (lk : List (List Int)) (b : Nat) (H : Hp) : Prop where
  sm : Same H0 H
  nL : H0 L = none
  hL : H L = some (.lst (qs.map V.ref))
  len : qs.length = lk.length
  nd : qs.Nodup
  new : ∀ q ∈ qs, H0 q = none
  off : L ∉ qs
  it : ∀ (i : Nat) (q : Addr) (r : List Int), qs[i]? = some q → lk[i]? = some r → H q = some (.lst (r.map V.int))
  few : ∀ r ∈ lk, r.length ≤ b
/-- lk holds each row, and who holds whom, of the people before u, and of u's first j cards -/
def Linked (rows lk : List (List Int)) (u j : Nat) : Prop := ∀ (i : Nat) (w : Int), w ∈ rowAt lk i ↔ w ∈ rowAt rows i ∨ (∃ u' : Nat, u' < u ∧ w = u' ∧ (i : Int) ∈ rowAt rows u') ∨ (w = u ∧ (i : Int) ∈ (rowAt rows u).take j)
theorem row_set {lk : List (List Int)} {i : Nat} {x : List Int} (h : i < lk.length) (v : Nat) : rowAt (lk.set i x) v = if v = i then x else rowAt lk v := by
  unfold rowAt
  rw [List.getD_eq_getElem?_getD, List.getD_eq_getElem?_getD, List.getElem?_set, Int.toNat_natCast]
  split
  · rename_i e
    rw [if_pos e.symm]
    rfl
  · rename_i e
    rw [if_neg (fun z => e z.symm)]
theorem nodup_at {α : Type} {xs : List α} (nd : xs.Nodup) {i j : Nat} (hi : i < xs.length) (hj : j < xs.length) (e : xs[i] = xs[j]) : i = j := by
  rcases Nat.lt_trichotomy i j with z | z | z
  · exact absurd e (List.pairwise_iff_getElem.mp nd i j hi hj z)
  · exact z
  · exact absurd e.symm (List.pairwise_iff_getElem.mp nd j i hj hi z)
theorem Links.put {H0 H : Hp} {L : Addr} {qs : List Addr} {lk : List (List Int)} {b : Nat} (k : Links H0 L qs lk b H) {i : Nat} {q : Addr} {r : List Int} {u : Int} (hq : qs[i]? = some q) (hr : lk[i]? = some r) : Links H0 L qs (lk.set i (r ++ [u])) (b + 1) (upd H q (.lst (r.map V.int ++ [.int u]))) := by
  have mq : q ∈ qs := List.mem_of_getElem? hq
  have hi : i < lk.length := (List.getElem?_eq_some_iff.mp hr).1
  have nq : L ≠ q := fun z => k.off (z ▸ mq)
  refine ⟨same_mut k.sm (k.new q mq), k.nL, by rw [upd_ne nq]; exact k.hL, by rw [List.length_set]; exact k.len, k.nd, k.new, k.off, fun j q' r' e1 e2 => ?_, fun r' hr' => ?_⟩
  · rw [List.getElem?_set] at e2
    split at e2
    · rename_i e
      subst e
      obtain rfl := Option.some.inj e2
      obtain rfl := Option.some.inj (hq.symm.trans e1)
      rw [upd_same, List.map_append]
      rfl
    · rename_i e
      have ne : q' ≠ q := fun z => by
        subst z
        obtain ⟨h1, z1⟩ := List.getElem?_eq_some_iff.mp hq
        obtain ⟨h2, z2⟩ := List.getElem?_eq_some_iff.mp e1
        exact e (nodup_at k.nd h1 h2 (z1.trans z2.symm))
      rw [upd_ne ne]
      exact k.it j q' r' e1 e2
  · rcases List.mem_or_eq_of_mem_set hr' with z | z
    · exact Nat.le_succ_of_le (k.few r' z)
    · rw [z, List.length_append]
      exact Nat.succ_le_succ (k.few r (List.mem_of_getElem? hr))
theorem Linked.put {rows lk : List (List Int)} {u j i : Nat} (k : Linked rows lk u j) (hi : i < lk.length) (hw : (rowAt rows u)[j]? = some (i : Int)) : Linked rows (lk.set i (rowAt lk i ++ [(u : Int)])) u (j + 1) := by
  intro v w
  have tk : (rowAt rows u).take (j + 1) = (rowAt rows u).take j ++ [(i : Int)] := by
    rw [List.take_succ, hw]
    rfl
  rw [row_set hi, tk, List.mem_append, List.mem_singleton]
  by_cases e : v = i
  · subst e
    rw [if_pos rfl, List.mem_append, List.mem_singleton, k v w]
    constructor
    · rintro ((z | z | ⟨z1, z2⟩) | z)
      · exact .inl z
      · exact .inr (.inl z)
      · exact .inr (.inr ⟨z1, .inl z2⟩)
      · exact .inr (.inr ⟨z, .inr rfl⟩)
    · rintro (z | z | ⟨z1, z2 | z2⟩)
      · exact .inl (.inl z)
      · exact .inl (.inr (.inl z))
      · exact .inl (.inr (.inr ⟨z1, z2⟩))
      · exact .inr z1
  · rw [if_neg e, k v w]
    constructor
    · rintro (z | z | ⟨z1, z2⟩)
      · exact .inl z
      · exact .inr (.inl z)
      · exact .inr (.inr ⟨z1, .inl z2⟩)
    · rintro (z | z | ⟨z1, z2 | z2⟩)
      · exact .inl z
      · exact .inr (.inl z)
      · exact .inr (.inr ⟨z1, z2⟩)
      · exact absurd (Int.ofNat.inj z2) e
theorem Linked.next {rows lk : List (List Int)} {u : Nat} (k : Linked rows lk u (rowAt rows u).length) : Linked rows lk (u + 1) 0 := by
  intro v w
  rw [k v w, List.take_length]
  constructor
  · rintro (z | ⟨u', h, z⟩ | ⟨z1, z2⟩)
    · exact .inl z
    · exact .inr (.inl ⟨u', by omega, z⟩)
    · exact .inr (.inl ⟨u, Nat.lt_succ_self _, z1, z2⟩)
  · rintro (z | ⟨u', h, z1, z2⟩ | ⟨z1, z2⟩)
    · exact .inl z
    · rcases Nat.lt_or_ge u' u with y | y
      · exact .inr (.inl ⟨u', y, z1, z2⟩)
      · obtain rfl : u' = u := by omega
        exact .inr (.inr ⟨z1, z2⟩)
    · exact absurd z2 List.not_mem_nil
theorem Linked.start (rows : List (List Int)) : Linked rows rows 0 0 := fun i w => ⟨.inl, fun z => by
  rcases z with z | ⟨u', h, _⟩ | ⟨_, z⟩
  · exact z
  · exact absurd h (Nat.not_lt_zero _)
  · exact absurd z List.not_mem_nil⟩
theorem Links.push {H0 H : Hp} {L q : Addr} {qs : List Addr} {lk : List (List Int)} {b : Nat} (k : Links H0 L qs lk b H) {r : List Int} (nq : H q = none) (hr : r.length ≤ b) : Links H0 L (qs ++ [q]) (lk ++ [r]) b (upd (upd H q (.lst (r.map V.int))) L (.lst (qs.map V.ref ++ [.ref q]))) := by
  have nLq : L ≠ q := fun z => by
    have := k.hL
    rw [z, nq] at this
    cases this
  have nq0 := none_of k.sm nq
  have off : ∀ q' ∈ qs, q' ≠ q := fun q' h z => by
    obtain ⟨i, hi, e⟩ := List.getElem_of_mem h
    have e1 : qs[i]? = some q' := by rw [← e]; exact List.getElem?_eq_getElem hi
    have e2 : lk[i]? = some (lk[i]'(k.len ▸ hi)) := List.getElem?_eq_getElem _
    have := k.it i q' _ e1 e2
    rw [z, nq] at this
    cases this
  refine ⟨same_mut (same_mut k.sm nq0) k.nL, k.nL, by rw [upd_same, List.map_append]; rfl, by rw [List.length_append, List.length_append, k.len]; rfl, ?_, fun q' h => ?_, fun h => ?_, fun i q' r' e1 e2 => ?_, fun r' h => ?_⟩
  · refine List.nodup_append.mpr ⟨k.nd, List.nodup_cons.mpr ⟨List.not_mem_nil, List.nodup_nil⟩, fun x hx y hy => ?_⟩
    rw [List.mem_singleton.mp hy]
    exact off x hx
  · rcases List.mem_append.mp h with z | z
    · exact k.new q' z
    · rw [List.mem_singleton.mp z]
      exact nq0
  · rcases List.mem_append.mp h with z | z
    · exact k.off z
    · exact nLq (List.mem_singleton.mp z)
  · rcases get_snoc e1 with z | ⟨z1, z2⟩
    · have m : q' ∈ qs := List.mem_of_getElem? z
      rw [upd_ne (fun y => k.off (by rw [← y]; exact m)), upd_ne (off q' m)]
      rcases get_snoc e2 with y | ⟨y1, _⟩
      · exact k.it i q' r' z y
      · have := (List.getElem?_eq_some_iff.mp z).1
        have := k.len
        omega
    · rcases get_snoc e2 with y | ⟨_, y2⟩
      · have := (List.getElem?_eq_some_iff.mp y).1
        have := k.len
        omega
      · rw [z2, y2, upd_ne (Ne.symm nLq), upd_same]
  · rcases List.mem_append.mp h with z | z
    · exact k.few r' z
    · rw [List.mem_singleton.mp z]
      exact hr
theorem Links.same {H0 H H' : Hp} {L : Addr} {qs : List Addr} {lk : List (List Int)} {b : Nat} (k : Links H0 L qs lk b H) (s : Same H H') : Links H0 L qs lk b H' :=
  ⟨k.sm.trans s, k.nL, s _ _ k.hL, k.len, k.nd, k.new, k.off, fun i q r e1 e2 => s _ _ (k.it i q r e1 e2), k.few⟩
theorem Links.more {H0 H : Hp} {L : Addr} {qs : List Addr} {lk : List (List Int)} {b c : Nat} (k : Links H0 L qs lk b H) (h : b ≤ c) : Links H0 L qs lk c H :=
  ⟨k.sm, k.nL, k.hL, k.len, k.nd, k.new, k.off, k.it, fun r hr => Nat.le_trans (k.few r hr) h⟩
/-- lk holds each row, and who holds whom -/
def Both (rows lk : List (List Int)) : Prop := lk.length = rows.length ∧ ∀ (i : Nat) (w : Int), w ∈ rowAt lk i ↔ w ∈ rowAt rows i ∨ ∃ u : Nat, u < rows.length ∧ w = u ∧ (i : Int) ∈ rowAt rows u
def spBoth (K : Frag) : Sp := fun vs H Q _ => ∃ (a : Addr) (rows : List (List Int)), vs = [.ref a] ∧ Grid K true H a rows ∧ rows.length ≤ 9 ∧ InRange rows ∧ (∀ r ∈ rows, r.length ≤ 9) ∧
  ∀ (L : Addr) (lk : List (List Int)) (H' : Hp), Same H H' → H L = none → Grid K false H' L lk → Both rows lk → InRange lk → Q (.ref L) H'
def spPieces (K : Frag) : Sp := fun vs H Q _ => ∃ (a : Addr) (rows : List (List Int)), vs = [.ref a] ∧ Grid K true H a rows ∧ rows.length ≤ 9 ∧ InRange rows ∧ (∀ r ∈ rows, r.length ≤ 9) ∧
  ∀ (p : Addr) (lk fs ks : List (List Int)) (H' : Hp), Same H H' → H p = none → Grid K true H' p ks → Both rows lk → Finds lk fs → KnotsOf fs ks → Q (.ref p) H'
section
variable {P : Program} {w : World} {K : Frag} {mg : Str → Option Value} {base : Heap}
theorem k_both_ways (B : Bl mg) (D : Dfn K mg "both_ways" sboth_ways ["pockets"]) : Kept P w K mg base 1 "both_ways" ["pockets"] (spBoth K) := by
  refine D.kept (N := Nboth_ways) scboth_ways (fun vs H Q E h => ?_) (fun f cdv A outer s H vs Q E hr h => ?_)
  · obtain ⟨a, rows, rfl, _⟩ := h
    rfl
  obtain ⟨a, rows, rfl, g, n9, hin, h9, q⟩ := h
  refine ⟨_, (pss_cons (ps_setLc (i := 1) (own := [("pocket", 2)]) (g := gName 2) (by rfl) scboth_ways.nd rfl rfl (sw_true rfl rfl rfl (by decide +kernel)) (pi_tup (pv 0)) (blkOk_by (own := [("pocket", 2)]) (N := Nboth_ways) (sc := defScope sboth_ways) (by decide +kernel)) (fun _ _ _ _ _ => (pg_name (i := 2) scboth_ways.nd rfl (Or.inl rfl))) (fun _ _ _ _ _ => pts_nil) (fun _ _ _ _ _ => (pe_callTy (listK (K := K) rfl) (by rfl) B.b_list (by decide +kernel) (pa_cons (pv 2) pa_nil))))
      (pss_cons (ps_for PassesOwn.never rfl (pi_enumT (K := K) rfl (by rfl) B.b_enumerate (pa_cons (pv 0) pa_nil)) (pg_tup rfl (pgs_cons (pg_name (i := 3) scboth_ways.nd rfl (Or.inl rfl)) (pgs_cons (pg_name (i := 2) scboth_ways.nd rfl (Or.inl rfl)) pgs_nil))) (pss_one (ps_for PassesOwn.never rfl (pi_tup (pv 2)) (pg_name (i := 4) scboth_ways.nd rfl (Or.inl rfl)) (pss_one (ps_expr (pe_bm PySem.F.plainAttrs_list PySem.F.slot_list_append PySem.F.type_list_append mt_append (pe_ix ix_list (pv 1) (pv 4) (fun _ _ => rfl)) (pa_cons (pv 3) pa_nil)))))))
      (pss_one (ps_ret (pv 1))))), ?_⟩
  obtain ⟨as, g1, g2, g3⟩ := g
  refine ⟨_, rfl, a, rfl, ⟨_, g1⟩, fun L nL => ?_⟩
  refine lc_tup (xs := as.map V.ref) (fun i H' => ∃ qs, Links H L qs (rows.take i) 9 H') ⟨[], same_new nL, nL, upd_same, rfl, List.nodup_nil, fun q h => absurd h List.not_mem_nil, List.not_mem_nil, fun i q r e => by simp at e, fun r h => absurd h List.not_mem_nil⟩ (fun i H' _ ⟨qs, k⟩ => k.sm.seqT g1) ?_ ?_
  · rintro i x H' hx ⟨qs, k⟩
    rw [List.getElem?_map] at hx
    obtain ⟨p, hp, rfl⟩ := Option.map_eq_some_iff.mp hx
    have hi := (List.getElem?_eq_some_iff.mp hp).1
    obtain ⟨r, hr'⟩ : ∃ r, rows[i]? = some r := ⟨_, List.getElem?_eq_getElem (by omega)⟩
    have tk : rows.take (i + 1) = rows.take i ++ [r] := by
      rw [List.take_succ, hr']
      rfl
    refine ⟨rfl, _, rfl, p, _, rfl, .inr (k.sm.seqT (g3 i p r hp hr')), fun t nt => ?_⟩
    have ne : L ≠ t := fun z => by
      have := k.hL
      rw [z, nt] at this
      cases this
    refine ⟨_, by rw [upd_ne ne]; exact k.hL, by rw [List.length_map, k.len, List.length_take]; exact len_lt (by omega), qs ++ [t], ?_⟩
    rw [tk]
    exact k.push nt (h9 r (List.mem_of_getElem? hr'))
  · rintro H1 ⟨qs, k⟩
    rw [List.length_map, g2, List.take_length] at k
    have hl := k.len
    refine ⟨_, rfl, a, _, rfl, k.sm.seqT g1, ?_⟩
    refine for_enumT (xs := as.map V.ref) (fun i σ H' => ∃ lk y2 y3 y4, σ = [some (.ref a), some (.ref L), y2, y3, y4] ∧ Links H L qs lk (9 + 9 * i) H' ∧ lk.length = rows.length ∧ Linked rows lk i 0) ⟨rows, none, none, none, rfl, k, rfl, Linked.start rows⟩ (fun i σ H' ⟨_, _, _, _, _, k', _⟩ => k'.sm.seqT g1) ?_ ?_
    · rintro i x T σ H' hx ⟨lk, y2, y3, y4, rfl, k', el, lm⟩ nT
      rw [List.getElem?_map] at hx
      obtain ⟨p, hp, rfl⟩ := Option.map_eq_some_iff.mp hx
      have hi := (List.getElem?_eq_some_iff.mp hp).1
      obtain ⟨r, hr'⟩ : ∃ r, rows[i]? = some r := ⟨_, List.getElem?_eq_getElem (by omega)⟩
      have er : rowAt rows (i : Nat) = r := by
        unfold rowAt
        rw [List.getD_eq_getElem?_getD, Int.toNat_natCast, hr']
        rfl
      have r9 := h9 r (List.mem_of_getElem? hr')
      have k2 := k'.same (same_new (o := .tup [.int (i : Nat), .ref p]) nT)
      refine ⟨T, _, rfl, SqT.of upd_same, rfl, _, _, rfl, _, _, rfl, rfl, ?_⟩
      generalize upd H' T (.tup [.int (i : Nat), .ref p]) = H2 at k2 ⊢
      have hpr := k2.sm.seqT (g3 i p r hp hr')
      refine ⟨_, rfl, p, rfl, ⟨_, hpr⟩, ?_⟩
      refine for_tup (xs := r.map V.int) (fun j σ H' => ∃ lk y4, σ = [some (.ref a), some (.ref L), some (.ref p), some (.int (i : Nat)), y4] ∧ Links H L qs lk (9 + 9 * i + j) H' ∧ lk.length = rows.length ∧ Linked rows lk i j) ⟨lk, y4, rfl, k2, el, lm⟩ (fun j σ H' _ ⟨_, _, _, k', _⟩ => k'.sm.seqT (g3 i p r hp hr')) ?_ ?_
      · rintro j x σ H3 hx ⟨lk2, z4, rfl, k3, el2, lm2⟩
        rw [List.getElem?_map] at hx
        obtain ⟨w0, hw0, rfl⟩ := Option.map_eq_some_iff.mp hx
        have hj := (List.getElem?_eq_some_iff.mp hw0).1
        have hwr := row_range hin (v := (i : Nat)) (w := w0) (by rw [er]; exact List.mem_of_getElem? hw0)
        obtain ⟨q1, hq1⟩ : ∃ q1, qs[w0.toNat]? = some q1 := ⟨_, List.getElem?_eq_getElem (by omega)⟩
        obtain ⟨r1, hr1⟩ : ∃ r1, lk2[w0.toNat]? = some r1 := ⟨_, List.getElem?_eq_getElem (by omega)⟩
        have ew : w0 = ((w0.toNat : Nat) : Int) := by omega
        have hat : atI (qs.map V.ref) w0 = some (V.ref q1) := by
          rw [ew]
          refine atI_nat ?_
          rw [List.getElem?_map, hq1]
          rfl
        have hq := k3.it _ _ _ hq1 hr1
        have few := k3.few r1 (List.mem_of_getElem? hr1)
        refine ⟨_, rfl, _, rfl, L, _, _, .ref q1, rfl, rfl, SqL.of k3.hL, hat, .inl ⟨rfl, _, SqL.of hq⟩, _, rfl, q1, _, _, rfl, rfl, hq, by rw [List.length_map]; exact len_lt (by omega), ?_⟩
        have e1 : rowAt lk2 (w0.toNat : Nat) = r1 := by
          unfold rowAt
          rw [List.getD_eq_getElem?_getD, Int.toNat_natCast, hr1]
          rfl
        refine ⟨lk2.set w0.toNat (r1 ++ [(i : Int)]), _, rfl, k3.put hq1 hr1, by rw [List.length_set]; exact el2, ?_⟩
        have z := lm2.put (i := w0.toNat) (by omega) (by rw [er, hw0]; exact congrArg some ew)
        rw [e1] at z
        exact z
      · rintro σ H3 ⟨lk2, z4, rfl, k3, el2, lm2⟩
        rw [List.length_map] at k3 lm2
        refine ⟨lk2, _, _, _, rfl, k3.more (by omega), el2, ?_⟩
        rw [← er] at lm2
        exact lm2.next
    · rintro σ H2 ⟨lk, y2, y3, y4, rfl, k', el, lm⟩
      rw [List.length_map, g2] at lm
      have both : Both rows lk := ⟨el, fun i w => by
        rw [lm i w]
        constructor
        · rintro (z | z | ⟨_, z⟩)
          · exact .inl z
          · exact .inr z
          · exact absurd z List.not_mem_nil
        · rintro (z | z)
          · exact .inl z
          · exact .inr (.inl z)⟩
      have hin2 : InRange lk := fun r hr w hw => by
        obtain ⟨i, hi, e⟩ := List.getElem_of_mem hr
        have e1 : rowAt lk (i : Nat) = r := by
          unfold rowAt
          rw [List.getD_eq_getElem?_getD, Int.toNat_natCast, List.getElem?_eq_getElem hi, e]
          rfl
        rw [el]
        rw [← e1] at hw
        rcases (both.2 i w).mp hw with z | ⟨u, hu, rfl, _⟩
        · exact row_range hin z
        · exact ⟨by omega, by omega⟩
      exact ⟨_, rfl, q L lk H2 k'.sm k'.nL ⟨qs, SqL.of k'.hL, k'.len, fun i q r e1 e2 => SqL.of (k'.it i q r e1 e2)⟩ both hin2⟩
theorem k_pieces_among (B : Bl mg) (D : Dfn K mg "pieces_among" spieces_among ["pockets"]) (Gboth_ways : Kept P w K mg base 1 "both_ways" ["pockets"] (spBoth K)) (Gall_found : Kept P w K mg base 3 "all_found" ["pockets"] (spAll K)) (Gknots_among : Kept P w K mg base 2 "knots_among" ["found"] (spKnots K)) : Kept P w K mg base 4 "pieces_among" ["pockets"] (spPieces K) := by
  refine D.kept (N := Npieces_among) scpieces_among (fun vs H Q E h => ?_) (fun f cdv A outer s H vs Q E hr h => ?_)
  · obtain ⟨a, rows, rfl, _⟩ := h
    rfl
  obtain ⟨a, rows, rfl, g, n9, hin, h9, q⟩ := h
  refine ⟨_, (pss_one (ps_ret (pe_k Gknots_among (hr.mono (by first | decide | omega)) (by rfl) (pa_cons (pe_k Gall_found (hr.mono (by first | decide | omega)) (by rfl) (pa_cons (pe_k Gboth_ways (hr.mono (by first | decide | omega)) (by rfl) (pa_cons (pv 0) pa_nil)) pa_nil)) pa_nil)))), ?_⟩
  refine ⟨_, rfl, a, rows, rfl, g, n9, hin, h9, fun L lk H2 s2 nL gL both hin2 => ?_⟩
  have el := both.1
  refine ⟨false, L, lk, rfl, gL, by omega, hin2, fun p fs H3 s3 np gf ff => ?_⟩
  have rowf : ∀ i : Nat, i < fs.length → fs[i]? = some (rowAt fs (i : Nat)) := fun i hi => by
    unfold rowAt
    rw [List.getD_eq_getElem?_getD, Int.toNat_natCast, List.getElem?_eq_getElem hi]
    rfl
  refine ⟨p, fs, rfl, gf, by rw [ff.1]; omega, fun f hf w hw => ?_, fun f hf => ?_, fun u hu => ?_, fun p2 ks H4 s4 np2 gk kk => ?_⟩
  · obtain ⟨i, hi, e⟩ := List.getElem_of_mem hf
    have z := ff.2 i f (by rw [← e]; exact List.getElem?_eq_getElem hi)
    have y := ((z.2.1 w).mp hw).range hin2 ⟨by omega, by have := ff.1; omega⟩
    rw [ff.1]
    exact y
  · obtain ⟨i, hi, e⟩ := List.getElem_of_mem hf
    exact (ff.2 i f (by rw [← e]; exact List.getElem?_eq_getElem hi)).2.2
  · exact ((ff.2 u _ (rowf u hu)).2.1 u).mpr .refl
  · exact q p2 lk fs ks H4 (s2.trans (s3.trans s4)) (none_of s2 (none_of s3 np2)) gk both ff kk
end
end Lw

set_option maxHeartbeats 4000000
namespace Lw
open PySem PySem.Spec PyProof.Rows L2 EF Hn
open PySem.W (Frag keepIn)
/-- the cards of a pocket; the pockets of a web -/
def cardsOf : PyData → List Int
  | .tuple es => es.map intOf
  | _ => []
def webRows : PyData → List (List Int)
  | .tuple ps => ps.map cardsOf
  | _ => []
theorem asc_pairwise : ∀ {ns : List Int}, asc ns = true → ns.Pairwise (· < ·)
  | [], _ => .nil
  | [_], _ => List.pairwise_singleton _ _
  | x :: y :: r, h => by
    obtain ⟨h1, h2⟩ := (Bool.and_eq_true _ _).mp (show (decide (x < y) && asc (y :: r)) = true from h)
    have ih := asc_pairwise h2
    have hxy := of_decide_eq_true h1
    refine List.pairwise_cons.mpr ⟨fun z hz => ?_, ih⟩
    rcases List.mem_cons.mp hz with rfl | hz
    · exact hxy
    · exact Int.lt_trans hxy ((List.pairwise_cons.mp ih).1 z hz)
/-- a web, as rows of ints -/
structure WebRows (rows : List (List Int)) : Prop where
  one : 1 ≤ rows.length
  nine : rows.length ≤ 9
  rng : InRange rows
  up : ∀ r ∈ rows, r.Pairwise (· < ·)
  own : ∀ (i : Nat) (r : List Int), rows[i]? = some r → (i : Int) ∉ r
  few : ∀ r ∈ rows, r.length ≤ 9
theorem pocket_rows {N : Addr → Prop} {H : Hp} {K : Frag} {u m : Int} {d : PyData} {x : V} (h : pocketB u m d = true) (r : Rep N H d x) : ∃ p, x = .ref p ∧ SqT K H p ((cardsOf d).map V.int) ∧ (cardsOf d).Pairwise (· < ·) ∧ u ∉ cardsOf d ∧ ∀ w ∈ cardsOf d, 0 ≤ w ∧ w < m := by
  cases d with
  | tuple ds =>
    obtain ⟨h1, h2⟩ := (Bool.and_eq_true _ _).mp (show ((ds.all fun d => perB m d && !decide (intOf d = u)) && asc (ds.map intOf)) = true from h)
    obtain ⟨p, xs, rfl, hp, rl⟩ := r
    have e := pers_ints h1
    rw [e] at rl
    have ex := rl.ints
    refine ⟨p, rfl, ?_, asc_pairwise h2, fun hu => ?_, fun w hw => ?_⟩
    · show SqT K H p ((ds.map intOf).map V.int)
      rw [← ex]
      exact SqT.of hp
    · obtain ⟨d, hd, ed⟩ := List.mem_map.mp hu
      have z := List.all_eq_true.mp h1 d hd
      rw [ed, decide_eq_true rfl, Bool.not_true, Bool.and_false] at z
      cases z
    · obtain ⟨d, hd, ed⟩ := List.mem_map.mp hw
      have z := ((Bool.and_eq_true _ _).mp (List.all_eq_true.mp h1 d hd)).1
      cases d with
      | int i =>
        obtain ⟨z1, z2⟩ := (Bool.and_eq_true _ _).mp (show (decide (0 ≤ i) && decide (i < m)) = true from z)
        rw [← ed]
        exact ⟨of_decide_eq_true z1, of_decide_eq_true z2⟩
      | _ => cases z
  | _ => cases h
theorem pockets_at {m : Int} : ∀ {ps : List PyData} {u : Nat}, pocketsB m u ps = true → ∀ (i : Nat) (p : PyData), ps[i]? = some p → pocketB ((u + i : Nat) : Int) m p = true
  | [], _, _, i, p, e => by cases e
  | q :: ps, u, h, 0, p, e => by
    obtain rfl := Option.some.inj (show some q = some p from e)
    exact ((Bool.and_eq_true _ _).mp (show (pocketB (u : Int) m q && pocketsB m (u + 1) ps) = true from h)).1
  | q :: ps, u, h, i + 1, p, e => by
    have z := pockets_at ((Bool.and_eq_true _ _).mp (show (pocketB (u : Int) m q && pocketsB m (u + 1) ps) = true from h)).2 i p e
    rw [show u + (i + 1) = u + 1 + i by omega]
    exact z
theorem web_rows {N : Addr → Prop} {H : Hp} {K : Frag} {d : PyData} {x : V} (h : webB d = true) (r : Rep N H d x) : ∃ a, x = .ref a ∧ Grid K true H a (webRows d) ∧ WebRows (webRows d) := by
  cases d with
  | tuple ps =>
    obtain ⟨h0, h2⟩ := (Bool.and_eq_true _ _).mp (show ((decide (1 ≤ ps.length) && decide (ps.length ≤ 9)) && pocketsB (ps.length : Int) 0 ps) = true from h)
    obtain ⟨h01, h02⟩ := (Bool.and_eq_true _ _).mp h0
    have n1 := of_decide_eq_true h01
    have n9 := of_decide_eq_true h02
    obtain ⟨a, xs, rfl, ha, rl⟩ := r
    have hl := rl.length
    have pk : ∀ (i : Nat) (p : PyData), ps[i]? = some p → ∃ q, xs[i]? = some (.ref q) ∧ SqT K H q ((cardsOf p).map V.int) ∧ (cardsOf p).Pairwise (· < ·) ∧ (i : Int) ∉ cardsOf p ∧ ∀ w ∈ cardsOf p, 0 ≤ w ∧ w < (ps.length : Int) := fun i p e => by
      obtain ⟨y, hy, ry⟩ := rl.at e
      have z := pockets_at h2 i p e
      rw [Nat.zero_add] at z
      obtain ⟨q, rfl, z1, z2, z3, z4⟩ := pocket_rows (K := K) z ry
      exact ⟨q, hy, z1, z2, z3, z4⟩
    have hrow : ∀ r ∈ ps.map cardsOf, ∃ (i : Nat) (p : PyData), ps[i]? = some p ∧ r = cardsOf p := fun r hr => by
      obtain ⟨p, hp, e⟩ := List.mem_map.mp hr
      obtain ⟨i, hi, e2⟩ := List.getElem_of_mem hp
      exact ⟨i, p, by rw [← e2]; exact List.getElem?_eq_getElem hi, e.symm⟩
    have rng : InRange (ps.map cardsOf) := fun r hr w hw => by
      obtain ⟨i, p, e, rfl⟩ := hrow r hr
      obtain ⟨_, _, _, _, _, z⟩ := pk i p e
      rw [List.length_map]
      exact z w hw
    refine ⟨a, rfl, ?_, ⟨by show 1 ≤ (ps.map cardsOf).length; rw [List.length_map]; exact n1, by show (ps.map cardsOf).length ≤ 9; rw [List.length_map]; exact n9, rng, fun r hr => ?_, fun i r hr => ?_, fun r hr => ?_⟩⟩
    · refine ⟨xs.map fun y => match y with | .ref q => q | _ => 0, ?_, ?_, fun i q r e1 e2 => ?_⟩
      · have e : ((xs.map fun y => match y with | V.ref q => q | _ => 0).map V.ref) = xs := by
          rw [List.map_map]
          refine List.ext_getElem? fun i => ?_
          rw [List.getElem?_map]
          cases e : xs[i]? with
          | none => rfl
          | some y =>
            obtain ⟨p, hp⟩ : ∃ p, ps[i]? = some p := ⟨_, List.getElem?_eq_getElem (by have := (List.getElem?_eq_some_iff.mp e).1; omega)⟩
            obtain ⟨q, hq, _⟩ := pk i p hp
            obtain rfl := Option.some.inj (e.symm.trans hq)
            rfl
        show SqT K H a _
        rw [e]
        exact SqT.of ha
      · show _ = (ps.map cardsOf).length
        rw [List.length_map, List.length_map, hl]
      · have e2' : (ps.map cardsOf)[i]? = some r := e2
        rw [List.getElem?_map] at e1 e2'
        obtain ⟨y, hy, e1⟩ := Option.map_eq_some_iff.mp e1
        obtain ⟨p, hp, rfl⟩ := Option.map_eq_some_iff.mp e2'
        obtain ⟨q', hq, z, _⟩ := pk i p hp
        obtain rfl := Option.some.inj (hy.symm.trans hq)
        obtain rfl : q' = q := e1
        exact z
    · obtain ⟨i, p, e, rfl⟩ := hrow r hr
      obtain ⟨_, _, _, z, _⟩ := pk i p e
      exact z
    · have hr' : (ps.map cardsOf)[i]? = some r := hr
      rw [List.getElem?_map] at hr'
      obtain ⟨p, hp, rfl⟩ := Option.map_eq_some_iff.mp hr'
      obtain ⟨_, _, _, _, z, _⟩ := pk i p hp
      exact z
    · obtain ⟨i, p, e, rfl⟩ := hrow r hr
      obtain ⟨_, _, _, z, _, y⟩ := pk i p e
      exact Nat.le_trans (few_below (z.imp fun h => Int.ne_of_lt h) y) n9
  | _ => cases h
/-- what the text says of the error -/
structure TX (K : Frag) (mg : Str → Option Value) (C : Addr) : Prop where
  ENoWeb : Err K mg "NoWeb" C
/-- told of a web; an error for what is none -/
def spAsk (C : Addr) (R : Hp → PyData → V → Hp → Prop) : Sp := fun vs H Q E => ∃ (N : Addr → Prop) (d : PyData) (x : V), vs = [x] ∧ Rep N H d x ∧ fit d ∧ (webB d = true → ∀ y H', Same H H' → R H d y H' → Q y H') ∧ (webB d = false → ∀ H', Same H H' → E (.ref C) none H')
def tellNone : Hp → PyData → V → Hp → Prop := fun _ _ y _ => y = .non
def tellFinds (K : Frag) : Hp → PyData → V → Hp → Prop := fun H d y H' => ∃ p fs, y = .ref p ∧ H p = none ∧ Grid K true H' p fs ∧ Finds (webRows d) fs
def tellPieces (K : Frag) : Hp → PyData → V → Hp → Prop := fun H d y H' => ∃ p lk fs ks, y = .ref p ∧ H p = none ∧ Grid K true H' p ks ∧ Both (webRows d) lk ∧ Finds lk fs ∧ KnotsOf fs ks
def tellKnots (K : Frag) : Hp → PyData → V → Hp → Prop := fun H d y H' => ∃ p fs ks, y = .ref p ∧ H p = none ∧ Grid K true H' p ks ∧ Finds (webRows d) fs ∧ KnotsOf fs ks
section
variable {P : Program} {w : World} {K : Frag} {mg : Str → Option Value} {base : Heap} {C : Addr}
theorem k_check_web (B : Bl mg) (T : TX K mg C) (D : Dfn K mg "check_web" scheck_web ["thing"]) (Gis_web : Kept P w K mg base 5 "is_web" ["thing"] spWeb) : KeptX P w K mg base 6 "check_web" ["thing"] (spAsk C tellNone) := by
  refine D.keptX (N := Ncheck_web) sccheck_web (fun vs H Q E h => ?_) (fun f cdv A outer s H vs Q E hr h => ?_)
  · obtain ⟨N, d, x, rfl, _⟩ := h
    rfl
  obtain ⟨N, d, x, rfl, r, sh, q, e⟩ := h
  refine ⟨_, (pss_one (ps_if (pt_not (pt_val (pe_k Gis_web (hr.mono (by first | decide | omega)) (by rfl) (pa_cons (pv 0) pa_nil)))) (pss_one (ps_raise rfl (takes_of rfl rfl rfl rfl) (pmk_own0 T.ENoWeb (by rfl)))) pss_nil)), ?_⟩
  refine ⟨x, rfl, N, d, x, rfl, r, sh, fun H' sm => ⟨_, rfl, ite2 (fun e1 => ?_) (fun e1 => ?_)⟩⟩
  · have z : webB d = false := by
      cases y : webB d with
      | false => rfl
      | true =>
        rw [y] at e1
        cases e1
    exact e z H' sm
  · have z : webB d = true := by
      cases y : webB d with
      | true => rfl
      | false =>
        rw [y] at e1
        exact absurd rfl e1
    exact q z .non H' sm rfl
theorem finds_self {rows fs : List (List Int)} (f : Finds rows fs) {u : Nat} (hu : u < fs.length) : (u : Int) ∈ rowAt fs u := by
  have e : fs[u]? = some (rowAt fs (u : Nat)) := by
    unfold rowAt
    rw [List.getD_eq_getElem?_getD, Int.toNat_natCast, List.getElem?_eq_getElem hu]
    rfl
  exact ((f.2 u _ e).2.1 u).mpr .refl
theorem finds_rows {rows fs : List (List Int)} (f : Finds rows fs) (h : InRange rows) : InRange fs ∧ ∀ r ∈ fs, r.length ≤ 9 := by
  refine ⟨fun r hr w hw => ?_, fun r hr => ?_⟩
  · obtain ⟨i, hi, e⟩ := List.getElem_of_mem hr
    have z := f.2 i r (by rw [← e]; exact List.getElem?_eq_getElem hi)
    rw [f.1]
    exact ((z.2.1 w).mp hw).range h ⟨by omega, by have := f.1; omega⟩
  · obtain ⟨i, hi, e⟩ := List.getElem_of_mem hr
    exact (f.2 i r (by rw [← e]; exact List.getElem?_eq_getElem hi)).2.2
theorem k_finds (B : Bl mg) (D : Dfn K mg "finds" sfinds ["web"]) (Gcheck_web : KeptX P w K mg base 6 "check_web" ["thing"] (spAsk C tellNone)) (Gall_found : Kept P w K mg base 3 "all_found" ["pockets"] (spAll K)) : KeptX P w K mg base 7 "finds" ["web"] (spAsk C (tellFinds K)) := by
  refine D.keptX (N := Nfinds) scfinds (fun vs H Q E h => ?_) (fun f cdv A outer s H vs Q E hr h => ?_)
  · obtain ⟨N, d, x, rfl, _⟩ := h
    rfl
  obtain ⟨N, d, x, rfl, r, sh, q, e⟩ := h
  refine ⟨_, (pss_cons (ps_expr (pe_kx Gcheck_web (hr.mono (by first | decide | omega)) (by rfl) (fun σ => passAt (takes_of rfl rfl rfl rfl) σ) (pa_cons (pv 0) pa_nil)))
      (pss_one (ps_ret (pe_k Gall_found (hr.mono (by first | decide | omega)) (by rfl) (pa_cons (pv 0) pa_nil))))), ?_⟩
  refine ⟨x, rfl, N, d, x, rfl, r, sh, fun z y H' sm ey => ?_, e⟩
  obtain ⟨a, rfl, g, wr⟩ := web_rows (K := K) z r
  exact ⟨_, rfl, true, a, webRows d, rfl, g.same sm, wr.nine, wr.rng, fun p fs H2 s2 np gf ff => q z _ H2 (sm.trans s2) ⟨p, fs, rfl, none_of sm np, gf, ff⟩⟩
theorem k_pieces (B : Bl mg) (D : Dfn K mg "pieces" spieces ["web"]) (Gcheck_web : KeptX P w K mg base 6 "check_web" ["thing"] (spAsk C tellNone)) (Gpieces_among : Kept P w K mg base 4 "pieces_among" ["pockets"] (spPieces K)) : KeptX P w K mg base 7 "pieces" ["web"] (spAsk C (tellPieces K)) := by
  refine D.keptX (N := Npieces) scpieces (fun vs H Q E h => ?_) (fun f cdv A outer s H vs Q E hr h => ?_)
  · obtain ⟨N, d, x, rfl, _⟩ := h
    rfl
  obtain ⟨N, d, x, rfl, r, sh, q, e⟩ := h
  refine ⟨_, (pss_cons (ps_expr (pe_kx Gcheck_web (hr.mono (by first | decide | omega)) (by rfl) (fun σ => passAt (takes_of rfl rfl rfl rfl) σ) (pa_cons (pv 0) pa_nil)))
      (pss_one (ps_ret (pe_k Gpieces_among (hr.mono (by first | decide | omega)) (by rfl) (pa_cons (pv 0) pa_nil))))), ?_⟩
  refine ⟨x, rfl, N, d, x, rfl, r, sh, fun z y H' sm ey => ?_, e⟩
  obtain ⟨a, rfl, g, wr⟩ := web_rows (K := K) z r
  exact ⟨_, rfl, a, webRows d, rfl, g.same sm, wr.nine, wr.rng, wr.few, fun p lk fs ks H2 s2 np gk bo ff kk => q z _ H2 (sm.trans s2) ⟨p, lk, fs, ks, rfl, none_of sm np, gk, bo, ff, kk⟩⟩
theorem k_knots (B : Bl mg) (D : Dfn K mg "knots" sknots ["web"]) (Gcheck_web : KeptX P w K mg base 6 "check_web" ["thing"] (spAsk C tellNone)) (Gall_found : Kept P w K mg base 3 "all_found" ["pockets"] (spAll K)) (Gknots_among : Kept P w K mg base 2 "knots_among" ["found"] (spKnots K)) : KeptX P w K mg base 7 "knots" ["web"] (spAsk C (tellKnots K)) := by
  refine D.keptX (N := Nknots) scknots (fun vs H Q E h => ?_) (fun f cdv A outer s H vs Q E hr h => ?_)
  · obtain ⟨N, d, x, rfl, _⟩ := h
    rfl
  obtain ⟨N, d, x, rfl, r, sh, q, e⟩ := h
  refine ⟨_, (pss_cons (ps_expr (pe_kx Gcheck_web (hr.mono (by first | decide | omega)) (by rfl) (fun σ => passAt (takes_of rfl rfl rfl rfl) σ) (pa_cons (pv 0) pa_nil)))
      (pss_one (ps_ret (pe_k Gknots_among (hr.mono (by first | decide | omega)) (by rfl) (pa_cons (pe_k Gall_found (hr.mono (by first | decide | omega)) (by rfl) (pa_cons (pv 0) pa_nil)) pa_nil))))), ?_⟩
  refine ⟨x, rfl, N, d, x, rfl, r, sh, fun z y H' sm ey => ?_, e⟩
  obtain ⟨a, rfl, g, wr⟩ := web_rows (K := K) z r
  refine ⟨_, rfl, true, a, webRows d, rfl, g.same sm, wr.nine, wr.rng, fun p fs H2 s2 np gf ff => ?_⟩
  obtain ⟨z1, z2⟩ := finds_rows ff wr.rng
  exact ⟨p, fs, rfl, gf, by rw [ff.1]; exact wr.nine, z1, z2, fun u hu => finds_self ff hu, fun p2 ks H3 s3 np2 gk kk => q z _ H3 (sm.trans (s2.trans s3)) ⟨p2, fs, ks, rfl, none_of sm (none_of s2 np2), gk, ff, kk⟩⟩
end
end Lw

set_option maxHeartbeats 4000000
namespace Lw
open PySem PySem.Spec PyProof.Rows L2 EF Hn
open PySem.W (Frag keepIn)
abbrev s_law_is_int : Stmt := top 31
abbrev N_law_is_int : List Str := ["thing", "least", "most"]
theorem sc_law_is_int : FnScope N_law_is_int ["thing", "least", "most"] (defScope s_law_is_int) := ⟨rfl, rfl, rfl, by decide +kernel, rfl, by decide +kernel, by decide +kernel⟩
abbrev s_law_is_web : Stmt := top 34
abbrev N_law_is_web : List Str := ["thing", "person", "pocket", "other", "one"]
theorem sc_law_is_web : FnScope N_law_is_web ["thing"] (defScope s_law_is_web) := ⟨rfl, rfl, rfl, by decide +kernel, rfl, by decide +kernel, by decide +kernel⟩
section
variable {P : Program} {w : World} {K : Frag} {mg : Str → Option Value} {base : Heap}
theorem k_is_int (B : Bl mg) (D : Dfn K mg "_law_is_int" s_law_is_int ["thing", "least", "most"]) : Kept P w K mg base 1 "_law_is_int" ["thing", "least", "most"] spBet := by
  refine D.kept (N := N_law_is_int) sc_law_is_int (fun vs H Q E h => ?_) (fun f cdv A outer s H vs Q E hr h => ?_)
  · obtain ⟨N, d, x, l, m, rfl, _⟩ := h
    rfl
  obtain ⟨N, d, x, l, m, rfl, r, q⟩ := h
  refine ⟨_, (pss_one (ps_ret (pe_and (pe_callB call_isi (by rfl) B.b_isinstance (by decide +kernel) (pa_cons (pv 0) (pa_cons (pe_bltn (v := .ty "int") (by rfl) B.b_int (by decide +kernel) rfl) pa_nil))) (pe_and (pe_not (pe_callB call_isi (by rfl) B.b_isinstance (by decide +kernel) (pa_cons (pv 0) (pa_cons (pe_bltn (v := .ty "bool") (by rfl) B.b_bool (by decide +kernel) rfl) pa_nil)))) (pe_one (pe_chain op_le op_le (pv 1) (pv 0) (pv 2))))))), ?_⟩
  have z := q H (Same.refl H)
  refine ⟨x, rfl, x, _, _, _, isIntD d, rfl, .ty _, r.ty, kit_ty (kit_int d), _, rfl, ite2 (fun e => ?_) (fun e => ?_)⟩
  · refine ⟨x, rfl, x, _, _, _, isBoolD d, rfl, .ty _, r.ty, kit_ty (kit_bool d), _, rfl, ?_⟩
    cases d with
    | int i =>
      obtain rfl : x = V.int i := r
      refine ⟨_, rfl, ?_⟩
      refine ite2 (fun _ => ⟨_, rfl, _, rfl, _, _, rfl, rfl, _, rfl, ite2 (fun e1 => ?_) (fun e1 => ?_)⟩) (fun n => absurd rfl n)
      · refine ⟨_, rfl, _, _, rfl, rfl, ?_⟩
        have y : betB l m (.int i) = decide (i ≤ m) := by
          show (decide (l ≤ i) && decide (i ≤ m)) = _
          rw [show decide (l ≤ i) = true from e1, Bool.true_and]
        rw [y] at z
        exact z
      · have y : betB l m (.int i) = false := by
          show (decide (l ≤ i) && decide (i ≤ m)) = _
          rw [show decide (l ≤ i) = false from Bool.eq_false_iff.mpr e1, Bool.false_and]
        rw [y] at z
        exact z
    | bool b => exact ⟨_, rfl, ite2 (fun n => by cases n) (fun _ => z)⟩
    | _ => cases e
  · cases d with
    | int i => exact absurd rfl e
    | _ => exact z
theorem pockets_all {m : Int} : ∀ {ps : List PyData} {u : Nat}, (∀ (i : Nat) (p : PyData), ps[i]? = some p → pocketB ((u + i : Nat) : Int) m p = true) → pocketsB m u ps = true
  | [], _, _ => rfl
  | q :: ps, u, h => by
    show (pocketB (u : Int) m q && pocketsB m (u + 1) ps) = true
    rw [Bool.and_eq_true]
    refine ⟨h 0 q rfl, pockets_all fun i p e => ?_⟩
    have z := h (i + 1) p e
    rw [show u + (i + 1) = u + 1 + i by omega] at z
    exact z
theorem web_no {ps : List PyData} {i : Nat} {p : PyData} (hp : ps[i]? = some p) (n : pocketB (i : Int) (ps.length : Int) p = false) : webB (.tuple ps) = false := by
  cases e : webB (.tuple ps) with
  | false => rfl
  | true =>
    have z := pockets_at ((Bool.and_eq_true _ _).mp (show ((decide (1 ≤ ps.length) && decide (ps.length ≤ 9)) && pocketsB (ps.length : Int) 0 ps) = true from e)).2 i p hp
    rw [Nat.zero_add, n] at z
    cases z
theorem bet_ints {m : Int} : ∀ {es : List PyData}, es.all (betB 0 m) = true → es = (es.map intOf).map PyData.int ∧ ∀ w ∈ es.map intOf, 0 ≤ w ∧ w ≤ m
  | [], _ => ⟨rfl, fun w h => absurd h List.not_mem_nil⟩
  | d :: es, h => by
    rw [List.all_cons, Bool.and_eq_true] at h
    obtain ⟨ih1, ih2⟩ := bet_ints (es := es) h.2
    cases d with
    | int i =>
      obtain ⟨z1, z2⟩ := (Bool.and_eq_true _ _).mp (show (decide (0 ≤ i) && decide (i ≤ m)) = true from h.1)
      refine ⟨?_, fun w hw => ?_⟩
      · show PyData.int i :: es = PyData.int i :: (es.map intOf).map PyData.int
        rw [← ih1]
      · rcases List.mem_cons.mp hw with rfl | hw
        · exact ⟨of_decide_eq_true z1, of_decide_eq_true z2⟩
        · exact ih2 w hw
    | _ => cases h.1
theorem pocket_not_all {u m : Int} : ∀ {es : List PyData}, es.all (betB 0 (m - 1)) = false → pocketB u m (.tuple es) = false := fun {es} h => by
  have : es.all (fun d => perB m d && !decide (intOf d = u)) = false := by
    cases e : es.all (fun d => perB m d && !decide (intOf d = u)) with
    | false => rfl
    | true =>
      have : es.all (betB 0 (m - 1)) = true := List.all_eq_true.mpr fun d hd => by
        have z := ((Bool.and_eq_true _ _).mp (List.all_eq_true.mp e d hd)).1
        cases d with
        | int i =>
          obtain ⟨z1, z2⟩ := (Bool.and_eq_true _ _).mp (show (decide (0 ≤ i) && decide (i < m)) = true from z)
          have z3 := of_decide_eq_true z2
          show (decide (0 ≤ i) && decide (i ≤ m - 1)) = true
          rw [z1, decide_eq_true (by omega : i ≤ m - 1)]
          rfl
        | _ => cases z
      rw [h] at this
      cases this
  show (es.all _ && _) = false
  rw [this, Bool.false_and]
theorem pocket_ints {u m : Int} {es : List PyData} (en : es = (es.map intOf).map PyData.int) (rng : ∀ w ∈ es.map intOf, 0 ≤ w ∧ w ≤ m - 1) : pocketB u m (.tuple es) = (!decide (u ∈ es.map intOf) && asc (es.map intOf)) := by
  show (es.all (fun d => perB m d && !decide (intOf d = u)) && asc (es.map intOf)) = _
  congr 1
  rw [Bool.eq_iff_iff, List.all_eq_true, Bool.not_eq_true', decide_eq_false_iff_not]
  constructor
  · intro h hu
    obtain ⟨d, hd, e⟩ := List.mem_map.mp hu
    have z := ((Bool.and_eq_true _ _).mp (h d hd)).2
    rw [decide_eq_true e] at z
    cases z
  · intro h d hd
    have hm : intOf d ∈ es.map intOf := List.mem_map.mpr ⟨d, hd, rfl⟩
    have z := rng _ hm
    have e2 : ∃ k, d = .int k := by
      rw [en] at hd
      obtain ⟨k, _, e⟩ := List.mem_map.mp hd
      exact ⟨k, e.symm⟩
    obtain ⟨k, rfl⟩ := e2
    have ne : ¬ k = u := fun e => h (e ▸ hm)
    show ((decide (0 ≤ k) && decide (k < m)) && !decide (k = u)) = true
    have z1 : 0 ≤ k := z.1
    have z2 : k ≤ m - 1 := z.2
    rw [decide_eq_true z1, decide_eq_true (by omega : k < m), decide_eq_false ne]
    rfl
theorem k_law_web_is (B : Bl mg) (D : Dfn K mg "_law_is_web" s_law_is_web ["thing"]) (G_law_is_int : Kept P w K mg base 1 "_law_is_int" ["thing", "least", "most"] spBet) : Kept P w K mg base 2 "_law_is_web" ["thing"] spWeb := by
  refine D.kept (N := N_law_is_web) sc_law_is_web (fun vs H Q E h => ?_) (fun f cdv A outer s H vs Q E hr h => ?_)
  · obtain ⟨N, d, x, rfl, _⟩ := h
    rfl
  obtain ⟨N, d, x, rfl, r, sh, q⟩ := h
  refine ⟨_, (pss_cons (ps_if (pw_or (pt_not (pt_val (pe_callB call_isi (by rfl) B.b_isinstance (by decide +kernel) (pa_cons (pv 0) (pa_cons (pe_bltn (v := .ty "tuple") (by rfl) B.b_tuple (by decide +kernel) rfl) pa_nil))))) (pw_or1 (pt_not (pt_chain op_lt op_lt pe_int (pe_callB call_len_seq (by rfl) B.b_len PySem.boot_len (pa_cons (pv 0) pa_nil)) pe_int)))).pt (pss_one (ps_ret pe_bl)) pss_nil)
      (pss_cons (ps_for PassesOwn.never rfl (pi_enumT (K := K) rfl (by rfl) B.b_enumerate (pa_cons (pv 0) pa_nil)) (pg_tup rfl (pgs_cons (pg_name (i := 1) sc_law_is_web.nd rfl (Or.inl rfl)) (pgs_cons (pg_name (i := 2) sc_law_is_web.nd rfl (Or.inl rfl)) pgs_nil))) (pss_cons (ps_if (pw_or (pt_not (pt_val (pe_callB call_isi (by rfl) B.b_isinstance (by decide +kernel) (pa_cons (pv 2) (pa_cons (pe_bltn (v := .ty "tuple") (by rfl) B.b_tuple (by decide +kernel) rfl) pa_nil))))) (pw_or1 (pt_not (pt_val (pe_callB (cr_all rfl) (by rfl) B.b_all (by decide +kernel) (pa_cons (pe_lc (own := [("other", 3)]) (g := gName 3) (by rfl) sc_law_is_web.nd (pi_tup (pv 2)) (blkOk_by (own := [("other", 3)]) (N := N_law_is_web) (sc := defScope s_law_is_web) (by decide +kernel)) (fun _ _ _ _ _ => (pg_name (i := 3) sc_law_is_web.nd rfl (Or.inl rfl))) (fun _ _ _ _ _ => pts_nil) (fun _ _ _ _ _ => (pe_k G_law_is_int (hr.mono (by first | decide | omega)) (by rfl) (pa_cons (pv 3) (pa_cons pe_int (pa_cons (pe_op op_sub (pe_callB (lenK (K := K) rfl) (by rfl) B.b_len PySem.boot_len (pa_cons (pv 0) pa_nil)) pe_int) pa_nil)))))) pa_nil)))))).pt (pss_one (ps_ret pe_bl)) pss_nil)
      (pss_one (ps_if (pw_or (pt_cmpR op_in_seq (pv 1) (pv 2) (by rfl)) (pw_or1 (pt_val (pe_callB (cr_any rfl) (by rfl) B.b_any (by decide +kernel) (pa_cons (pe_lc (own := [("one", 4), ("other", 3)]) (g := gTup K 2 (gCons (gName 4) (gCons (gName 3) (gNil)))) (by rfl) sc_law_is_web.nd (RZ.pi_zipA (by rfl) B.b_zip (pa_cons (pe_slice (sl_tupK (K := K) rfl) (pv 2) po_none (po_some (pe_un un_neg pe_int))) (pa_cons (pe_slice (sl_tupK (K := K) rfl) (pv 2) (po_some pe_int) po_none) pa_nil))) (blkOk_by (own := [("one", 4), ("other", 3)]) (N := N_law_is_web) (sc := defScope s_law_is_web) (by decide +kernel)) (fun _ _ _ _ _ => (pg_tup rfl (pgs_cons (pg_name (i := 4) sc_law_is_web.nd rfl (Or.inl rfl)) (pgs_cons (pg_name (i := 3) sc_law_is_web.nd rfl (Or.inl rfl)) pgs_nil)))) (fun _ _ _ _ _ => pts_nil) (fun _ _ _ _ _ => (pe_cmpR op_ge (pv 4) (pv 3) (nomark _)))) pa_nil))))).pt (pss_one (ps_ret pe_bl)) pss_nil))))
      (pss_one (ps_ret pe_bl)))), ?_⟩
  refine ⟨x, rfl, x, _, _, _, isTupD d, rfl, .ty _, r.ty, kit_ty (kit_tup d), _, rfl, ?_⟩
  have z := q H (Same.refl H)
  refine ite2 (fun e => ite2 (fun _ => ?_) (fun n => absurd rfl n)) (fun e => ?_)
  · cases d with
    | tuple ds => cases e
    | _ => exact z
  · cases d with
    | tuple ds =>
      obtain ⟨a, xs, rfl, ha, rl⟩ := r
      have hl := rl.length
      refine ⟨.ref a, rfl, a, xs, rfl, .inr (SqT.of ha), _, _, rfl, rfl, _, rfl, ?_⟩
      have webF : ¬ (1 ≤ ds.length ∧ ds.length ≤ 9) → webB (.tuple ds) = false := fun n => by
        show ((decide _ && decide _) && _) = false
        rw [← Bool.decide_and, decide_eq_false n, Bool.false_and]
      refine ite2 (fun e1 => ⟨_, _, rfl, rfl, _, rfl, ite2 (fun e2 => ?_) (fun e2 => ?_)⟩) (fun e1 => ⟨_, rfl, ite2 (fun _ => ?_) (fun n => absurd rfl n)⟩)
      · have n : ¬ ds.length ≤ 9 := fun z => by
          have : ((xs.length : Int) < 10) := by omega
          rw [show decide ((xs.length : Int) < 10) = true from decide_eq_true this] at e2
          cases e2
        rw [webF (fun z => n z.2)] at z
        exact z
      · have h1 : 1 ≤ ds.length := by
          have := of_decide_eq_true e1
          omega
        have h9 : ds.length ≤ 9 := by
          rcases Nat.lt_or_ge 9 ds.length with k | k
          · have : ¬ ((xs.length : Int) < 10) := by omega
            rw [show decide ((xs.length : Int) < 10) = false from decide_eq_false this] at e2
            exact absurd rfl e2
          · exact k
        refine ⟨_, rfl, a, xs, rfl, SqT.of ha, ?_⟩
        refine for_enumT (xs := xs) (fun i σ H' => ∃ y1 y2 y3 y4, σ = [some (.ref a), y1, y2, y3, y4] ∧ Same H H' ∧ ∀ (j : Nat) (p : PyData), j < i → ds[j]? = some p → pocketB (j : Int) (ds.length : Int) p = true) ⟨none, none, none, none, rfl, Same.refl _, fun j p h => absurd h (Nat.not_lt_zero _)⟩ (fun i σ H' ⟨_, _, _, _, _, sm, _⟩ => sm.seqT (SqT.of ha)) ?_ ?_
        · rintro i x T σ H' hx ⟨y1, y2, y3, y4, rfl, sm, dn⟩ nT
          obtain ⟨p, hp, rp⟩ := rl.get hx
          have sp : short p := sh.2 p (List.mem_of_getElem? hp)
          have sT := sm.trans (same_new (o := .tup [.int (i : Nat), x]) nT)
          refine ⟨T, _, rfl, SqT.of upd_same, rfl, _, _, rfl, _, _, rfl, rfl, ?_⟩
          generalize upd H' T (.tup [.int (i : Nat), x]) = H2 at sT ⊢
          have rp2 := rp.same sT
          refine ⟨x, rfl, x, _, _, _, isTupD p, rfl, .ty _, rp2.ty, kit_ty (kit_tup p), _, rfl, ite2 (fun e => ite2 (fun _ => ?_) (fun n => absurd rfl n)) (fun e => ?_)⟩
          · have y := q H2 sT
            rw [web_no hp (by cases p with | tuple es => cases e | _ => rfl)] at y
            exact y
          · cases p with
            | tuple es =>
              obtain ⟨c, ys, rfl, hc, ry⟩ := rp2
              have ly := ry.length
              have l1000 : es.length ≤ 1000 := sp
              refine ⟨.ref c, rfl, c, rfl, ⟨ys, SqT.of hc⟩, fun D nD => ?_⟩
              refine lc_tup (xs := ys) (fun k H' => Same H2 H' ∧ H' D = some (.lst (((es.take k).map (betB 0 ((ds.length : Int) - 1))).map V.bl))) ⟨same_new nD, upd_same⟩ (fun k H' _ p => SqT.of (p.1 _ _ hc)) ?_ ?_
              · rintro k y H3 hy ⟨s3, hD⟩
                obtain ⟨d3, hd3, r3⟩ := ry.get hy
                have hk : k < es.length := (List.getElem?_eq_some_iff.mp hd3).1
                have tk : es.take (k + 1) = es.take k ++ [d3] := by
                  rw [List.take_succ, hd3]
                  rfl
                refine ⟨rfl, y, rfl, .ref a, rfl, a, xs, rfl, .inr (SqT.of (s3 _ _ (sT _ _ ha))), _, _, rfl, rfl, N, d3, y, _, _, rfl, r3.same s3, fun H4 s4 => ?_⟩
                refine ⟨_, s4 _ _ hD, ?_, same_mut (s3.trans s4) nD, ?_⟩
                · rw [List.length_map, List.length_map, List.length_take]
                  exact len_lt (by omega)
                · rw [upd_same, tk, List.map_append, List.map_append, hl]
                  rfl
              · rintro H3 ⟨s3, hD⟩
                rw [ly, List.take_length] at hD
                refine ⟨D, _, rfl, SqL.of hD, ?_⟩
                have ea : ((es.map (betB 0 ((ds.length : Int) - 1))).all id) = es.all (betB 0 ((ds.length : Int) - 1)) := by rw [List.all_map]; rfl
                rw [ea]
                have sT3 := sT.trans s3
                refine ⟨_, rfl, ite2 (fun e3 => ?_) (fun e3 => ?_)⟩
                · have na : es.all (betB 0 ((ds.length : Int) - 1)) = false := by
                    cases y : es.all (betB 0 ((ds.length : Int) - 1)) with
                    | false => rfl
                    | true =>
                      rw [y] at e3
                      cases e3
                  have y := q H3 sT3
                  rw [web_no hp (pocket_not_all na)] at y
                  exact y
                · have ya : es.all (betB 0 ((ds.length : Int) - 1)) = true := by
                    cases y : es.all (betB 0 ((ds.length : Int) - 1)) with
                    | true => rfl
                    | false =>
                      rw [y] at e3
                      exact absurd rfl e3
                  obtain ⟨en, rng⟩ := bet_ints ya
                  have ri := ry.same s3
                  rw [en] at ri
                  have ey := ri.ints
                  have hcT : SqT K H3 c ((es.map intOf).map V.int) := by
                    rw [← ey]
                    exact SqT.of (s3 _ _ hc)
                  have pk := pocket_ints en rng (u := (i : Int))
                  have lns : (es.map intOf).length ≤ 1000 := by
                    rw [List.length_map]
                    exact l1000
                  generalize es.map intOf = ns at hcT pk lns
                  refine ⟨_, rfl, _, rfl, c, _, rfl, .inr hcT, rfl, flat_ints _, _, rfl, ite2 (fun e4 => ite2 (fun _ => ?_) (fun n => absurd rfl n)) (fun e4 => ?_)⟩
                  · have m : decide ((i : Int) ∈ ns) = true := by
                      rw [← inV_ints]
                      exact e4
                    have y := q H3 sT3
                    rw [web_no hp (by rw [pk, m]; rfl)] at y
                    exact y
                  · have m : decide ((i : Int) ∈ ns) = false := by
                      rw [← inV_ints]
                      exact Bool.eq_false_iff.mpr e4
                    rw [m] at pk
                    refine ⟨_, rfl, _, rfl, _, rfl, sl_any hcT fun p1 H4 s4 h4 => ⟨_, rfl, _, rfl, ?_⟩⟩
                    dsimp only [tNoPart]
                    refine sl_any (s4.seqT hcT) fun p2 H5 s5 h5 => ⟨p1, p2, _, _, rfl, .inr ⟨s5.seqT h4, h5, fun D2 nD2 => ?_⟩⟩
                    have x1 : cutV (ns.map V.int) none (some (-1)) = (ns.map V.int).take (ns.length - 1) := by rw [cut_init, List.length_map]
                    have x2 : cutV (ns.map V.int) (some 1) none = (ns.map V.int).drop 1 := cut_from _ 1
                    have s35 := s4.trans s5
                    refine lc_zipT (xs := cutV (ns.map V.int) none (some (-1))) (ys := cutV (ns.map V.int) (some 1) none) ?_ (fun k H' => Same H5 H' ∧ H' D2 = some (.lst (((List.range k).map fun k => decide (ns.getD (k + 1) 0 ≤ ns.getD k 0)).map V.bl))) ⟨same_new nD2, upd_same⟩ (fun k H' p => ⟨p.1.seqT (s5.seqT h4), p.1.seqT h5⟩) ?_ ?_
                    · rw [x1, x2, List.length_take, List.length_drop, List.length_map]
                      omega
                    · rintro k u1 u2 T2 H6 hu1 hu2 ⟨s6, hD2⟩ nT2
                      rw [x1, List.getElem?_take] at hu1
                      rw [x2, List.getElem?_drop] at hu2
                      split at hu1
                      · rename_i hk
                        rw [List.getElem?_map] at hu1 hu2
                        obtain ⟨v1, hv1, rfl⟩ := Option.map_eq_some_iff.mp hu1
                        obtain ⟨v2, hv2, rfl⟩ := Option.map_eq_some_iff.mp hu2
                        have sT2 := same_new (o := .tup [.int v1, .int v2]) nT2
                        refine ⟨T2, _, rfl, SqT.of upd_same, rfl, _, _, rfl, _, _, rfl, rfl, rfl, ?_⟩
                        refine ⟨_, rfl, _, rfl, _, _, rfl, rfl, _, sT2 _ _ hD2, ?_, ?_⟩
                        · rw [List.length_map, List.length_map, List.length_range]
                          exact len_lt (by omega)
                        · refine ⟨same_mut (s6.trans sT2) nD2, ?_⟩
                          rw [upd_same, List.range_succ, List.map_append, List.map_append]
                          have e5 : ns.getD k 0 = v1 := by rw [List.getD_eq_getElem?_getD, hv1]; rfl
                          have e6 : ns.getD (k + 1) 0 = v2 := by rw [List.getD_eq_getElem?_getD, show k + 1 = 1 + k by omega, hv2]; rfl
                          show some (HO.lst (_ ++ [V.bl (decide (v2 ≤ v1))])) = some (HO.lst (_ ++ [V.bl (decide (ns.getD (k + 1) 0 ≤ ns.getD k 0))]))
                          rw [e5, e6]
                      · cases hu1
                    · rintro H6 ⟨s6, hD2⟩
                      rw [x1, List.length_take, List.length_map, Nat.min_eq_left (Nat.sub_le _ _)] at hD2
                      have an : (((List.range (ns.length - 1)).map fun k => decide (ns.getD (k + 1) 0 ≤ ns.getD k 0)).any id) = !asc ns := by
                        rw [asc_range, List.any_map, List.all_map, List.not_all_eq_any_not]
                        congr 1
                        funext k
                        show decide (ns.getD (k + 1) 0 ≤ ns.getD k 0) = !decide (ns.getD k 0 < ns.getD (k + 1) 0)
                        rw [← decide_not]
                        exact decide_eq_decide.mpr Int.not_lt.symm
                      refine ⟨D2, _, rfl, SqL.of hD2, ?_⟩
                      rw [an]
                      have s06 := sT3.trans (s35.trans s6)
                      refine ⟨_, rfl, ite2 (fun e7 => ?_) (fun e7 => ?_)⟩
                      · have y := q H6 s06
                        have na : asc ns = false := by
                          cases w : asc ns with
                          | false => rfl
                          | true =>
                            rw [w] at e7
                            cases e7
                        rw [web_no hp (by rw [pk, na]; rfl)] at y
                        exact y
                      · have ya2 : asc ns = true := by
                          cases w : asc ns with
                          | true => rfl
                          | false =>
                            rw [w] at e7
                            exact absurd rfl e7
                        refine ⟨_, _, _, _, rfl, s06, fun j' p' hj' hp' => ?_⟩
                        rcases Nat.lt_or_ge j' i with y | y
                        · exact dn j' p' y hp'
                        · obtain rfl : j' = i := by omega
                          obtain rfl := Option.some.inj (hp.symm.trans hp')
                          rw [pk, ya2]
                          rfl
            | _ => exact absurd rfl e
        · rintro σ H2 ⟨y1, y2, y3, y4, rfl, sm, dn⟩
          have y : webB (.tuple ds) = true := by
            show ((decide _ && decide _) && _) = true
            rw [decide_eq_true h1, decide_eq_true h9]
            refine pockets_all fun i p hp => ?_
            rw [Nat.zero_add]
            exact dn i p (by have := (List.getElem?_eq_some_iff.mp hp).1; omega) hp
          have z2 := q H2 sm
          rw [y] at z2
          exact z2
      · have n : ¬ 1 ≤ ds.length := fun z => by
          have : (0 < (xs.length : Int)) := by omega
          rw [show decide (0 < (xs.length : Int)) = true from decide_eq_true this] at e1
          exact e1 rfl
        rw [webF (fun z => n z.1)] at z
        exact z
    | _ => exact absurd rfl e
end
end Lw

set_option maxHeartbeats 4000000
namespace Lw
open PySem PySem.Spec PyProof.Rows L2 EF Hn
open PySem.W (Frag keepIn)
abbrev s_law_word : Stmt := top 36
abbrev N_law_word : List Str := ["ask", "thing", "word", "e"]
theorem sc_law_word : FnScope N_law_word ["ask", "thing"] (defScope s_law_word) := ⟨rfl, rfl, rfl, by decide +kernel, rfl, by decide +kernel, by decide +kernel⟩
/-- what the text says of the errors that are asked for -/
structure LX (K : Frag) (mg : Str → Option Value) (C : Addr) : Prop where
  I : IsE K C
  gC : mg "NoWeb" = some (.ref C)
  one : PySem.W.kitOne K (.ref C) (.ref C) = some true
  card : ∃ c, mg "CardError" = some (.ref c) ∧ PySem.W.exmOne K (.ref C) (.ref c) = some true
  rest : ∃ c1 c2 c3, mg "NoStanding" = some (.ref c1) ∧ mg "NoRow" = some (.ref c2) ∧ mg "NoDeed" = some (.ref c3) ∧ PySem.W.kitAny K (.ref C) [.ref c1, .ref c2, .ref c3] = some false
/-- f is a def that tells of webs and raises NoWeb for what is none -/
def Asker (P : Program) (w : World) (K : Frag) (mg : Str → Option Value) (base : Heap) (C : Addr) (f : Addr) : Prop := ∃ fd ps R, keepIn K (.ref f) = true ∧ Binds K fd ps [] ∧ FnOk P w K mg base (L2.CX P w) 7 f fd ps (spAsk C R)
def spWord (P : Program) (w : World) (K : Frag) (mg : Str → Option Value) (base : Heap) (C : Addr) : Sp := fun vs H Q _ => ∃ (f : Addr) (N : Addr → Prop) (d : PyData) (x : V), vs = [.ref f, x] ∧ Asker P w K mg base C f ∧ Rep N H d x ∧ fit d ∧ ∀ H', Same H H' → Q (.str (if webB d = true then "let" else "web")) H'
section
variable {P : Program} {w : World} {K : Frag} {mg : Str → Option Value} {base : Heap} {C : Addr}
theorem pss_given {X : Cx} {b : List Stmt} {t : TS} {p : Prop} (h : p → PSs X b t) : PSs X b (fun D σ H => p ∧ t D σ H) := ⟨fun pins s σ H D I z => (h z.1).run pins s σ H D I z.2⟩
theorem k_word (B : Bl mg) (T : LX K mg C) (D : Dfn K mg "_law_word" s_law_word ["ask", "thing"]) : Kept P w K mg base 8 "_law_word" ["ask", "thing"] (spWord P w K mg base C) := by
  refine D.kept (N := N_law_word) sc_law_word (fun vs H Q E h => ?_) (fun f cdv A outer s H vs Q E hr h => ?_)
  · obtain ⟨f, N, d, x, rfl, _⟩ := h
    rfl
  obtain ⟨g, N, d, x, rfl, ⟨fd, ps, R, kp, bi, F⟩, r, sh, q⟩ := h
  obtain ⟨cc, gc, ex⟩ := T.card
  obtain ⟨c1, c2, c3, g1, g2, g3, any⟩ := T.rest
  refine ⟨_, pss_cons (ps_set (i := 2) sc_law_word.nd rfl (Or.inl rfl) pe_str) (pss_cons (ps_try_as (i := 3) (tb := fun W => tDrop (tCallLS 0 g (spAsk C R) (WE W) (tCons (tVar 1) tNil))) (Wout := fun _ _ _ _ => False) rfl rfl sc_law_word.nd rfl rfl ⟨rfl, by decide, .inl gc⟩ takes0
    (fun W pn xe tk _ => pss_one (ps_expr (pe_callLS F (hr.mono (by decide)) rfl (Or.inl rfl) kp bi (fun σ => passAt tk σ) (pa_cons (pv 1) pa_nil))))
    (fun a oe cls d pn hz hf => pss_given (p := cls = .ref C ∧ d = none) fun hp => pss_cons (ps_set (i := 2) sc_law_word.nd rfl (Or.inl rfl) pe_str) (pss_one (ps_if (pw_and (pt_val (pe_callB (call_isS T.I (by rw [hp.1, hp.2] at hz; exact hz) hf) (by rfl) B.b_isinstance (by decide +kernel) (pa_cons (pv 3) (pa_cons (pe_glob (v := .ref C) (by rfl) T.gC rfl) pa_nil))))
      (pw_and1 (pt_not (pt_val (pe_callB (call_isST T.I (by rw [hp.1, hp.2] at hz; exact hz) hf) (by rfl) B.b_isinstance (by decide +kernel) (pa_cons (pv 3) (pa_cons (pe_tup (pa_cons (pe_glob (v := .ref c1) (by rfl) g1 rfl) (pa_cons (pe_glob (v := .ref c2) (by rfl) g2 rfl) (pa_cons (pe_glob (v := .ref c3) (by rfl) g3 rfl) pa_nil)))) pa_nil))))))).pt (pss_one (ps_set (i := 2) sc_law_word.nd rfl (Or.inl rfl) pe_str)) pss_nil)))) (pss_one (ps_ret (pv 2)))), ?_⟩
  refine ⟨rfl, x, rfl, N, d, x, rfl, r, sh, fun z y H' sm _ => ?_, fun z H' sm => ?_⟩
  · have y := q H' sm
    rw [if_pos z] at y
    exact ⟨_, rfl, y⟩
  · refine ⟨true, ex, fun _ a na => ⟨⟨rfl, rfl⟩, ?_⟩, fun n => nomatch n⟩
    refine ⟨_, rfl, .ref C, _, _, rfl, .own C, T.one, _, rfl, ?_⟩
    refine ite2 (fun _ => ?_) (fun n => absurd rfl n)
    refine ⟨_, rfl, len_le (by decide : 3 ≤ 1000), fun t nt => ⟨t, _, _, _, rfl, upd_same, .cons (.own _) (.cons (.own _) (.cons (.own _) .nil)), any, _, rfl, ite2 (fun _ => ?_) (fun n => absurd rfl n)⟩⟩
    have y := q _ (sm.trans (same_new (o := .tup [.ref c1, .ref c2, .ref c3]) nt))
    rw [if_neg (by rw [z]; exact Bool.noConfusion)] at y
    exact ⟨_, rfl, y⟩
end
end Lw

set_option maxHeartbeats 4000000
namespace Lw
open PySem PySem.Spec PyProof.Rows L2 EF Hn
open PySem.W (Frag keepIn)
abbrev s_law_web : Stmt := top 33
abbrev N_law_web : List Str := ["bag", "most", "many", "share", "cards", "person", "other", "way", "pocket"]
theorem sc_law_web : FnScope N_law_web ["bag", "most"] (defScope s_law_web) := ⟨rfl, rfl, rfl, by decide +kernel, rfl, by decide +kernel, by decide +kernel⟩
def spDeepR : Sp := fun vs H Q _ => vs = [] ∧ ∀ x d H', Same H H' → Rep (fun a => H a = none) H' d x → Wide 10 d → Q x H'
section
variable {P : Program} {w : World} {K : Frag} {mg : Str → Option Value} {base : Heap} {C : Addr}
theorem k_deepR (B : Bl mg) (D : Dfn K mg "_law_deep" s_law_deep []) : Kept P w K mg base 1 "_law_deep" [] spDeepR := by
  refine D.kept (N := N_law_deep) sc_law_deep (fun vs H Q E h => ?_) (fun f cdv A outer s H vs Q E hr h => ?_)
  · obtain ⟨rfl, _⟩ := h
    rfl
  obtain ⟨rfl, q⟩ := h
  refine ⟨_, (pss_cons (ps_set (i := 0) sc_law_deep.nd rfl (Or.inl rfl) (pe_tup pa_nil))
      (pss_cons (ps_for PassesOwn.never rfl (pi_range1 (by rfl) B.b_range (pa_cons pe_int pa_nil)) (pg_name (i := 1) sc_law_deep.nd rfl (Or.inl rfl)) (pss_one (ps_set (i := 0) sc_law_deep.nd rfl (Or.inl rfl) (pe_lst (pa_cons (pe_tup (pa_cons (pv 0) pa_nil)) pa_nil)))))
      (pss_one (ps_ret (pv 0))))), ?_⟩
  refine ⟨len_le (by show 0 ≤ 1000; decide), fun p hp => ?_⟩
  refine ⟨11, rfl, by decide, by decide, for_range (n := 11) (fun i σ H' => ∃ x y d, σ = [some x, y] ∧ Same H H' ∧ Rep (fun a => H a = none) H' d x ∧ Wide 10 d)
    ⟨.ref p, none, .tuple [], rfl, same_new hp, ⟨p, [], rfl, upd_same, rfl⟩, ⟨Nat.zero_le _, trivial⟩⟩ ?_ ?_⟩
  · rintro i σ H' hi ⟨x, y, d, rfl, s1, g, wd⟩
    refine ⟨x, rfl, len_le (by show 1 ≤ 1000; decide), fun t ht => ⟨len_le (by show 1 ≤ 1000; decide), fun l hl => ?_⟩⟩
    have st := same_new (o := .tup [x]) ht
    have sl := same_new (o := .lst [.ref t]) hl
    refine ⟨_, _, .list [.tuple [d]], rfl, (s1.trans st).trans sl, ?_, trivial⟩
    refine ⟨l, [.ref t], rfl, none_of (s1.trans st) hl, upd_same, .ref t, [], rfl, ?_, rfl⟩
    exact ⟨t, [x], rfl, sl _ _ upd_same, x, [], rfl, (g.same st).same sl, rfl⟩
  · rintro σ H' ⟨x, y, d, rfl, s1, g, wd⟩
    exact ⟨x, rfl, q x d H' s1 g wd⟩
end
end Lw

set_option maxHeartbeats 4000000
namespace Lw
open PySem PySem.Spec PyProof.Rows L2 EF Hn
open PySem.W (Frag keepIn)
/-- p is a tuple of tuples of ints -/
def WebAt (H : Hp) (p : Addr) (rows : List (List Int)) : Prop := ∃ as : List Addr, H p = some (.tup (as.map V.ref)) ∧ as.length = rows.length ∧ ∀ (i : Nat) (q : Addr) (r : List Int), as[i]? = some q → rows[i]? = some r → H q = some (.tup (r.map V.int))
def spDraw : Sp := fun vs H Q _ => ∃ (b g : Addr) (m : Int), vs = [.ref b, .int m] ∧ BagAt H b g ∧ 0 < m ∧ m ≤ 9 ∧ ∀ (p : Addr) (rows : List (List Int)) (H' : Hp), But b g H H' → BagAt H' b g → H p = none → WebAt H' p rows → WebRows rows → (rows.length : Int) ≤ m → Q (.ref p) H'
section
variable {P : Program} {w : World} {K : Frag} {mg : Str → Option Value} {base : Heap} {C : Addr}
theorem k_web (B : Bl mg) (D : Dfn K mg "_law_web" s_law_web ["bag", "most"]) (G_law_pick : Kept P w K mg base 1 "_law_pick" ["bag", "many"] spPick) (G_law_some : Kept P w K mg base 2 "_law_some" ["bag", "things"] (spSome K)) : Kept P w K mg base 3 "_law_web" ["bag", "most"] spDraw := by
  refine D.keptC (N := N_law_web) sc_law_web (fun vs H Q E h => ?_) (fun f cdv A outer s H vs Q E hcd hr h => ?_)
  · obtain ⟨b, g, m, rfl, _⟩ := h
    rfl
  obtain ⟨b, g, m, rfl, hb, m0, m9, q⟩ := h
  refine ⟨_, (pss_cons (ps_set (i := 2) sc_law_web.nd rfl (Or.inr rfl) (pe_op op_add pe_int (pe_k G_law_pick (hr.mono (by first | decide | omega)) (by rfl) (pa_cons (pv 0) (pa_cons (pv 1) pa_nil)))))
      (pss_cons (ps_set (i := 3) sc_law_web.nd rfl (Or.inr rfl) (pe_k G_law_some (hr.mono (by first | decide | omega)) (by rfl) (pa_cons (pv 0) (pa_cons (pe_lst (pa_cons pe_int (pa_cons pe_int (pa_cons pe_int (pa_cons pe_int (pa_cons pe_int (pa_cons pe_int pa_nil))))))) pa_nil))))
      (pss_cons (ps_set (i := 4) sc_law_web.nd rfl (Or.inl rfl) (pe_lst pa_nil))
      (pss_cons (ps_for PassesOwn.never rfl (pi_range1 (by rfl) B.b_range (pa_cons (pv 2) pa_nil)) (pg_name (i := 5) sc_law_web.nd rfl (Or.inr rfl)) (pss_one (ps_expr (pe_bm PySem.F.plainAttrs_list PySem.F.slot_list_append PySem.F.type_list_append mt_append (pv 4) (pa_cons (pe_lc (own := [("other", 6)]) (g := gName 6) (by rfl) sc_law_web.nd (pi_range1 (by rfl) B.b_range (pa_cons (pv 2) pa_nil)) (blkOk_by (own := [("other", 6)]) (N := N_law_web) (sc := defScope s_law_web) (by decide +kernel)) (fun _ _ _ _ _ => (pg_name (i := 6) sc_law_web.nd rfl (Or.inl rfl))) (fun _ _ _ _ _ => (pts_one (pw_and (pt_cmpR op_ne (pv 6) (pv 5) (nomark _)) (pw_and1 (pt_cmpR op_eq (pe_k G_law_pick (hr.mono (by first | decide | omega)) (by rfl) (pa_cons (pv 0) (pa_cons (pv 3) pa_nil))) pe_int (nomark _)))).pt)) (fun _ _ _ _ _ => (pv 6))) pa_nil)))))
      (pss_cons (ps_set (i := 7) sc_law_web.nd rfl (Or.inl rfl) (pe_k G_law_pick (hr.mono (by first | decide | omega)) (by rfl) (pa_cons (pv 0) (pa_cons pe_int pa_nil))))
      (pss_cons (ps_if (pt_cmpR op_eq (pv 7) pe_int (nomark _)) (pss_one (ps_setLc (i := 4) (own := [("person", 5)]) (g := gName 5) (by rfl) sc_law_web.nd rfl rfl (sw_true rfl rfl rfl (by decide +kernel)) (pi_range1 (by rfl) B.b_range (pa_cons (pv 2) pa_nil)) (blkOk_by (own := [("person", 5)]) (N := N_law_web) (sc := defScope s_law_web) (by decide +kernel)) (fun _ _ _ _ _ => (pg_name (i := 5) sc_law_web.nd rfl (Or.inl rfl))) (fun _ _ _ _ _ => pts_nil) (fun _ _ _ _ _ => (pe_lc (own := [("other", 6)]) (g := gName 6) (by rfl) sc_law_web.nd (pi_listK (K := K) rfl (pe_lst (pa_cons (pe_op op_sub (pv 5) pe_int) (pa_cons (pe_op op_add (pv 5) pe_int) pa_nil)))) (blkOk_by (own := [("other", 6)]) (N := N_law_web) (by dsimp only [Cx.blk, compEnvC, relabel, cxOf, Cx.nox, envOfC, Env.kindOf]; first | rfl | decide +kernel)) (fun _ _ _ _ _ => (pg_name (i := 6) sc_law_web.nd rfl (Or.inl rfl))) (fun _ _ _ _ _ => (pts_one (pt_chain op_le op_lt pe_int (pv 6) (pv 2)))) (fun _ _ _ _ _ => (pv 6)))))) pss_nil)
      (pss_cons (ps_if (pt_cmpR op_eq (pv 7) pe_int (nomark _)) (pss_one (ps_setLc (i := 4) (own := [("person", 5)]) (g := gName 5) (by rfl) sc_law_web.nd rfl rfl (sw_true rfl rfl rfl (by decide +kernel)) (pi_range1 (by rfl) B.b_range (pa_cons (pv 2) pa_nil)) (blkOk_by (own := [("person", 5)]) (N := N_law_web) (sc := defScope s_law_web) (by decide +kernel)) (fun _ _ _ _ _ => (pg_name (i := 5) sc_law_web.nd rfl (Or.inl rfl))) (fun _ _ _ _ _ => pts_nil) (fun _ _ _ _ _ => (pe_ifExp (pt_cmpR op_gt (pv 2) pe_int (nomark _)) (pe_lst (pa_cons (pe_op op_mod (pe_callTy call_int1 (by rfl) B.b_int (by decide +kernel) (pa_cons (pe_op op_add (pv 5) pe_int) pa_nil)) (pv 2)) pa_nil)) (pe_lst pa_nil))))) pss_nil)
      (pss_cons (ps_if (pt_cmpR op_eq (pv 7) pe_int (nomark _)) (pss_one (ps_setLc (i := 4) (own := [("person", 5), ("pocket", 8)]) (g := gTup K 2 (gCons (gName 5) (gCons (gName 8) (gNil)))) (by rfl) sc_law_web.nd rfl rfl (sw_true rfl rfl rfl (by decide +kernel)) (pi_enum (by rfl) B.b_enumerate (pa_cons (pv 4) pa_nil)) (blkOk_by (own := [("person", 5), ("pocket", 8)]) (N := N_law_web) (sc := defScope s_law_web) (by decide +kernel)) (fun _ _ _ _ _ => (pg_tup rfl (pgs_cons (pg_name (i := 5) sc_law_web.nd rfl (Or.inl rfl)) (pgs_cons (pg_name (i := 8) sc_law_web.nd rfl (Or.inl rfl)) pgs_nil)))) (fun _ _ _ _ _ => pts_nil) (fun _ _ _ _ _ => (pe_ifExp (pt_cmpR op_eq (pe_op op_mod (pe_callTy call_int1 (by rfl) B.b_int (by decide +kernel) (pa_cons (pv 5) pa_nil)) pe_int) pe_int (nomark _)) (pv 8) (pe_lst pa_nil))))) pss_nil)
      (pss_one (ps_ret (pe_callTy call_tuple_of (by rfl) B.b_tuple (by decide +kernel) (pa_cons (pe_lc (own := [("pocket", 8)]) (g := gName 8) (by rfl) sc_law_web.nd (pi_list (pv 4)) (blkOk_by (own := [("pocket", 8)]) (N := N_law_web) (sc := defScope s_law_web) (by decide +kernel)) (fun _ _ _ _ _ => (pg_name (i := 8) sc_law_web.nd rfl (Or.inl rfl))) (fun _ _ _ _ _ => pts_nil) (fun _ _ _ _ _ => (pe_callTy (tupleK (K := K) rfl) (by rfl) B.b_tuple (by decide +kernel) (pa_cons (pv 8) pa_nil)))) pa_nil)))))))))))), ?_⟩
  -- many = 1 + _law_pick(bag, most)
  refine ⟨_, rfl, _, rfl, b, g, m, rfl, hb, m0, by omega, fun r H1 bt1 hb1 r0 r1 => ⟨_, _, rfl, rfl, ?_⟩⟩
  obtain ⟨n, hn⟩ : ∃ n : Nat, (1 : Int) + r = (n : Int) := ⟨(1 + r).toNat, by omega⟩
  show gName 2 (V.int (1 + r)) _ _ _
  rw [hn]
  have n1 : 1 ≤ n := by omega
  have n9 : n ≤ 9 := by omega
  have nm : (n : Int) ≤ m := by omega
  -- share = _law_some(bag, [..])
  refine ⟨_, rfl, len_le (by decide : 6 ≤ 1000), fun l nl => ?_⟩
  have sl := same_new (o := .lst [.int 2, .int 3, .int 5, .int 1, .int 12, .int 4]) nl
  have hb2 := hb1.same sl
  obtain ⟨lb, lg⟩ := hb1.ne nl
  refine ⟨b, g, l, _, rfl, hb2, lb, lg, .inl (SqL.of upd_same), (by decide : 0 < 6), (by decide : 6 ≤ 1000), fun x H2 bt2 hb2' hx => ?_⟩
  obtain ⟨k, rfl, k0, k12⟩ : ∃ k : Int, x = .int k ∧ 0 < k ∧ k ≤ 12 := by
    simp only [List.mem_cons, List.not_mem_nil, or_false] at hx
    rcases hx with h | h | h | h | h | h <;> exact ⟨_, h, by decide, by decide⟩
  have bt := (bt1.trans (.of sl)).trans bt2
  clear bt2 hb2 sl lb lg nl hx
  generalize upd H1 l (.lst [.int 2, .int 3, .int 5, .int 1, .int 12, .int 4]) = H1' at *
  -- cards = []
  refine ⟨len_le (by decide : 0 ≤ 1000), fun c nc => ?_⟩
  have kc0 : Cards H (upd H2 c (.lst [])) b g c [] := .nil bt hb2' nc
  generalize upd H2 c (.lst []) = H3 at kc0 ⊢
  -- the loop
  dsimp only [gName]
  show tSeq (tFor _ _ _) _ _ _ _
  refine cutS (fun σ H' => ∃ x5 rows, σ = [some (.ref b), some (.int m), some (.int n), some (.int k), some (.ref c), x5, none, none, none] ∧ Cards H H' b g c rows ∧ rows.length = n ∧ GoodRows n rows) ?rest1 (fun go => ?loop)
  case loop =>
    refine ⟨_, rfl, n, rfl, by omega, by omega, ?_⟩
    refine for_range (lo := 0) (n := (n : Int).toNat) (fun i σ H' => ∃ x5 rows, σ = [some (.ref b), some (.int m), some (.int n), some (.int k), some (.ref c), x5, none, none, none] ∧ Cards H H' b g c rows ∧ rows.length = i ∧ GoodRows n rows) ⟨none, [], rfl, kc0, rfl, fun i r e => by simp at e⟩ ?_ ?_
    · rintro i σ H4 hi ⟨x5, rows, rfl, kc, rfl, gr⟩
      obtain ⟨qs, hqs, lqs⟩ := kc.list
      refine ⟨_, rfl, .inl ⟨rfl, _, SqL.of hqs⟩, _, rfl, n, rfl, by omega, by omega, fun D nD => ?_⟩
      have nD0 := kc.bt.none kc.bag nD
      obtain ⟨nDb, nDg⟩ := kc.bag.ne nD
      have nDc : D ≠ c := fun z => by
        rw [z, hqs] at nD
        cases nD
      have qD : ∀ q ∈ qs, q ≠ D := fun q hq z => by
        obtain ⟨j, hj, e⟩ := List.getElem_of_mem hq
        obtain ⟨xs, q', h1, _, h3, h4, _⟩ := kc.row (i := j) (r := rows[j]'(by omega)) (List.getElem?_eq_getElem (by omega))
        have e2 := Option.some.inj (h1.symm.trans hqs)
        rw [HO.lst.inj e2, List.getElem?_map, List.getElem?_eq_getElem hj, e] at h3
        have e3 : q = q' := V.ref.inj (Option.some.inj h3)
        rw [← e3, z, nD] at h4
        cases h4
      refine lc_range (lo := 0) (n := (n : Int).toNat) (fun j H' => ∃ rr : List Int, Cards H H' b g c rows ∧ H' c = some (.lst (qs.map V.ref)) ∧ H' D = some (.lst (rr.map V.int)) ∧ rr.Pairwise (· < ·) ∧ rr.length ≤ j ∧ ∀ w ∈ rr, 0 ≤ w ∧ w < (j : Int) ∧ w ≠ (rows.length : Int)) ⟨[], kc.same (same_new nD), same_new nD _ _ hqs, upd_same, .nil, Nat.le_refl _, fun w h => absurd h List.not_mem_nil⟩ ?_ ?_
      · rintro j H5 hj ⟨rr, kd, hc5, hD5, pw, lr, rg⟩
        have keep : ∀ rr' : List Int, Cards H (upd H5 D (.lst (rr'.map V.int))) b g c rows := fun rr' => kd.mut nD0 nDb nDg nDc (fun qs' e => by
          have e2 := HO.lst.inj (Option.some.inj (e.symm.trans hc5))
          have e3 : qs' = qs := List.map_inj_right (fun _ _ z => V.ref.inj z) |>.mp e2
          rw [e3]
          exact fun h => qD D h rfl)
        refine ⟨rfl, ?_⟩
        refine ⟨_, rfl, _, rfl, rfl, _, rfl, ite2 (fun e1 => ?_) (fun e1 => ?_)⟩
        · refine ⟨_, rfl, _, rfl, b, g, k, rfl, kd.bag, k0, by omega, fun r2 H6 bt6 hb6 r20 r21 => ⟨rfl, _, rfl, ?_⟩⟩
          have kd6 := kd.but bt6 hb6
          have hc6 := bt6 _ _ kd.cb kd.cg hc5
          have hD6 := bt6 _ _ nDb nDg hD5
          refine ite2 (fun e2 => ?_) (fun e2 => ?_)
          · refine ⟨_, rfl, _, hD6, by rw [List.length_map]; exact len_lt (by omega), rr ++ [(j : Int)], ?_⟩
            have ee : rr.map V.int ++ [V.int (0 + (j : Int))] = (rr ++ [(j : Int)]).map V.int := by
              rw [List.map_append, Int.zero_add]
              rfl
            rw [ee]
            have ne : (j : Int) ≠ (rows.length : Int) := fun z => by
              have z1 : ¬ (V.int ((0 : Int) + (j : Int)) = V.int ((0 : Int) + (rows.length : Int))) := by
                intro y
                rw [decide_eq_true y] at e1
                cases e1
              rw [z] at z1
              exact z1 rfl
            refine ⟨?_, ?_, upd_same, ?_, ?_, ?_⟩
            · refine kd6.mut nD0 nDb nDg nDc (fun qs' e => ?_)
              have e2 := HO.lst.inj (Option.some.inj (e.symm.trans hc6))
              have e3 : qs' = qs := List.map_inj_right (fun _ _ z => V.ref.inj z) |>.mp e2
              rw [e3]
              exact fun h => qD D h rfl
            · rw [upd_ne (Ne.symm nDc)]
              exact hc6
            · refine List.pairwise_append.mpr ⟨pw, List.pairwise_singleton _ _, fun x hx y hy => ?_⟩
              rw [List.mem_singleton.mp hy]
              exact (rg x hx).2.1
            · rw [List.length_append]
              exact Nat.succ_le_succ lr
            · intro w hw
              rcases List.mem_append.mp hw with z | z
              · have := rg w z
                exact ⟨this.1, by omega, this.2.2⟩
              · rw [List.mem_singleton.mp z]
                exact ⟨by omega, by omega, ne⟩
          · exact ⟨rr, kd6, hc6, hD6, pw, by omega, fun w hw => ⟨(rg w hw).1, by have := (rg w hw).2.1; omega, (rg w hw).2.2⟩⟩
        · exact ite2 (fun z => by cases z) (fun _ => ⟨rr, kd, hc5, hD5, pw, by omega, fun w hw => ⟨(rg w hw).1, by have := (rg w hw).2.1; omega, (rg w hw).2.2⟩⟩)
      · rintro H5 ⟨rr, kd, hc5, hD5, pw, lr, rg⟩
        obtain ⟨acc, ha, la, kp⟩ := kd.push hD5 nD0 nDb nDg nDc
        obtain rfl := HO.lst.inj (Option.some.inj (ha.symm.trans hc5))
        refine ⟨c, _, _, rfl, rfl, ha, by rw [la]; exact len_lt (by omega), ?_⟩
        refine ⟨_, _, rfl, kp, by rw [List.length_append]; rfl, gr.snoc ⟨pw, fun w hw => ⟨(rg w hw).1, by have := (rg w hw).2.1; omega⟩, fun h => (rg _ h).2.2 rfl⟩⟩
    · rintro σ H4 ⟨x5, rows, rfl, kc, el, gr⟩
      exact go _ _ ⟨x5, rows, rfl, kc, by omega, gr⟩
  case rest1 =>
    rintro _ H4 ⟨x5, rows, rfl, kc4, el, gr⟩
    -- way = _law_pick(bag, 6)
    refine ⟨_, rfl, b, g, 6, rfl, kc4.bag, by decide, by decide, fun wy H5 bt5 hb5 w0 w1 => ?_⟩
    have kc := kc4.but bt5 hb5
    dsimp only [gName]
    show tSeq (tIfS _ _ _) _ _ _ _
    -- if way == 1
    refine cutS (fun σ H' => ∃ x5 c rows, σ = [some (.ref b), some (.int m), some (.int n), some (.int k), some (.ref c), x5, none, some (.int wy), none] ∧ Cards H H' b g c rows ∧ rows.length = n ∧ GoodRows n rows) ?rest2 (fun go => ?way1)
    case way1 =>
      refine ⟨_, rfl, rfl, _, rfl, ite2 (fun e => ?_) (fun e => go _ _ ⟨x5, c, rows, rfl, kc, el, gr⟩)⟩
      refine ⟨_, rfl, n, rfl, by omega, by omega, fun D nD => ?_⟩
      refine lc_range (lo := 0) (n := (n : Int).toNat) (fun i H' => ∃ rows2, Cards H H' b g D rows2 ∧ rows2.length = i ∧ GoodRows n rows2) ⟨[], .nil kc.bt kc.bag nD, rfl, fun i r e => by simp at e⟩ ?_ ?_
      · rintro i H6 hi ⟨rows2, kd, rfl, gr2⟩
        refine ⟨rfl, ?_⟩
        refine ⟨_, rfl, _, _, rfl, rfl, _, rfl, _, _, rfl, rfl, len_le (by decide : 2 ≤ 1000), fun l nl => ⟨l, rfl, ⟨_, SqL.of upd_same⟩, fun D2 nD2 => ?_⟩⟩
        have kd2 := kd.same (same_new (o := .lst [.int ((0 : Int) + (rows2.length : Nat) - 1), .int ((0 : Int) + (rows2.length : Nat) + 1)]) nl)
        refine lc_list (xs := [.int ((0 : Int) + (rows2.length : Nat) - 1), .int ((0 : Int) + (rows2.length : Nat) + 1)]) (fun j H' => Side H H' b g D rows2 D2 ∧ H' l = some (.lst [.int ((0 : Int) + (rows2.length : Nat) - 1), .int ((0 : Int) + (rows2.length : Nat) + 1)]) ∧
          H' D2 = some (.lst (((([(0 : Int) + (rows2.length : Nat) - 1, (0 : Int) + (rows2.length : Nat) + 1]).take j).filter fun w => decide (0 ≤ w) && decide (w < (n : Int))).map V.int)))
          ⟨.new kd2 nD2, same_new nD2 _ _ upd_same, upd_same⟩ (fun j H' _ z => SqL.of z.2.1) ?_ ?_
        · rintro j x H7 hx ⟨sd, hl, hD2⟩
          have lD : l ≠ D2 := lst_ne upd_same nD2
          have hx' : (([(0 : Int) + (rows2.length : Nat) - 1, (0 : Int) + (rows2.length : Nat) + 1]).map V.int)[j]? = some x := hx
          rw [List.getElem?_map] at hx'
          obtain ⟨y, hy, rfl⟩ := Option.map_eq_some_iff.mp hx'
          have tk : ([(0 : Int) + (rows2.length : Nat) - 1, (0 : Int) + (rows2.length : Nat) + 1]).take (j + 1) = ([(0 : Int) + (rows2.length : Nat) - 1, (0 : Int) + (rows2.length : Nat) + 1]).take j ++ [y] := by
            rw [List.take_succ, hy]
            rfl
          have sz : (((([(0 : Int) + (rows2.length : Nat) - 1, (0 : Int) + (rows2.length : Nat) + 1]).take j).filter fun w => decide (0 ≤ w) && decide (w < (n : Int))).map V.int).length < sizeLine := by
            rw [List.length_map]
            have h1 := List.length_filter_le (fun w => decide (0 ≤ w) && decide (w < (n : Int))) (([(0 : Int) + (rows2.length : Nat) - 1, (0 : Int) + (rows2.length : Nat) + 1]).take j)
            rw [List.length_take] at h1
            have h2 : ([(0 : Int) + (rows2.length : Nat) - 1, (0 : Int) + (rows2.length : Nat) + 1]).length = 2 := rfl
            exact len_lt (by omega)
          have no : ¬ ((decide (0 ≤ y) && decide (y < (n : Int))) = true) → Side H H7 b g D rows2 D2 ∧ H7 l = some (.lst [.int ((0 : Int) + (rows2.length : Nat) - 1), .int ((0 : Int) + (rows2.length : Nat) + 1)]) ∧
            H7 D2 = some (.lst (((([(0 : Int) + (rows2.length : Nat) - 1, (0 : Int) + (rows2.length : Nat) + 1]).take (j + 1)).filter fun w => decide (0 ≤ w) && decide (w < (n : Int))).map V.int)) := fun ne => by
            refine ⟨sd, hl, ?_⟩
            rw [tk, List.filter_append, List.filter_cons, if_neg ne, List.filter_nil, List.append_nil]
            exact hD2
          refine ⟨rfl, ?_⟩
          refine ⟨_, rfl, _, _, rfl, rfl, _, rfl, ite2 (fun e1 => ⟨_, rfl, _, _, rfl, rfl, _, rfl, ite2 (fun e2 => ?_) (fun e2 => ?_)⟩) (fun e1 => ⟨_, rfl, ite2 (fun z => by cases z) (fun _ => ?_)⟩)⟩
          · refine ⟨_, rfl, _, hD2, sz, sd.set, by rw [upd_ne lD]; exact hl, ?_⟩
            have yes : (decide (0 ≤ y) && decide (y < (n : Int))) = true := by rw [Bool.and_eq_true]; exact ⟨e1, e2⟩
            rw [upd_same, tk, List.filter_append, List.map_append, List.filter_cons, if_pos yes]
            rfl
          · exact no fun z => e2 ((Bool.and_eq_true _ _).mp z).2
          · exact no fun z => e1 ((Bool.and_eq_true _ _).mp z).1
        · rintro H7 ⟨sd, hl, hD2⟩
          obtain ⟨acc, ha, la, kp⟩ := sd.push hD2
          refine ⟨acc, ha, by rw [la]; exact len_lt (by omega), _, kp, by rw [List.length_append]; rfl, gr2.snoc ⟨?_, fun w hw => ?_, fun h => ?_⟩⟩
          · refine List.Pairwise.filter _ ?_
            refine List.pairwise_cons.mpr ⟨fun a ha => ?_, List.pairwise_singleton _ _⟩
            rw [List.mem_singleton.mp ha]
            omega
          · have z := (Bool.and_eq_true _ _).mp (List.mem_filter.mp hw).2
            exact ⟨of_decide_eq_true z.1, of_decide_eq_true z.2⟩
          · have z : ((rows2.length : Nat) : Int) ∈ [(0 : Int) + (rows2.length : Nat) - 1, (0 : Int) + (rows2.length : Nat) + 1] := (List.mem_filter.mp h).1
            simp only [List.mem_cons, List.not_mem_nil, or_false] at z
            omega
      · rintro H6 ⟨rows2, kd, el2, gr2⟩
        exact go _ _ ⟨x5, D, rows2, rfl, kd, by omega, gr2⟩
    case rest2 =>
    clear kc4 kc bt5 hb5 gr el rows x5 H4
    rintro _ H4 ⟨x5, c, rows, rfl, kc, el, gr⟩
    show tSeq (tIfS _ _ _) _ _ _ _
    -- if way == 2
    refine cutS (fun σ H' => ∃ x5 c rows, σ = [some (.ref b), some (.int m), some (.int n), some (.int k), some (.ref c), x5, none, some (.int wy), none] ∧ Cards H H' b g c rows ∧ rows.length = n ∧ GoodRows n rows) ?rest3 (fun go => ?way2)
    case way2 =>
      refine ⟨_, rfl, rfl, _, rfl, ite2 (fun e => ?_) (fun e => go _ _ ⟨x5, c, rows, rfl, kc, el, gr⟩)⟩
      refine ⟨_, rfl, n, rfl, by omega, by omega, fun D nD => ?_⟩
      refine lc_range (lo := 0) (n := (n : Int).toNat) (fun i H' => ∃ rows2, Cards H H' b g D rows2 ∧ rows2.length = i ∧ GoodRows n rows2) ⟨[], .nil kc.bt kc.bag nD, rfl, fun i r e => by simp at e⟩ ?_ ?_
      · rintro i H6 hi ⟨rows2, kd, rfl, gr2⟩
        have one : ∀ (l : Addr) (r : List Int), H6 l = none → GoodRow n rows2.length r → ∃ acc, upd H6 l (.lst (r.map V.int)) D = some (.lst acc) ∧ acc.length < sizeLine ∧
            ∃ rows3, Cards H (upd (upd H6 l (.lst (r.map V.int))) D (.lst (acc ++ [.ref l]))) b g D rows3 ∧ rows3.length = rows2.length + 1 ∧ GoodRows n rows3 := fun l r nl gr3 => by
          have sd := Side.new (o := .lst (r.map V.int)) kd nl
          obtain ⟨acc, ha, la, kp⟩ := sd.push upd_same
          exact ⟨acc, ha, by rw [la]; exact len_lt (by omega), _, kp, by rw [List.length_append]; rfl, gr2.snoc gr3⟩
        refine ⟨rfl, ?_⟩
        refine ⟨_, rfl, _, _, rfl, rfl, _, rfl, ite2 (fun e1 => ?_) (fun e1 => ?_)⟩
        · have n2 : (1 : Int) < n := of_decide_eq_true e1
          refine ⟨_, rfl, _, _, rfl, rfl, .inl ⟨_, rfl, _, rfl, _, _, rfl, rfl, by omega, len_le (by decide : 1 ≤ 1000), fun l nl => ?_⟩⟩
          refine one l [((0 : Int) + (rows2.length : Nat) + 1) % (n : Int)] nl ⟨List.pairwise_singleton _ _, fun w hw => ?_, fun h => ?_⟩
          · rw [List.mem_singleton.mp hw]
            exact ⟨Int.emod_nonneg _ (by omega), Int.emod_lt_of_pos _ (by omega)⟩
          · have z := List.mem_singleton.mp h
            rcases Nat.lt_or_ge (rows2.length + 1) n with y | y
            · rw [Int.emod_eq_of_lt (by omega) (by omega)] at z
              omega
            · have y2 : (0 : Int) + (rows2.length : Nat) + 1 = (n : Int) := by omega
              rw [y2, Int.emod_self] at z
              omega
        · exact ⟨len_le (by decide : 0 ≤ 1000), fun l nl => one l [] nl .nil⟩
      · rintro H6 ⟨rows2, kd, el2, gr2⟩
        exact go _ _ ⟨x5, D, rows2, rfl, kd, by omega, gr2⟩
    case rest3 =>
    clear kc gr el rows x5 H4 c
    rintro _ H4 ⟨x5, c, rows, rfl, kc, el, gr⟩
    show tSeq (tIfS _ _ _) _ _ _ _
    -- if way == 3
    refine cutS (fun σ H' => ∃ x5 c rows, σ = [some (.ref b), some (.int m), some (.int n), some (.int k), some (.ref c), x5, none, some (.int wy), none] ∧ Cards H H' b g c rows ∧ rows.length = n ∧ GoodRows n rows) ?rest4 (fun go => ?way3)
    case way3 =>
      refine ⟨_, rfl, rfl, _, rfl, ite2 (fun e => ?_) (fun e => go _ _ ⟨x5, c, rows, rfl, kc, el, gr⟩)⟩
      obtain ⟨qs, hqs, lqs⟩ := kc.list
      refine ⟨_, rfl, c, _, rfl, SqL.of hqs, fun D nD => ?_⟩
      refine lc_enumL (xs := qs.map V.ref) (fun i H' => ∃ rows2, Side H H' b g c rows D ∧ H' c = some (.lst (qs.map V.ref)) ∧ Cards H H' b g D rows2 ∧ rows2.length = i ∧ GoodRows n rows2) ⟨[], .new kc nD, same_new nD _ _ hqs, .nil kc.bt kc.bag nD, rfl, fun i r e => by simp at e⟩ (fun i H' z => SqL.of z.choose_spec.2.1) ?_ ?_
      · rintro i x T H6 hx ⟨rows2, sd, hc6, kd, rfl, gr2⟩ nT
        have hi : rows2.length < qs.length := by
          have := (List.getElem?_eq_some_iff.mp hx).1
          rw [List.length_map] at this
          exact this
        obtain ⟨r, hr'⟩ : ∃ r, rows[rows2.length]? = some r := ⟨_, List.getElem?_eq_getElem (by omega)⟩
        have sT := same_new (o := .tup [.int (rows2.length : Nat), x]) nT
        have sd7 := sd.same sT
        have kd7 := kd.same sT
        have hc7 := sT _ _ hc6
        refine ⟨T, _, rfl, SqT.of upd_same, rfl, _, _, rfl, _, _, rfl, rfl, rfl, ?_⟩
        generalize upd H6 T (.tup [.int (rows2.length : Nat), x]) = H7 at sd7 kd7 hc7 ⊢
        refine ⟨_, rfl, .inl ⟨_, rfl, _, _, rfl, rfl, (show (0 : Int) < 2 by decide), rfl, _, rfl, ite2 (fun e1 => ?_) (fun e1 => ?_)⟩⟩
        · obtain ⟨xs, q2, h1, _, h3, h4, h5, h6, h7, h8⟩ := sd7.k.row hr'
          obtain rfl := HO.lst.inj (Option.some.inj (h1.symm.trans hc7))
          obtain rfl := Option.some.inj (h3.symm.trans hx)
          have qD : q2 ≠ D := fun z => by
            have z2 := sd7.off qs hc7
            rw [List.getElem?_map] at h3
            obtain ⟨y, hy, e4⟩ := Option.map_eq_some_iff.mp h3
            have e5 : y = q2 := V.ref.inj e4
            rw [e5, z] at hy
            exact z2 (List.mem_of_getElem? hy)
          obtain ⟨acc, ha, la, kp⟩ := kd7.push h4 h5 h7 h8 qD
          exact ⟨_, rfl, acc, ha, by rw [la]; exact len_lt (by omega), _, sd7.set, by rw [upd_ne (Ne.symm sd7.pc)]; exact hc7, kp, by rw [List.length_append]; rfl, gr2.snoc (gr _ _ hr')⟩
        · refine ⟨len_le (by decide : 0 ≤ 1000), fun l nl => ?_⟩
          have sn := same_new (o := .lst []) nl
          obtain ⟨acc, ha, la, kp⟩ := (Side.new (o := .lst []) kd7 nl).push (r := []) upd_same
          exact ⟨acc, ha, by rw [la]; exact len_lt (by omega), _, (sd7.same sn).set, by rw [upd_ne (Ne.symm sd7.pc)]; exact sn _ _ hc7, kp, by rw [List.length_append]; rfl, gr2.snoc .nil⟩
      · rintro H6 ⟨rows2, sd, hc6, kd, el2, gr2⟩
        rw [List.length_map] at el2
        exact go _ _ ⟨x5, D, rows2, rfl, kd, by omega, gr2⟩
    case rest4 =>
    clear kc gr el rows x5 H4 c
    rintro _ H4 ⟨x5, c, rows, rfl, kc, el, gr⟩
    obtain ⟨qs, hqs, lqs⟩ := kc.list
    refine ⟨_, rfl, c, rfl, ⟨_, SqL.of hqs⟩, fun D nD => ?_⟩
    refine lc_list (xs := qs.map V.ref) (fun i H' => Side H H' b g c rows D ∧ H' c = some (.lst (qs.map V.ref)) ∧ ∃ as : List Addr, H' D = some (.lst (as.map V.ref)) ∧ as.length = i ∧ ∀ (j : Nat) (a : Addr) (r : List Int), as[j]? = some a → rows[j]? = some r → H' a = some (.tup (r.map V.int)))
      ⟨.new kc nD, same_new nD _ _ hqs, [], upd_same, rfl, fun j a r e => by simp at e⟩ (fun i H' _ z => SqL.of z.2.1) ?_ ?_
    · rintro i x H6 hx ⟨sd, hc6, as, hD, rfl, ht⟩
      have hi : as.length < qs.length := by
        have := (List.getElem?_eq_some_iff.mp hx).1
        rw [List.length_map] at this
        exact this
      obtain ⟨r, hr'⟩ : ∃ r, rows[as.length]? = some r := ⟨_, List.getElem?_eq_getElem (by omega)⟩
      obtain ⟨xs, q2, h1, _, h3, h4, h5, h6, h7, h8⟩ := sd.k.row hr'
      obtain rfl := HO.lst.inj (Option.some.inj (h1.symm.trans hc6))
      obtain rfl := Option.some.inj (h3.symm.trans hx)
      refine ⟨rfl, _, rfl, q2, _, rfl, .inl ⟨SqL.of h4, fun t nt => ?_⟩⟩
      have sn := same_new (o := .tup (r.map V.int)) nt
      refine ⟨_, sn _ _ hD, by rw [List.length_map]; exact len_lt (by omega), (sd.same sn).set, by rw [upd_ne (Ne.symm sd.pc)]; exact sn _ _ hc6, as ++ [t], by rw [upd_same, List.map_append]; rfl, by rw [List.length_append]; rfl, fun j a r' e1 e2 => ?_⟩
      have e3 : upd H6 t (.tup (r.map V.int)) a = some (.tup (r'.map V.int)) := by
        rcases get_snoc e1 with z | ⟨z1, z2⟩
        · exact sn _ _ (ht j a r' z e2)
        · rw [z1, hr'] at e2
          rw [z2, Option.some.inj e2.symm]
          exact upd_same
      rw [upd_ne (fun z => by rw [z, sn _ _ hD] at e3; cases e3)]
      exact e3
    · rintro H6 ⟨sd, hc6, as, hD, la, ht⟩
      rw [List.length_map] at la
      refine ⟨D, _, rfl, .inl ⟨SqL.of hD, fun t nt => ?_⟩⟩
      have sn := same_new (o := .tup (as.map V.ref)) nt
      refine q t rows _ (sd.k.bt.trans (.of sn)) (sd.k.bag.same sn) (sd.k.bt.none sd.k.bag nt) ⟨as, upd_same, by omega, fun i a r e1 e2 => sn _ _ (ht i a r e1 e2)⟩ ?_ (by omega)
      have at' : ∀ r ∈ rows, ∃ i, rows[i]? = some r := fun r hr => by
        obtain ⟨i, hi, e⟩ := List.getElem_of_mem hr
        exact ⟨i, by rw [← e]; exact List.getElem?_eq_getElem hi⟩
      refine ⟨by omega, by omega, fun r hr w hw => ?_, fun r hr => ?_, fun i r e => (gr i r e).2.2, fun r hr => ?_⟩
      · obtain ⟨i, e⟩ := at' r hr
        rw [el]
        exact (gr i r e).2.1 w hw
      · obtain ⟨i, e⟩ := at' r hr
        exact (gr i r e).1
      · obtain ⟨i, e⟩ := at' r hr
        exact Nat.le_trans (gr i r e).few n9
end
end Lw

set_option maxHeartbeats 4000000
namespace Hn
open PySem PySem.Spec PyProof.Rows L2 EF
open PySem.W (Frag keepIn)
theorem sl_tup' {K : Frag} {H : Hp} {a : Addr} {xs : List V} {lo hi : Option Int} {Q : VK} (h : H a = some (.tup xs)) (q : ∀ p H', Same H H' → H' p = some (.tup (cutV xs lo hi)) → Q (.ref p) H') : rSlA K (.ref a) lo hi H Q :=
  ⟨a, xs, rfl, SqT.of h, fun e => q a H (Same.refl H) (by rw [cut_all e]; exact h), fun _ p np => q p _ (same_new np) upd_same⟩
theorem cat_tup' {K : Frag} {H : Hp} {a c : Addr} {xs ys : List V} {Q : VK} (h : H a = some (.tup xs)) (k : H c = some (.tup ys)) (hl : xs.length + ys.length ≤ 1000) (q : ∀ p H', Same H H' → H' p = some (.tup (xs ++ ys)) → Q (.ref p) H') : rCatA K (.ref a) (.ref c) H Q :=
  ⟨a, c, xs, ys, rfl, rfl, SqT.of h, SqT.of k, len_le hl, fun e => q c H (Same.refl H) (by rw [e]; exact k), fun _ e => q a H (Same.refl H) (by rw [e, List.append_nil]; exact h), fun _ _ p np => q p _ (same_new np) upd_same⟩
end Hn
namespace Lw
open PySem PySem.Spec PyProof.Rows L2 EF Hn
open PySem.W (Frag keepIn)
abbrev s_law_changed : Stmt := top 35
abbrev N_law_changed : List Str := ["bag", "thing", "odd", "deep", "at", "way"]
theorem sc_law_changed : FnScope N_law_changed ["bag", "thing", "odd", "deep"] (defScope s_law_changed) := ⟨rfl, rfl, rfl, by decide +kernel, rfl, by decide +kernel, by decide +kernel⟩
def spChg (n : Nat) : Sp := fun vs H Q _ => ∃ (N : Addr → Prop) (b g : Addr) (d e : PyData) (x y : V) (k wd : Nat), vs = [.ref b, x, y, .int (k : Nat)] ∧ k < n ∧ BagAt H b g ∧ (∀ a, N a → a ≠ b ∧ a ≠ g) ∧ Rep N H d x ∧ Rep N H e y ∧ Wide wd d ∧ Wide wd e ∧ wd ≤ 300 ∧
  ∀ (d' : PyData) (x' : V) (H' : Hp), But b g H H' → BagAt H' b g → Rep (fun a => N a ∨ H a = none) H' d' x' → Wide (wd + 1) d' → Q x' H'
section
variable {P : Program} {w : World} {K : Frag} {mg : Str → Option Value} {base : Heap} {C : Addr}
theorem k_changed (B : Bl mg) (D : Dfn K mg "_law_changed" s_law_changed ["bag", "thing", "odd", "deep"]) (G_law_pick : Kept P w K mg base 1 "_law_pick" ["bag", "many"] spPick) : ∀ n, Kept P w K mg base (n + 1) "_law_changed" ["bag", "thing", "odd", "deep"] (spChg n)
  | 0 => (kept_zero D fun vs H Q E ⟨_, _, _, _, _, _, _, _, _, _, h, _⟩ => absurd h (Nat.not_lt_zero _)).mono (by decide)
  | n + 1 => by
    have G_law_changed := k_changed B D G_law_pick n
    refine D.kept (N := N_law_changed) sc_law_changed (fun vs H Q E h => ?_) (fun f cdv A outer s H vs Q E hr h => ?_)
    · obtain ⟨N, b, g, d, e, x, y, k, wd, rfl, _⟩ := h
      rfl
    obtain ⟨N, b, g, d, e, x, y, k, wd, rfl, hk, hb, hN, rx, ry, wx, wy, w3, q⟩ := h
    refine ⟨_, (pss_cons (ps_if (pw_or (pt_not (pt_val (pe_callB call_isi (by rfl) B.b_isinstance (by decide +kernel) (pa_cons (pv 1) (pa_cons (pe_bltn (v := .ty "tuple") (by rfl) B.b_tuple (by decide +kernel) rfl) pa_nil))))) (pw_or (pt_cmpR op_eq (pe_callB call_len_seq (by rfl) B.b_len PySem.boot_len (pa_cons (pv 1) pa_nil)) pe_int (nomark _)) (pw_or (pt_cmpR op_eq (pv 3) pe_int (nomark _)) (pw_or1 (pt_cmpR op_eq (pe_k G_law_pick (hr.mono (by first | decide | omega)) (by rfl) (pa_cons (pv 0) (pa_cons pe_int pa_nil))) pe_int (nomark _)))))).pt (pss_one (ps_ret (pv 2))) pss_nil)
      (pss_cons (ps_set (i := 4) sc_law_changed.nd rfl (Or.inl rfl) (pe_k G_law_pick (hr.mono (by first | decide | omega)) (by rfl) (pa_cons (pv 0) (pa_cons (pe_callB call_len_seq (by rfl) B.b_len PySem.boot_len (pa_cons (pv 1) pa_nil)) pa_nil))))
      (pss_cons (ps_set (i := 5) sc_law_changed.nd rfl (Or.inl rfl) (pe_k G_law_pick (hr.mono (by first | decide | omega)) (by rfl) (pa_cons (pv 0) (pa_cons pe_int pa_nil))))
      (pss_cons (ps_if (pt_cmpR op_eq (pv 5) pe_int (nomark _)) (pss_one (ps_ret (pe_op op_catA (pe_slice sl_tupA (pv 1) po_none (po_some (pv 4))) (pe_slice sl_tupA (pv 1) (po_some (pe_op op_add (pv 4) pe_int)) po_none)))) pss_nil)
      (pss_cons (ps_if (pt_cmpR op_eq (pv 5) pe_int (nomark _)) (pss_one (ps_ret (pe_op op_catA (pe_op op_catA (pe_slice sl_tupA (pv 1) po_none (po_some (pv 4))) (pe_slice sl_tupA (pv 1) (po_some (pv 4)) (po_some (pe_op op_add (pv 4) pe_int)))) (pe_slice sl_tupA (pv 1) (po_some (pv 4)) po_none)))) pss_nil)
      (pss_cons (ps_if (pt_cmpR op_eq (pv 5) pe_int (nomark _)) (pss_one (ps_ret (pe_op op_catA (pe_op op_catA (pe_slice sl_tupA (pv 1) po_none (po_some (pv 4))) (pe_revT (pe_slice sl_tupA (pv 1) (po_some (pv 4)) (po_some (pe_op op_add (pv 4) pe_int))))) (pe_slice sl_tupA (pv 1) (po_some (pe_op op_add (pv 4) pe_int)) po_none)))) pss_nil)
      (pss_cons (ps_if (pt_cmpR op_eq (pv 5) pe_int (nomark _)) (pss_one (ps_ret (pe_op op_catA (pe_op op_catA (pe_slice sl_tupA (pv 1) po_none (po_some (pv 4))) (pe_tup (pa_cons (pe_ifExp (pt_val (pe_callB call_isi (by rfl) B.b_isinstance (by decide +kernel) (pa_cons (pe_ix ix_tup (pv 1) (pv 4) (fun _ _ => rfl)) (pa_cons (pe_bltn (v := .ty "tuple") (by rfl) B.b_tuple (by decide +kernel) rfl) pa_nil)))) (pe_callTy call_list_of (by rfl) B.b_list (by decide +kernel) (pa_cons (pe_ix ix_tup (pv 1) (pv 4) (fun _ _ => rfl)) pa_nil)) (pe_lst (pa_cons (pe_ix ix_tup (pv 1) (pv 4) (fun _ _ => rfl)) pa_nil))) pa_nil))) (pe_slice sl_tupA (pv 1) (po_some (pe_op op_add (pv 4) pe_int)) po_none)))) pss_nil)
      (pss_one (ps_ret (pe_op op_catA (pe_op op_catA (pe_slice sl_tupA (pv 1) po_none (po_some (pv 4))) (pe_tup (pa_cons (pe_k G_law_changed (hr.mono (by first | decide | omega)) (by rfl) (pa_cons (pv 0) (pa_cons (pe_ix ix_tup (pv 1) (pv 4) (fun _ _ => rfl)) (pa_cons (pv 2) (pa_cons (pe_op op_sub (pv 3) pe_int) pa_nil))))) pa_nil))) (pe_slice sl_tupA (pv 1) (po_some (pe_op op_add (pv 4) pe_int)) po_none))))))))))), ?_⟩
    have mono : ∀ a, N a → (N a ∨ H a = none) := fun a h => .inl h
    have hN2 : ∀ a, (N a ∨ H a = none) → a ≠ b ∧ a ≠ g := fun a h => h.elim (hN a) hb.ne
    have ret : ∀ H', But b g H H' → BagAt H' b g → Q y H' := fun H' bt hb' => q e y H' bt hb' (ry.but hb bt hN mono) (wy.mono (Nat.le_succ _))
    have z := ret H .refl hb
    refine ⟨x, rfl, x, _, _, _, isTupD d, rfl, .ty _, rx.ty, kit_ty (kit_tup d), _, rfl, ?_⟩
    refine ite2 (fun e1 => ite2 (fun _ => ⟨y, rfl, z⟩) (fun n => absurd rfl n)) (fun e1 => ?_)
    cases d with
    | tuple ds =>
      obtain ⟨a, xs, rfl, ha, rl⟩ := rx
      have hl := rl.length
      have lw : ds.length ≤ wd := wx.1
      refine ⟨.ref a, rfl, a, xs, rfl, .inr (SqT.of ha), rfl, _, rfl, ite2 (fun e2 => ite2 (fun _ => ⟨y, rfl, z⟩) (fun n => absurd rfl n)) (fun e2 => ?_)⟩
      have x0 : 0 < xs.length := by
        rcases Nat.eq_zero_or_pos xs.length with y | y
        · rw [y] at e2
          exact absurd (decide_eq_true rfl) e2
        · exact y
      refine ⟨_, rfl, rfl, _, rfl, ite2 (fun e3 => ite2 (fun _ => ⟨y, rfl, z⟩) (fun n => absurd rfl n)) (fun e3 => ?_)⟩
      have k0 : 0 < k := by
        rcases Nat.eq_zero_or_pos k with y | y
        · rw [y] at e3
          exact absurd (decide_eq_true rfl) e3
        · exact y
      refine ⟨_, rfl, b, g, 6, rfl, hb, by decide, by decide, fun r H1 bt1 hb1 _ _ => ⟨rfl, _, rfl, ite2 (fun _ => ⟨y, rfl, ret H1 bt1 hb1⟩) (fun _ => ?_)⟩⟩
      have ha1 : H1 a = some (.tup xs) := bt1.keep hb ha (fun _ z => by cases z)
      -- at, way
      refine ⟨_, rfl, _, rfl, a, xs, rfl, .inr (SqT.of ha1), b, g, _, rfl, hb1, by omega, by omega, fun i0 H2 bt2 hb2 i1 i2 => ?_⟩
      obtain ⟨i, rfl⟩ : ∃ i : Nat, i0 = (i : Int) := ⟨i0.toNat, by omega⟩
      have hi : i < xs.length := by omega
      refine ⟨_, rfl, b, g, 9, rfl, hb2, by decide, by decide, fun way H3 bt3 hb3 _ _ => ?_⟩
      have bt : But b g H H3 := (bt1.trans bt2).trans bt3
      have ha3 : H3 a = some (.tup xs) := bt.keep hb ha (fun _ z => by cases z)
      have r3 : RepL (fun a => N a ∨ H a = none) H3 ds xs := rl.but hb bt hN mono
      clear bt1 bt2 bt3 hb1 hb2 ha1
      obtain ⟨x1, hx1⟩ : ∃ x1, xs[i]? = some x1 := ⟨_, List.getElem?_eq_getElem hi⟩
      obtain ⟨d1, hd1, rx1⟩ := r3.get hx1
      have wds : ∀ d ∈ ds, Wide (wd + 1) d := fun d h => (wx.at h).mono (Nat.le_succ _)
      have i1' : ((i : Int) + 1) = ((i + 1 : Nat) : Int) := rfl
      have i2' : ((i : Int) + 2) = ((i + 2 : Nat) : Int) := rfl
      have hat : atI xs (i : Int) = some x1 := atI_nat hx1
      have fin : ∀ (ds' : List PyData) (xs' : List V) (p : Addr) (H' : Hp), But b g H3 H' → BagAt H' b g → H' p = some (.tup xs') → RepL (fun a => N a ∨ H a = none) H' ds' xs' → ds'.length ≤ wd + 1 → (∀ d ∈ ds', Wide (wd + 1) d) → Q (.ref p) H' :=
        fun ds' xs' p H' b1 b2 hp rr ll ww => q (.tuple ds') (.ref p) H' (bt.trans b1) b2 ⟨p, xs', rfl, hp, rr⟩ (.of ll ww)
      have w_take : ∀ j, ∀ d ∈ ds.take j, Wide (wd + 1) d := fun j d h => wds d (List.mem_of_mem_take h)
      have w_drop : ∀ j, ∀ d ∈ ds.drop j, Wide (wd + 1) d := fun j d h => wds d (List.mem_of_mem_drop h)
      have w_app : ∀ {as bs : List PyData}, (∀ d ∈ as, Wide (wd + 1) d) → (∀ d ∈ bs, Wide (wd + 1) d) → ∀ d ∈ as ++ bs, Wide (wd + 1) d := fun h1 h2 d h => (List.mem_append.mp h).elim (h1 d) (h2 d)
      -- if way == 0
      refine ⟨_, rfl, rfl, _, rfl, ite2 (fun e4 => ?_) (fun e4 => ?_)⟩
      · refine ⟨_, rfl, _, rfl, _, rfl, ?_⟩
        refine sl_tup' ha3 fun p1 H4 s4 h4 => ⟨_, rfl, _, rfl, _, _, rfl, rfl, _, rfl, ?_⟩
        dsimp only [tNoPart]
        refine sl_tup' (s4 _ _ ha3) fun p2 H5 s5 h5 => ?_
        rw [cut_to] at h4
        rw [i1', cut_from] at h5
        have s35 := s4.trans s5
        have rr : RepL (fun a => N a ∨ H a = none) H3 (ds.take i ++ ds.drop (i + 1)) (xs.take i ++ xs.drop (i + 1)) := (r3.take i).app (r3.drop (i + 1))
        refine cat_tup' (s5 _ _ h4) h5 (by rw [List.length_take, List.length_drop]; omega) fun p3 H6 s6 h6 => ?_
        have s36 := s35.trans s6
        exact fin _ _ p3 H6 (.of s36) (hb3.same s36) h6 (rr.same s36) (by rw [List.length_append, List.length_take, List.length_drop]; omega) (w_app (w_take i) (w_drop (i + 1)))
      -- if way == 1
      refine ⟨_, rfl, rfl, _, rfl, ite2 (fun e5 => ?_) (fun e5 => ?_)⟩
      · refine ⟨_, rfl, _, rfl, _, rfl, ?_⟩
        refine sl_tup' ha3 fun p1 H4 s4 h4 => ⟨_, rfl, _, rfl, _, rfl, _, rfl, _, _, rfl, rfl, _, rfl, ?_⟩
        refine sl_tup' (s4 _ _ ha3) fun p2 H5 s5 h5 => ?_
        rw [cut_to] at h4
        rw [i1', cut_part, show i + 1 - i = 1 by omega] at h5
        refine cat_tup' (s5 _ _ h4) h5 (by rw [List.length_take, List.length_take, List.length_drop]; omega) fun p3 H6 s6 h6 => ?_
        have s36 := (s4.trans s5).trans s6
        refine ⟨_, rfl, _, rfl, _, rfl, ?_⟩
        dsimp only [tNoPart]
        refine sl_tup' (s36 _ _ ha3) fun p4 H7 s7 h7 => ?_
        rw [cut_from] at h7
        have rr : RepL (fun a => N a ∨ H a = none) H3 ((ds.take i ++ (ds.drop i).take 1) ++ ds.drop i) ((xs.take i ++ (xs.drop i).take 1) ++ xs.drop i) := ((r3.take i).app ((r3.drop i).take 1)).app (r3.drop i)
        refine cat_tup' (s7 _ _ h6) h7 (by rw [List.length_append, List.length_take, List.length_take, List.length_drop]; omega) fun p5 H8 s8 h8 => ?_
        have s38 := (s36.trans s7).trans s8
        exact fin _ _ p5 H8 (.of s38) (hb3.same s38) h8 (rr.same s38) (by rw [List.length_append, List.length_append, List.length_take, List.length_take, List.length_drop]; omega) (w_app (w_app (w_take i) fun d h => w_drop i d (List.mem_of_mem_take h)) (w_drop i))
      -- if way == 2
      refine ⟨_, rfl, rfl, _, rfl, ite2 (fun e6 => ?_) (fun e6 => ?_)⟩
      · refine ⟨_, rfl, _, rfl, _, rfl, ?_⟩
        refine sl_tup' ha3 fun p1 H4 s4 h4 => ⟨_, rfl, _, rfl, _, rfl, _, rfl, _, _, rfl, rfl, _, rfl, ?_⟩
        refine sl_tup' (s4 _ _ ha3) fun p2 H5 s5 h5 => ⟨p2, _, rfl, SqT.of h5, fun p3 np3 => ?_⟩
        rw [cut_to] at h4
        rw [i2', cut_part, show i + 2 - i = 2 by omega] at h5 ⊢
        have s6 := same_new (o := .tup ((xs.drop i).take 2).reverse) np3
        refine cat_tup' (s6 _ _ (s5 _ _ h4)) upd_same (by rw [List.length_reverse, List.length_take, List.length_take, List.length_drop]; omega) fun p4 H7 s7 h7 => ?_
        have s37 := ((s4.trans s5).trans s6).trans s7
        refine ⟨_, rfl, _, rfl, _, _, rfl, rfl, _, rfl, ?_⟩
        dsimp only [tNoPart]
        refine sl_tup' (s37 _ _ ha3) fun p5 H8 s8 h8 => ?_
        rw [i2', cut_from] at h8
        have rr : RepL (fun a => N a ∨ H a = none) H3 ((ds.take i ++ ((ds.drop i).take 2).reverse) ++ ds.drop (i + 2)) ((xs.take i ++ ((xs.drop i).take 2).reverse) ++ xs.drop (i + 2)) := ((r3.take i).app ((r3.drop i).take 2).rev).app (r3.drop (i + 2))
        refine cat_tup' (s8 _ _ h7) h8 (by rw [List.length_append, List.length_reverse, List.length_take, List.length_take, List.length_drop, List.length_drop]; omega) fun p6 H9 s9 h9 => ?_
        have s39 := (s37.trans s8).trans s9
        exact fin _ _ p6 H9 (.of s39) (hb3.same s39) h9 (rr.same s39) (by rw [List.length_append, List.length_append, List.length_reverse, List.length_take, List.length_take, List.length_drop, List.length_drop]; omega) (w_app (w_app (w_take i) fun d h => w_drop i d (List.mem_of_mem_take (List.mem_reverse.mp h))) (w_drop (i + 2)))
      -- if way == 3
      refine ⟨_, rfl, rfl, _, rfl, ite2 (fun e7 => ?_) (fun e7 => ?_)⟩
      · refine ⟨_, rfl, _, rfl, _, rfl, ?_⟩
        refine sl_tup' ha3 fun p1 H4 s4 h4 => ?_
        rw [cut_to] at h4
        have new4 : ∀ l, H4 l = none → H l = none := fun l nl => bt.none hb3 (none_of s4 nl)
        refine ⟨_, rfl, _, rfl, a, xs, _, x1, rfl, rfl, SqT.of (s4 _ _ ha3), hat, x1, _, _, _, isTupD d1, rfl, .ty _, (rx1.same s4).ty, kit_ty (kit_tup d1), _, rfl, ite2 (fun e8 => ?_) (fun e8 => ?_)⟩
        · cases d1 with
          | tuple es =>
            obtain ⟨c, ys, rfl, hc, rc⟩ := rx1
            refine ⟨_, rfl, _, rfl, a, xs, _, .ref c, rfl, rfl, SqT.of (s4 _ _ ha3), hat, c, ys, rfl, .inr (SqT.of (s4 _ _ hc)), fun l nl => ⟨len_le (by decide : 1 ≤ 1000), fun t nt => ?_⟩⟩
            have sl := same_new (o := .lst ys) nl
            have st := same_new (o := .tup [.ref l]) nt
            have s5 := s4.trans (sl.trans st)
            refine cat_tup' (st _ _ (sl _ _ h4)) (upd_same) (by rw [List.length_take]; show _ + 1 ≤ 1000; omega) fun p3 H6 s6 h6 => ⟨_, rfl, _, rfl, _, _, rfl, rfl, _, rfl, ?_⟩
            dsimp only [tNoPart]
            have b6 := (But.of (b := b) (g := g) s5).trans (.of s6)
            have a6 : H6 a = some (.tup xs) := b6.keep hb3 ha3 (fun _ z => by cases z)
            refine sl_tup' a6 fun p4 H7 s7 h7 => ?_
            rw [i1', cut_from] at h7
            have rx2 : Rep (fun a => N a ∨ H a = none) H6 (.list es) (.ref l) := Rep.same s6 ((⟨l, ys, rfl, .inr (new4 l nl), st _ _ upd_same, rc.same s5⟩ : Rep (fun a => N a ∨ H a = none) _ (.list es) (.ref l)))
            have rr : RepL (fun a => N a ∨ H a = none) H6 ((ds.take i ++ [(.list es)]) ++ ds.drop (i + 1)) ((xs.take i ++ [(.ref l)]) ++ xs.drop (i + 1)) := (((r3.take i).but hb3 b6 hN2 (fun _ h => h)).app (show RepL (fun a => N a ∨ H a = none) H6 [(.list es)] [(.ref l)] from ⟨_, [], rfl, rx2, rfl⟩)).app ((r3.drop (i + 1)).but hb3 b6 hN2 (fun _ h => h))
            refine cat_tup' (s7 _ _ h6) h7 (by rw [List.length_append, List.length_take, List.length_drop]; show _ + 1 + _ ≤ 1000; omega) fun p5 H8 s8 h8 => ?_
            have s78 := s7.trans s8
            exact fin _ _ p5 H8 (b6.trans (.of s78)) (((hb3.same s5).same s6).same s78) h8 (rr.same s78) (by rw [List.length_append, List.length_append, List.length_take, List.length_drop]; show _ + 1 + _ ≤ _; omega) (w_app (w_app (w_take i) fun d h => by rw [List.mem_singleton.mp h]; exact trivial) (w_drop (i + 1)))
          | _ => cases e8
        · refine ⟨_, rfl, _, rfl, a, xs, _, x1, rfl, rfl, SqT.of (s4 _ _ ha3), hat, len_le (by decide : 1 ≤ 1000), fun l nl => ⟨len_le (by decide : 1 ≤ 1000), fun t nt => ?_⟩⟩
          have sl := same_new (o := .lst [x1]) nl
          have st := same_new (o := .tup [.ref l]) nt
          have s5 := s4.trans (sl.trans st)
          refine cat_tup' (st _ _ (sl _ _ h4)) (upd_same) (by rw [List.length_take]; show _ + 1 ≤ 1000; omega) fun p3 H6 s6 h6 => ⟨_, rfl, _, rfl, _, _, rfl, rfl, _, rfl, ?_⟩
          dsimp only [tNoPart]
          have b6 := (But.of (b := b) (g := g) s5).trans (.of s6)
          have a6 : H6 a = some (.tup xs) := b6.keep hb3 ha3 (fun _ z => by cases z)
          refine sl_tup' a6 fun p4 H7 s7 h7 => ?_
          rw [i1', cut_from] at h7
          have rx2 : Rep (fun a => N a ∨ H a = none) H6 (.list [d1]) (.ref l) := Rep.same s6 ((⟨l, [x1], rfl, .inr (new4 l nl), st _ _ upd_same, x1, [], rfl, rx1.same s5, rfl⟩ : Rep (fun a => N a ∨ H a = none) _ (.list [d1]) (.ref l)))
          have rr : RepL (fun a => N a ∨ H a = none) H6 ((ds.take i ++ [(.list [d1])]) ++ ds.drop (i + 1)) ((xs.take i ++ [(.ref l)]) ++ xs.drop (i + 1)) := (((r3.take i).but hb3 b6 hN2 (fun _ h => h)).app (show RepL (fun a => N a ∨ H a = none) H6 [(.list [d1])] [(.ref l)] from ⟨_, [], rfl, rx2, rfl⟩)).app ((r3.drop (i + 1)).but hb3 b6 hN2 (fun _ h => h))
          refine cat_tup' (s7 _ _ h6) h7 (by rw [List.length_append, List.length_take, List.length_drop]; show _ + 1 + _ ≤ 1000; omega) fun p5 H8 s8 h8 => ?_
          have s78 := s7.trans s8
          exact fin _ _ p5 H8 (b6.trans (.of s78)) (((hb3.same s5).same s6).same s78) h8 (rr.same s78) (by rw [List.length_append, List.length_append, List.length_take, List.length_drop]; show _ + 1 + _ ≤ _; omega) (w_app (w_app (w_take i) fun d h => by rw [List.mem_singleton.mp h]; exact trivial) (w_drop (i + 1)))
      -- deeper
      refine ⟨_, rfl, _, rfl, _, rfl, ?_⟩
      refine sl_tup' ha3 fun p1 H4 s4 h4 => ?_
      rw [cut_to] at h4
      have ry3 : Rep (fun a => N a ∨ H a = none) H3 e y := ry.but hb bt hN mono
      refine ⟨_, rfl, _, rfl, _, rfl, a, xs, _, x1, rfl, rfl, SqT.of (s4 _ _ ha3), hat, _, rfl, _, rfl, _, _, rfl, rfl, ?_⟩
      refine ⟨fun a => N a ∨ H a = none, b, g, d1, e, x1, y, k - 1, wd, by show [V.ref b, x1, y, V.int ((k : Nat) - 1)] = _; rw [show ((k : Nat) : Int) - 1 = ((k - 1 : Nat) : Int) by omega], by omega, hb3.same s4, hN2, rx1.same s4, ry3.same s4, wx.at (List.mem_of_getElem? hd1), wy, w3, fun d2 x2 H5 bt5 hb5 r5 w5 => ⟨len_le (by decide : 1 ≤ 1000), fun t nt => ?_⟩⟩
      have st := same_new (o := .tup [x2]) nt
      have b45 : But b g H3 H5 := (But.of s4).trans bt5
      have rr5 : Rep (fun a => N a ∨ H a = none) H5 d2 x2 := r5.all fun l h => h.elim id fun z => .inr (bt.none hb3 (none_of s4 z))
      refine cat_tup' (st _ _ (bt5.keep (hb3.same s4) h4 (fun _ z => by cases z))) (upd_same) (by rw [List.length_take]; show _ + 1 ≤ 1000; omega) fun p3 H6 s6 h6 => ⟨_, rfl, _, rfl, _, _, rfl, rfl, _, rfl, ?_⟩
      dsimp only [tNoPart]
      have b6 := (b45.trans (.of st)).trans (.of s6)
      have a6 : H6 a = some (.tup xs) := b6.keep hb3 ha3 (fun _ z => by cases z)
      refine sl_tup' a6 fun p4 H7 s7 h7 => ?_
      rw [i1', cut_from] at h7
      have rx2 : Rep (fun a => N a ∨ H a = none) H6 d2 x2 := Rep.same s6 (rr5.same st)
      have rr : RepL (fun a => N a ∨ H a = none) H6 ((ds.take i ++ [d2]) ++ ds.drop (i + 1)) ((xs.take i ++ [x2]) ++ xs.drop (i + 1)) := (((r3.take i).but hb3 b6 hN2 (fun _ h => h)).app (show RepL (fun a => N a ∨ H a = none) H6 [d2] [x2] from ⟨_, [], rfl, rx2, rfl⟩)).app ((r3.drop (i + 1)).but hb3 b6 hN2 (fun _ h => h))
      refine cat_tup' (s7 _ _ h6) h7 (by rw [List.length_append, List.length_take, List.length_drop]; show _ + 1 + _ ≤ 1000; omega) fun p5 H8 s8 h8 => ?_
      have s78 := s7.trans s8
      exact fin _ _ p5 H8 (b6.trans (.of s78)) (((hb5.same st).same s6).same s78) h8 (rr.same s78) (by rw [List.length_append, List.length_append, List.length_take, List.length_drop]; show _ + 1 + _ ≤ _; omega) (w_app (w_app (w_take i) fun d h => by rw [List.mem_singleton.mp h]; exact w5) (w_drop (i + 1)))
    | _ => exact absurd rfl e1
end
end Lw

set_option maxHeartbeats 8000000
namespace Lw
open PySem PySem.Spec PyProof.Rows L2 EF Hn
open PySem.W (Frag keepIn)
abbrev slaw : Stmt := top 37
abbrev Nlaw : List Str := ["script", "bag", "turn", "web", "thing", "odd", "change", "due", "ask"]
theorem sclaw : FnScope Nlaw ["script"] (defScope slaw) := ⟨rfl, rfl, rfl, by decide +kernel, rfl, by decide +kernel, by decide +kernel⟩
def spLaw (K : Frag) : Sp := fun vs H Q _ => ∃ (a : Addr) (ns : List Int), vs = [.ref a] ∧ SqL K H a (ns.map V.int) ∧ ns.length ≤ 63 ∧ ∀ H', Q (.bl true) H'
section
variable {P : Program} {w : World} {K : Frag} {mg : Str → Option Value} {base : Heap} {C : Addr}
theorem ok_law {f : Addr} {fd : FuncData} (F : Fun K "law" "law" slaw f fd) (B : Bl mg)
    (G_law_bag : Kept P w K mg base 1 "_law_bag" ["script"] (spBag K)) (G_law_pick : Kept P w K mg base 1 "_law_pick" ["bag", "many"] spPick) (G_law_some : Kept P w K mg base 2 "_law_some" ["bag", "things"] (spSome K)) (G_law_deep : Kept P w K mg base 1 "_law_deep" [] spDeepR)
    (G_law_web : Kept P w K mg base 3 "_law_web" ["bag", "most"] spDraw) (G_law_changed : Kept P w K mg base 5 "_law_changed" ["bag", "thing", "odd", "deep"] (spChg 4))
    (G_law_is : Kept P w K mg base 24 "_law_is" ["thing", "due"] (spIs 24)) (G_law_is_web : Kept P w K mg base 2 "_law_is_web" ["thing"] spWeb) (Gis_web : Kept P w K mg base 5 "is_web" ["thing"] spWeb)
    (G_law_word : Kept P w K mg base 8 "_law_word" ["ask", "thing"] (spWord P w K mg base C))
    {f1 f2 f3 : Addr} (g1 : mg "finds" = some (.ref f1)) (a1 : Asker P w K mg base C f1) (g2 : mg "pieces" = some (.ref f2)) (a2 : Asker P w K mg base C f2) (g3 : mg "knots" = some (.ref f3)) (a3 : Asker P w K mg base C f3) :
    FnOk P w K mg base CX0 25 f fd ["script"] (spLaw K) := by
  refine F.ok (N := Nlaw) sclaw (fun vs H Q E h => ?_) (fun cdv A outer s H vs Q E hr h => ?_)
  · obtain ⟨a, ns, rfl, _⟩ := h
    rfl
  obtain ⟨a, ns, rfl, hS, h63, q⟩ := h
  refine ⟨_, (pss_cons (ps_set (i := 1) sclaw.nd rfl (Or.inl rfl) (pe_k G_law_bag (hr.mono (by first | decide | omega)) (by rfl) (pa_cons (pv 0) pa_nil)))
      (pss_cons (ps_for PassesOwn.never rfl (pi_range1 (by rfl) B.b_range (pa_cons pe_int pa_nil)) (pg_name (i := 2) sclaw.nd rfl (Or.inl rfl)) (pss_cons (ps_set (i := 3) sclaw.nd rfl (Or.inl rfl) (pe_k G_law_web (hr.mono (by first | decide | omega)) (by rfl) (pa_cons (pv 1) (pa_cons pe_int pa_nil))))
      (pss_cons (ps_set (i := 4) sclaw.nd rfl (Or.inr rfl) (pv 3))
      (pss_cons (ps_set (i := 5) sclaw.nd rfl (Or.inl rfl) (pe_lst (pa_cons pe_int (pa_cons pe_int (pa_cons (pe_callB call_len_seq (by rfl) B.b_len PySem.boot_len (pa_cons (pv 3) pa_nil)) (pa_cons (pe_op op_sub (pe_callB call_len_seq (by rfl) B.b_len PySem.boot_len (pa_cons (pv 3) pa_nil)) pe_int) (pa_cons (pe_un un_neg pe_int) (pa_cons pe_bl (pa_cons pe_bl (pa_cons pe_non (pa_cons pe_str (pa_cons pe_str (pa_cons (pe_tup pa_nil) (pa_cons (pe_lst pa_nil) (pa_cons pe_dnewK (pa_cons (pe_tup (pa_cons pe_int pa_nil)) (pa_cons (pe_tup (pa_cons pe_int pa_nil)) (pa_cons (pe_lst (pa_cons pe_int pa_nil)) (pa_cons (pe_tup (pa_cons (pe_tup pa_nil) pa_nil)) pa_nil)))))))))))))))))))
      (pss_cons (ps_set (i := 5) sclaw.nd rfl (Or.inl rfl) (pe_op op_cat (pv 5) (pe_lst (pa_cons (pv 3) (pa_cons (pe_callTy call_list_of (by rfl) B.b_list (by decide +kernel) (pa_cons (pv 3) pa_nil)) pa_nil)))))
      (pss_cons (ps_set (i := 5) sclaw.nd rfl (Or.inl rfl) (pe_op op_cat (pv 5) (pe_lst (pa_cons (pe_ix ix_tup (pv 3) pe_int (fun _ _ => rfl)) (pa_cons (pe_op op_pow pe_int pe_int) (pa_cons (pe_disp (pps_cons pe_int (pe_tup pa_nil) pps_nil) (by rfl) (by rfl) (fun z => by cases z) (by decide)) (pa_cons (pe_k0 G_law_deep (hr.mono (by first | decide | omega)) (by rfl)) (pa_cons (pe_tup (pa_cons pe_int (pa_cons pe_int pa_nil))) (pa_cons (pe_tup (pa_cons pe_int (pa_cons pe_int pa_nil))) (pa_cons (pe_op op_repT (pe_tup (pa_cons (pe_tup pa_nil) pa_nil)) pe_int) (pa_cons (pe_op op_repT (pe_tup (pa_cons (pe_tup pa_nil) pa_nil)) pe_int) pa_nil)))))))))))
      (pss_cons (ps_for PassesOwn.never rfl (pi_range1 (by rfl) B.b_range (pa_cons (pe_k G_law_pick (hr.mono (by first | decide | omega)) (by rfl) (pa_cons (pv 1) (pa_cons pe_int pa_nil))) pa_nil)) (pg_name (i := 6) sclaw.nd rfl (Or.inl rfl)) (pss_one (ps_set (i := 4) sclaw.nd rfl (Or.inr rfl) (pe_k G_law_changed (hr.mono (by first | decide | omega)) (by rfl) (pa_cons (pv 1) (pa_cons (pv 4) (pa_cons (pe_k G_law_some (hr.mono (by first | decide | omega)) (by rfl) (pa_cons (pv 1) (pa_cons (pv 5) pa_nil))) (pa_cons pe_int pa_nil))))))))
      (pss_cons (ps_if (pt_cmpR op_eq (pe_k G_law_pick (hr.mono (by first | decide | omega)) (by rfl) (pa_cons (pv 1) (pa_cons pe_int pa_nil))) pe_int (nomark _)) (pss_one (ps_set (i := 4) sclaw.nd rfl (Or.inr rfl) (pe_k G_law_some (hr.mono (by first | decide | omega)) (by rfl) (pa_cons (pv 1) (pa_cons (pv 5) pa_nil))))) pss_nil)
      (pss_cons (ps_set (i := 7) sclaw.nd rfl (Or.inr rfl) (pe_k G_law_is_web (hr.mono (by first | decide | omega)) (by rfl) (pa_cons (pv 4) pa_nil)))
      (pss_cons (ps_if (pt_not (pt_val (pe_k G_law_is (hr.mono (by first | decide | omega)) (by rfl) (pa_cons (pe_k Gis_web (hr.mono (by first | decide | omega)) (by rfl) (pa_cons (pv 4) pa_nil)) (pa_cons (pv 7) pa_nil))))) (pss_one (ps_ret pe_bl)) pss_nil)
      (pss_one (ps_if (pt_val (pe_callB (cr_any rfl) (by rfl) B.b_any (by decide +kernel) (pa_cons (pe_lc (own := [("ask", 8)]) (g := gName 8) (by rfl) sclaw.nd (pi_list (pe_lst (pa_cons (pe_glob (v := .ref f1) (by rfl) g1 rfl) (pa_cons (pe_glob (v := .ref f2) (by rfl) g2 rfl) (pa_cons (pe_glob (v := .ref f3) (by rfl) g3 rfl) pa_nil))))) (blkOk_by (own := [("ask", 8)]) (N := Nlaw) (sc := defScope slaw) (by decide +kernel)) (fun _ _ _ _ _ => (pg_name (i := 8) sclaw.nd rfl (Or.inl rfl))) (fun _ _ _ _ _ => pts_nil) (fun _ _ _ _ _ => (pe_cmpR op_ne (pe_k G_law_word (hr.mono (by first | decide | omega)) (by rfl) (pa_cons (pv 8) (pa_cons (pv 4) pa_nil))) (pe_ifExp (pt_val (pv 7)) pe_str pe_str) (nomark _)))) pa_nil))) (pss_one (ps_ret pe_bl)) pss_nil))))))))))))
      (pss_one (ps_ret pe_bl)))), ?_⟩
  -- bag = _law_bag(script)
  refine ⟨_, rfl, a, ns, rfl, hS, h63, fun b g H1 s1 nb ng hb => ?_⟩
  refine ⟨8, rfl, by decide, by decide, for_range (n := 8) (fun i σ H' => ∃ x2 x3 x4 x5 x6 x7 x8, σ = [some (.ref a), some (.ref b), x2, x3, x4, x5, x6, x7, x8] ∧ BagAt H' b g) ⟨_, _, _, _, _, _, _, rfl, hb⟩ ?_ (fun σ H' _ => q H')⟩
  rintro i σ H2 _ ⟨x2, x3, x4, x5, x6, x7, x8, rfl, hb2⟩
  -- web = _law_web(bag, 9)
  refine ⟨_, rfl, b, g, 9, rfl, hb2, by decide, by decide, fun p rows H3 bt3 hb3 np wa wr _ => ?_⟩
  obtain ⟨as, hp, las, hrow⟩ := wa
  have ow : Odd b g H3 (.ref p) := by
    refine .tup hp (by rw [List.length_map, las]; exact Nat.le_trans wr.nine (by decide)) fun x hx => ?_
    obtain ⟨q', hq', rfl⟩ := List.mem_map.mp hx
    obtain ⟨j, hj, e⟩ := List.getElem_of_mem hq'
    have hr1 : rows[j]? = some (rows[j]'(by omega)) := List.getElem?_eq_getElem (by omega)
    refine .tup (hrow j q' _ (by rw [← e]; exact List.getElem?_eq_getElem hj) hr1) ?_ fun y hy => ?_
    · rw [List.length_map]
      exact Nat.le_trans (wr.few _ (List.mem_of_getElem? hr1)) (by decide)
    · obtain ⟨k, _, rfl⟩ := List.mem_map.mp hy
      exact .int k
  have as0 : 0 < as.length := by have := wr.one; omega
  clear wr hrow las np bt3 hb2
  have acc := Odds.one ow
  clear ow
  -- thing = web
  refine ⟨_, rfl, ?_⟩
  -- odd = [..]
  refine ⟨_, rfl, p, _, rfl, .inr (SqT.of hp), _, rfl, p, _, rfl, .inr (SqT.of hp), _, _, rfl, rfl, _, rfl, len_le (by decide : 0 ≤ 1000), fun p1 n1 => ?_⟩
  obtain ⟨s1, hb1_, acc⟩ := Odds.addT (xs := []) hb3 n1 (Nat.le_of_ble_eq_true rfl) (.nil) acc
  have hpN := s1 _ _ hp
  clear hp
  have hp := hpN
  clear hpN
  generalize upd H3 p1 (.tup []) = J1 at s1 hb1_ acc hp ⊢
  refine ⟨len_le (by decide : 0 ≤ 1000), fun p2 n2 => ?_⟩
  obtain ⟨s2, hb2_, acc⟩ := Odds.addL (xs := []) hb1_ n2 (.nil) acc
  have hpN := s2 _ _ hp
  clear hp
  have hp := hpN
  clear hpN
  generalize upd J1 p2 (.lst []) = J2 at s2 hb2_ acc hp ⊢
  refine fun p3 n3 => ?_
  obtain ⟨s3, hb3_, acc⟩ := Odds.addD (kvs := []) hb2_ n3 acc
  have hpN := s3 _ _ hp
  clear hp
  have hp := hpN
  clear hpN
  generalize upd J2 p3 (.dK []) = J3 at s3 hb3_ acc hp ⊢
  refine ⟨len_le (by decide : 1 ≤ 1000), fun p4 n4 => ?_⟩
  obtain ⟨s4, hb4_, acc⟩ := Odds.addT (xs := [.int 0]) hb3_ n4 (Nat.le_of_ble_eq_true rfl) (.one (.int _)) acc
  have hpN := s4 _ _ hp
  clear hp
  have hp := hpN
  clear hpN
  generalize upd J3 p4 (.tup [.int 0]) = J4 at s4 hb4_ acc hp ⊢
  refine ⟨len_le (by decide : 1 ≤ 1000), fun p5 n5 => ?_⟩
  obtain ⟨s5, hb5_, acc⟩ := Odds.addT (xs := [.int 1]) hb4_ n5 (Nat.le_of_ble_eq_true rfl) (.one (.int _)) acc
  have hpN := s5 _ _ hp
  clear hp
  have hp := hpN
  clear hpN
  generalize upd J4 p5 (.tup [.int 1]) = J5 at s5 hb5_ acc hp ⊢
  refine ⟨len_le (by decide : 1 ≤ 1000), fun p6 n6 => ?_⟩
  obtain ⟨s6, hb6_, acc⟩ := Odds.addL (xs := [.int 0]) hb5_ n6 (.one (.int _)) acc
  have hpN := s6 _ _ hp
  clear hp
  have hp := hpN
  clear hpN
  generalize upd J5 p6 (.lst [.int 0]) = J6 at s6 hb6_ acc hp ⊢
  refine ⟨len_le (by decide : 0 ≤ 1000), fun p7 n7 => ?_⟩
  obtain ⟨s7, hb7_, acc⟩ := Odds.addT (xs := []) hb6_ n7 (Nat.le_of_ble_eq_true rfl) (.nil) acc
  have hpN := s7 _ _ hp
  clear hp
  have hp := hpN
  clear hpN
  generalize upd J6 p7 (.tup []) = J7 at s7 hb7_ acc hp ⊢
  refine ⟨len_le (by decide : 1 ≤ 1000), fun p8 n8 => ?_⟩
  obtain ⟨s8, hb8_, acc⟩ := Odds.addT (xs := [.ref p7]) hb7_ n8 (Nat.le_of_ble_eq_true rfl) (.one (acc _ (by simp))) acc
  have hpN := s8 _ _ hp
  clear hp
  have hp := hpN
  clear hpN
  generalize upd J7 p8 (.tup [.ref p7]) = J8 at s8 hb8_ acc hp ⊢
  refine ⟨len_le (by decide : 17 ≤ 1000), fun p9 n9 => ?_⟩
  have od : Odds b g J8 [.int 0, .int 1, .int ((as.map V.ref).length : Nat), .int (((as.map V.ref).length : Nat) - 1), .int (-1), .bl true, .bl false, .non, .str "0", .str "", .ref p1, .ref p2, .ref p3, .ref p4, .ref p5, .ref p6, .ref p8] := (.cons (.int _) (.cons (.int _) (.cons (.int _) (.cons (.int _) (.cons (.int _) (.cons (.bl _) (.cons (.bl _) (.cons .non (.cons (.str _) (.cons (.str _) (.cons (acc _ (by simp)) (.cons (acc _ (by simp)) (.cons (acc _ (by simp)) (.cons (acc _ (by simp)) (.cons (acc _ (by simp)) (.cons (acc _ (by simp)) (.one (acc _ (by simp)))))))))))))))))))
  obtain ⟨s9, hb9_, acc⟩ := Odds.addL hb8_ n9 od acc
  have odN := od.same s9
  clear od
  have od := odN
  clear odN
  have hl := upd_same (H := J8) (a := p9) (o := .lst [.int 0, .int 1, .int ((as.map V.ref).length : Nat), .int (((as.map V.ref).length : Nat) - 1), .int (-1), .bl true, .bl false, .non, .str "0", .str "", .ref p1, .ref p2, .ref p3, .ref p4, .ref p5, .ref p6, .ref p8])
  have hpN := s9 _ _ hp
  clear hp
  have hp := hpN
  clear hpN
  have el : ([.int 0, .int 1, .int ((as.map V.ref).length : Nat), .int (((as.map V.ref).length : Nat) - 1), .int (-1), .bl true, .bl false, .non, .str "0", .str "", .ref p1, .ref p2, .ref p3, .ref p4, .ref p5, .ref p6, .ref p8] : List V).length = 17 := rfl
  generalize upd J8 p9 (.lst [.int 0, .int 1, .int ((as.map V.ref).length : Nat), .int (((as.map V.ref).length : Nat) - 1), .int (-1), .bl true, .bl false, .non, .str "0", .str "", .ref p1, .ref p2, .ref p3, .ref p4, .ref p5, .ref p6, .ref p8]) = J9 at s9 hb9_ acc od hl hp ⊢
  generalize ([.int 0, .int 1, .int ((as.map V.ref).length : Nat), .int (((as.map V.ref).length : Nat) - 1), .int (-1), .bl true, .bl false, .non, .str "0", .str "", .ref p1, .ref p2, .ref p3, .ref p4, .ref p5, .ref p6, .ref p8] : List V) = xs1 at od hl el
  -- odd = odd + [web, list(web)]
  refine ⟨_, rfl, _, rfl, _, rfl, p, _, rfl, .inr (SqT.of hp), fun p10 n10 => ?_⟩
  have oas : Odds b g J9 (as.map V.ref) := by
    obtain ⟨d, r, wd⟩ := acc (.ref p) (by simp)
    intro x hx
    cases d with
    | tuple ds =>
      obtain ⟨a', xs', e1, e2, rl⟩ := r
      obtain rfl : p = a' := V.ref.inj e1
      obtain rfl := HO.tup.inj (Option.some.inj (hp.symm.trans e2))
      obtain ⟨j, hj, e⟩ := List.getElem_of_mem hx
      obtain ⟨d', hd', r'⟩ := rl.get (x := x) (i := j) (by rw [← e]; exact List.getElem?_eq_getElem hj)
      exact ⟨d', r', wd.at (List.mem_of_getElem? hd')⟩
    | list ds =>
      obtain ⟨a', xs', e1, _, e2, _⟩ := r
      obtain rfl : p = a' := V.ref.inj e1
      rw [hp] at e2
      cases e2
    | dict ds =>
      obtain ⟨a', xs', e1, e2⟩ := r
      obtain rfl : p = a' := V.ref.inj e1
      rw [hp] at e2
      cases e2
    | _ => cases r
  obtain ⟨s10, hb10_, acc⟩ := Odds.addL (xs := (as.map V.ref)) hb9_ n10 oas acc
  have hpN := s10 _ _ hp
  clear hp
  have hp := hpN
  clear hpN
  generalize upd J9 p10 (.lst (as.map V.ref)) = J10 at s10 hb10_ acc hp ⊢
  have hlN := s10 _ _ hl
  clear hl
  have hl := hlN
  clear hlN
  have odN := od.same s10
  clear od
  have od := odN
  clear odN
  refine ⟨len_le (by decide : 2 ≤ 1000), fun p11 n11 => ?_⟩
  have od2 : Odds b g J10 [.ref p, .ref p10] := .cons (acc _ (by simp)) (.one (acc _ (by simp)))
  obtain ⟨s11, hb11_, acc⟩ := Odds.addL hb10_ n11 od2 acc
  have odN := (od.same s11).app (od2.same s11)
  clear od
  have od := odN
  clear odN
  have hlN := s11 _ _ hl
  clear hl
  have hl := hlN
  clear hlN
  have hpN := s11 _ _ hp
  clear hp
  have hp := hpN
  clear hpN
  have hl2 := upd_same (H := J10) (a := p11) (o := .lst [.ref p, .ref p10])
  generalize upd J10 p11 (.lst [.ref p, .ref p10]) = J11 at s11 hb11_ acc od hl hl2 hp ⊢
  refine ⟨p9, p11, _, _, rfl, rfl, hl, hl2, len_le (by rw [el]; show 17 + 2 ≤ 1000; decide), fun p12 n12 => ?_⟩
  obtain ⟨s12, hb12_, acc⟩ := Odds.addL hb11_ n12 od acc
  have odN := od.same s12
  clear od
  have od := odN
  clear odN
  have hpN := s12 _ _ hp
  clear hp
  have hp := hpN
  clear hpN
  have hl := upd_same (H := J11) (a := p12) (o := .lst (xs1 ++ [.ref p, .ref p10]))
  have el : (xs1 ++ [V.ref p, V.ref p10]).length = 19 := by rw [List.length_append, el]; rfl
  generalize upd J11 p12 (.lst (xs1 ++ [.ref p, .ref p10])) = J12 at s12 hb12_ acc od hl hp ⊢
  generalize xs1 ++ [V.ref p, V.ref p10] = xs2 at od hl el
  clear hl2 od2
  -- odd = odd + [web[0], ..]
  obtain ⟨q0, as', rfl⟩ : ∃ q0 as', as = q0 :: as' := by
    cases as with
    | nil => exact absurd as0 (by decide)
    | cons x r => exact ⟨x, r, rfl⟩
  have oq0 : Odd b g J12 (.ref q0) := oas.same ((s10.trans s11).trans s12) _ (by simp)
  have acc := Odds.cons oq0 acc
  refine ⟨_, rfl, _, rfl, p, _, _, .ref q0, rfl, rfl, SqT.of hp, atI_nat (j := 0) rfl, 10, 30, rfl, rfl, ⟨by decide, by decide, by decide⟩, fun p13 n13 => ⟨len_le (by decide : 0 ≤ 1000), fun p14 n14 => ⟨?hd, [(Sum.inl 0, .ref p14)], rfl, (by decide : 1 ≤ 15), ?_⟩⟩⟩
  case hd =>
    rw [upd_ne (lst_ne upd_same n14)]
    exact upd_same
  have s14 : Same J12 (upd (upd (upd J12 p13 (.dK [])) p14 (.tup [])) p13 (.dK (mergeK [] [(Sum.inl 0, .ref p14)]))) := same_mut ((same_new n13).trans (same_new n14)) n13
  have hb14_ := hb12_.same s14
  have acc := Odds.cons (Odd.dic (p := p13) upd_same) (acc.same s14)
  have hlN := s14 _ _ hl
  clear hl
  have hl := hlN
  clear hlN
  have odN := od.same s14
  clear od
  have od := odN
  clear odN
  have hpN := s14 _ _ hp
  clear hp
  have hp := hpN
  clear hpN
  generalize upd (upd (upd J12 p13 (.dK [])) p14 (.tup [])) p13 (.dK (mergeK [] [(Sum.inl 0, .ref p14)])) = J14 at s14 hb14_ acc hp hl od ⊢
  refine ⟨rfl, fun x9 d9 J15 s15 r9 w9 => ?_⟩
  have acc := Odds.cons ⟨d9, r9.all (fun a na => hb14_.ne na), w9⟩ (acc.same s15)
  have hb15_ := hb14_.same s15
  have hlN := s15 _ _ hl
  clear hl
  have hl := hlN
  clear hlN
  have odN := od.same s15
  clear od
  have od := odN
  clear odN
  clear hp r9 w9
  refine ⟨len_le (by decide : 2 ≤ 1000), fun p16 n16 => ?_⟩
  obtain ⟨s16, hb16_, acc⟩ := Odds.addT (xs := [.int 0, .int 1]) hb15_ n16 (Nat.le_of_ble_eq_true rfl) (.cons (.int _) (.one (.int _))) acc
  have hlN := s16 _ _ hl
  clear hl
  have hl := hlN
  clear hlN
  have odN := od.same s16
  clear od
  have od := odN
  clear odN
  have ht := upd_same (H := J15) (a := p16) (o := .tup [.int 0, .int 1])
  generalize upd J15 p16 (.tup [.int 0, .int 1]) = J16 at s16 hb16_ acc hl od ht ⊢
  clear ht
  refine ⟨len_le (by decide : 2 ≤ 1000), fun p17 n17 => ?_⟩
  obtain ⟨s17, hb17_, acc⟩ := Odds.addT (xs := [.int 1, .int 0]) hb16_ n17 (Nat.le_of_ble_eq_true rfl) (.cons (.int _) (.one (.int _))) acc
  have hlN := s17 _ _ hl
  clear hl
  have hl := hlN
  clear hlN
  have odN := od.same s17
  clear od
  have od := odN
  clear odN
  have ht := upd_same (H := J16) (a := p17) (o := .tup [.int 1, .int 0])
  generalize upd J16 p17 (.tup [.int 1, .int 0]) = J17 at s17 hb17_ acc hl od ht ⊢
  clear ht
  refine ⟨len_le (by decide : 0 ≤ 1000), fun p18 n18 => ?_⟩
  obtain ⟨s18, hb18_, acc⟩ := Odds.addT (xs := []) hb17_ n18 (Nat.le_of_ble_eq_true rfl) .nil acc
  have hlN := s18 _ _ hl
  clear hl
  have hl := hlN
  clear hlN
  have odN := od.same s18
  clear od
  have od := odN
  clear odN
  have ht := upd_same (H := J17) (a := p18) (o := .tup [])
  generalize upd J17 p18 (.tup []) = J18 at s18 hb18_ acc hl od ht ⊢
  clear ht
  refine ⟨len_le (by decide : 1 ≤ 1000), fun p19 n19 => ?_⟩
  obtain ⟨s19, hb19_, acc⟩ := Odds.addT (xs := [.ref p18]) hb18_ n19 (Nat.le_of_ble_eq_true rfl) (.one (acc _ (by simp))) acc
  have hlN := s19 _ _ hl
  clear hl
  have hl := hlN
  clear hlN
  have odN := od.same s19
  clear od
  have od := odN
  clear odN
  have ht := upd_same (H := J18) (a := p19) (o := .tup [.ref p18])
  generalize upd J18 p19 (.tup [.ref p18]) = J19 at s19 hb19_ acc hl od ht ⊢
  refine ⟨p19, 9, _, rfl, rfl, SqT.of ht, List.cons_ne_nil _ _, by decide, by decide, Nat.le_of_ble_eq_true rfl, fun p20 n20 => ?_⟩
  have er : (List.replicate (9 : Int).toNat [V.ref p18]).flatten = List.replicate 9 (V.ref p18) := flat_rep _
  rw [er]
  clear er ht
  obtain ⟨s20, hb20_, acc⟩ := Odds.addT (xs := List.replicate 9 (V.ref p18)) hb19_ n20 (by rw [List.length_replicate]; decide) (fun x hx => by rw [(List.mem_replicate.mp hx).2]; exact acc _ (by simp)) acc
  have hlN := s20 _ _ hl
  clear hl
  have hl := hlN
  clear hlN
  have odN := od.same s20
  clear od
  have od := odN
  clear odN
  generalize upd J19 p20 (.tup (List.replicate 9 (V.ref p18))) = J20 at s20 hb20_ acc hl od ⊢
  refine ⟨len_le (by decide : 0 ≤ 1000), fun p21 n21 => ?_⟩
  obtain ⟨s21, hb21_, acc⟩ := Odds.addT (xs := []) hb20_ n21 (Nat.le_of_ble_eq_true rfl) .nil acc
  have hlN := s21 _ _ hl
  clear hl
  have hl := hlN
  clear hlN
  have odN := od.same s21
  clear od
  have od := odN
  clear odN
  have ht := upd_same (H := J20) (a := p21) (o := .tup [])
  generalize upd J20 p21 (.tup []) = J21 at s21 hb21_ acc hl od ht ⊢
  clear ht
  refine ⟨len_le (by decide : 1 ≤ 1000), fun p22 n22 => ?_⟩
  obtain ⟨s22, hb22_, acc⟩ := Odds.addT (xs := [.ref p21]) hb21_ n22 (Nat.le_of_ble_eq_true rfl) (.one (acc _ (by simp))) acc
  have hlN := s22 _ _ hl
  clear hl
  have hl := hlN
  clear hlN
  have odN := od.same s22
  clear od
  have od := odN
  clear odN
  have ht := upd_same (H := J21) (a := p22) (o := .tup [.ref p21])
  generalize upd J21 p22 (.tup [.ref p21]) = J22 at s22 hb22_ acc hl od ht ⊢
  refine ⟨p22, 10, _, rfl, rfl, SqT.of ht, List.cons_ne_nil _ _, by decide, by decide, Nat.le_of_ble_eq_true rfl, fun p23 n23 => ?_⟩
  have er : (List.replicate (10 : Int).toNat [V.ref p21]).flatten = List.replicate 10 (V.ref p21) := flat_rep _
  rw [er]
  clear er ht
  obtain ⟨s23, hb23_, acc⟩ := Odds.addT (xs := List.replicate 10 (V.ref p21)) hb22_ n23 (by rw [List.length_replicate]; decide) (fun x hx => by rw [(List.mem_replicate.mp hx).2]; exact acc _ (by simp)) acc
  have hlN := s23 _ _ hl
  clear hl
  have hl := hlN
  clear hlN
  have odN := od.same s23
  clear od
  have od := odN
  clear odN
  generalize upd J22 p23 (.tup (List.replicate 10 (V.ref p21))) = J23 at s23 hb23_ acc hl od ⊢
  refine ⟨len_le (by decide : 8 ≤ 1000), fun p24 n24 => ?_⟩
  obtain ⟨x30, hx30⟩ : ∃ x, x = ((fun (i j : Int) => V.int (i ^ j.toNat)) 10 30) := ⟨_, rfl⟩
  rw [← hx30]
  have o30 : ∀ H, Odd b g H x30 := fun H => by
    rw [hx30]
    exact .int _
  clear hx30
  have od2 : Odds b g J23 [.ref q0, x30, .ref p13, x9, .ref p16, .ref p17, .ref p20, .ref p23] := .cons (acc _ (by simp)) (.cons (o30 _) (.cons (acc _ (by simp)) (.cons (acc _ (by simp)) (.cons (acc _ (by simp)) (.cons (acc _ (by simp)) (.cons (acc _ (by simp)) (.one (acc _ (by simp)))))))))
  obtain ⟨s24, hb24_, acc⟩ := Odds.addL (xs := [.ref q0, x30, .ref p13, x9, .ref p16, .ref p17, .ref p20, .ref p23]) hb23_ n24 od2 acc
  have od3 := (od.same s24).app (od2.same s24)
  clear od od2
  have od := od3
  clear od3
  have hlN := s24 _ _ hl
  clear hl
  have hl := hlN
  clear hlN
  have hl2 := upd_same (H := J23) (a := p24) (o := .lst [.ref q0, x30, .ref p13, x9, .ref p16, .ref p17, .ref p20, .ref p23])
  have el2 : ([.ref q0, x30, .ref p13, x9, .ref p16, .ref p17, .ref p20, .ref p23] : List V).length = 8 := rfl
  generalize upd J23 p24 (.lst [.ref q0, x30, .ref p13, x9, .ref p16, .ref p17, .ref p20, .ref p23]) = J24 at s24 hb24_ acc od hl hl2 ⊢
  generalize ([.ref q0, x30, .ref p13, x9, .ref p16, .ref p17, .ref p20, .ref p23] : List V) = ys at od hl2 el2
  refine ⟨p12, p24, _, _, rfl, rfl, hl, hl2, len_le (by rw [el, el2]; decide), fun po no => ?_⟩
  obtain ⟨so, hbo, acc2⟩ := Odds.addL hb24_ no od acc
  have od3 := od.same so
  clear od
  have od := od3
  clear od3
  have ho := upd_same (H := J24) (a := po) (o := .lst (xs2 ++ ys))
  have eo : (xs2 ++ ys).length = 27 := by rw [List.length_append, el, el2]
  have w0 : Odd b g (upd J24 po (.lst (xs2 ++ ys))) (.ref p) := acc2 _ (by simp)
  obtain ⟨pob, pog⟩ := hb24_.ne no
  generalize upd J24 po (.lst (xs2 ++ ys)) = H4 at so hbo od ho w0 acc2 ⊢
  generalize xs2 ++ ys = xs at od ho eo
  clear acc acc2 hl hl2 el el2 so
  have fitW : ∀ {d : PyData} {n : Nat}, Wide n d → n ≤ 1000 → fit d := fun {d n} wd hn => by
    cases d with
    | tuple ps =>
      refine ⟨Nat.le_trans wd.1 hn, fun p' hp' => ?_⟩
      have z := wd.at hp'
      cases p' with
      | tuple es => exact Nat.le_trans z.1 hn
      | _ => trivial
    | _ => trivial
  -- the changes
  dsimp only [gName, List.set]
  show tSeq (tFor _ _ _) _ _ _ _
  refine cutS (fun σ H' => ∃ x6 x d, σ = [some (.ref a), some (.ref b), some (.int (0 + (i : Nat))), some (.ref p), some x, some (.ref po), x6, x7, x8] ∧ BagAt H' b g ∧ H' po = some (.lst xs) ∧ Odds b g H' xs ∧ Rep (fun a => a ≠ b ∧ a ≠ g) H' d x ∧ Wide 13 d) ?rest (fun go => ?changes)
  case changes =>
    refine ⟨_, rfl, b, g, 4, rfl, hbo, by decide, by decide, fun r H5 bt5 hb5 r0 r1 => ⟨r, rfl, by omega, by omega, ?_⟩⟩
    obtain ⟨d0, rd0, wd0⟩ := w0
    refine for_range (lo := 0) (n := r.toNat) (fun i' σ H' => ∃ x6 x d, σ = [some (.ref a), some (.ref b), some (.int (0 + (i : Nat))), some (.ref p), some x, some (.ref po), x6, x7, x8] ∧ BagAt H' b g ∧ H' po = some (.lst xs) ∧ Odds b g H' xs ∧ Rep (fun a => a ≠ b ∧ a ≠ g) H' d x ∧ Wide (10 + i') d)
      ⟨x6, _, d0, rfl, hb5, bt5 _ _ pob pog ho, od.but hbo bt5, rd0.but hbo bt5 (fun _ h => h) (fun _ h => h), wd0⟩ ?_ ?_
    · rintro i' σ H6 hi' ⟨y6, x, d, rfl, hb6, ho6, od6, rx, wx⟩
      refine ⟨_, rfl, _, rfl, _, rfl, _, rfl, b, g, po, xs, rfl, hb6, pob, pog, .inl (SqL.of ho6), by omega, by omega, fun y H7 bt7 hb7 hy => ?_⟩
      obtain ⟨e, ry, wy⟩ := (od6.but hb6 bt7) y hy
      refine ⟨fun a => a ≠ b ∧ a ≠ g, b, g, d, e, x, y, 3, 10 + i', rfl, by decide, hb7, fun _ h => h, rx.but hb6 bt7 (fun _ h => h) (fun _ h => h), ry, wx, wy.mono (by omega), by omega, fun d2 x2 H8 bt8 hb8 r8 w8 => ?_⟩
      exact ⟨_, x2, d2, rfl, hb8, bt8 _ _ pob pog (bt7 _ _ pob pog ho6), (od6.but hb6 bt7).but hb7 bt8, r8.all (fun l h => h.elim id fun z => hb7.ne z), w8⟩
    · rintro σ H6 ⟨y6, x, d, rfl, hb6, ho6, od6, rx, wx⟩
      exact go _ _ ⟨y6, x, d, rfl, hb6, ho6, od6, rx, wx.mono (by omega)⟩
  case rest =>
  clear w0 od ho hbo
  rintro _ H5 ⟨y6, x, d, rfl, hb5, ho5, od5, rx, wx⟩
  show tSeq (tIfS _ _ _) _ _ _ _
  refine cutS (fun σ H' => ∃ x d, σ = [some (.ref a), some (.ref b), some (.int (0 + (i : Nat))), some (.ref p), some x, some (.ref po), y6, x7, x8] ∧ BagAt H' b g ∧ Rep (fun a => a ≠ b ∧ a ≠ g) H' d x ∧ Wide 13 d) ?rest2 (fun go => ?some)
  case some =>
    refine ⟨_, rfl, b, g, 12, rfl, hb5, by decide, by decide, fun r H6 bt6 hb6 _ _ => ⟨rfl, _, rfl, ite2 (fun _ => ?_) (fun _ => ?_)⟩⟩
    · refine ⟨_, rfl, _, rfl, b, g, po, xs, rfl, hb6, pob, pog, .inl (SqL.of (bt6 _ _ pob pog ho5)), by omega, by omega, fun y H7 bt7 hb7 hy => ?_⟩
      obtain ⟨e, ry, wy⟩ := ((od5.but hb5 bt6).but hb6 bt7) y hy
      exact go _ _ ⟨y, e, rfl, hb7, ry, wy.mono (by decide)⟩
    · exact go _ _ ⟨x, d, rfl, hb6, rx.but hb5 bt6 (fun _ h => h) (fun _ h => h), wx⟩
  case rest2 =>
  clear rx wx od5 ho5 hb5 d x
  rintro _ H6 ⟨x, d, rfl, hb6, rx, wx⟩
  have ft : fit d := fitW wx (by decide)
  -- due = _law_is_web(thing)
  refine ⟨_, rfl, _, d, x, rfl, rx, ft, fun H7 s7 => ?_⟩
  -- if not _law_is(is_web(thing), due)
  refine ⟨_, rfl, _, d, x, rfl, rx.same s7, ft, fun H8 s8 => ⟨_, rfl, fun _ => True, .bl (webB d), 0, rfl, by decide, .bl 0 _, fun H9 s9 => ⟨_, rfl, ite2 (fun z => by cases z) (fun _ => ?_)⟩⟩⟩
  have s69 := (s7.trans s8).trans s9
  have r9 := rx.same s69
  have hb9 := hb6.same s69
  clear s7 s8 s9 s69 hb6 rx
  -- if any([..])
  refine ⟨len_le (by decide : 3 ≤ 1000), fun l nl => ⟨l, rfl, ⟨_, SqL.of upd_same⟩, fun D nD => ?_⟩⟩
  have sl := same_new (o := .lst [.ref f1, .ref f2, .ref f3]) nl
  have hl := upd_same (H := H9) (a := l) (o := .lst [.ref f1, .ref f2, .ref f3])
  have r10 := r9.same sl
  have hb10 := hb9.same sl
  generalize upd H9 l (.lst [.ref f1, .ref f2, .ref f3]) = H10 at sl hl r10 hb10 nD ⊢
  refine lc_list (xs := [.ref f1, .ref f2, .ref f3]) (fun i H' => Same H10 H' ∧ H' D = some (.lst ((List.replicate i false).map V.bl))) ⟨same_new nD, upd_same⟩ (fun i H' _ z => SqL.of (z.1 _ _ hl)) ?_ ?_
  · rintro j y H11 hy ⟨s11, hD⟩
    obtain ⟨f', rfl, ask⟩ : ∃ f', y = .ref f' ∧ Asker P w K mg base C f' := by
      have m := List.mem_of_getElem? hy
      simp only [List.mem_cons, List.not_mem_nil, or_false] at m
      rcases m with rfl | rfl | rfl
      · exact ⟨_, rfl, a1⟩
      · exact ⟨_, rfl, a2⟩
      · exact ⟨_, rfl, a3⟩
    have hj : j < 3 := (List.getElem?_eq_some_iff.mp hy).1
    refine ⟨rfl, _, rfl, _, rfl, f', _, d, x, rfl, ask, r10.same s11, ft, fun H12 s12 => ⟨_, rfl, webB d, rfl, ?_⟩⟩
    have fin : ∀ k : Bool, k = false → ∃ acc, H12 D = some (.lst acc) ∧ acc.length < sizeLine ∧ Same H10 (upd H12 D (.lst (acc ++ [.bl k]))) ∧ upd H12 D (.lst (acc ++ [.bl k])) D = some (.lst ((List.replicate (j + 1) false).map V.bl)) := fun k hk => by
      refine ⟨_, s12 _ _ hD, by rw [List.length_map, List.length_replicate]; exact len_lt (by omega), same_mut (s11.trans s12) nD, ?_⟩
      rw [upd_same, hk, List.replicate_succ', List.map_append]
      rfl
    refine ite2 (fun e => ⟨rfl, fin _ ?_⟩) (fun e => ⟨rfl, fin _ ?_⟩)
    · rw [if_pos e, decide_eq_true rfl]
      rfl
    · rw [if_neg e, decide_eq_true rfl]
      rfl
  · rintro H11 ⟨s11, hD⟩
    refine ⟨D, _, rfl, SqL.of hD, ⟨_, rfl, ite2 (fun z => by cases z) (fun _ => ?_)⟩⟩
    exact ⟨_, _, _, _, _, _, _, rfl, hb10.same s11⟩
end
end Lw

set_option maxHeartbeats 8000000
namespace Lw
open PySem PySem.Spec PyProof.Rows L2 EF Hn
open PySem.W (Frag keepIn)
/-- a def of the text, as the written part tells it -/
theorem dfn_mk {K : Frag} {h : Heap} {mg : Str → Option Value} {x : Str} {st : Stmt} {ps : List Str} {f : Addr} {od an : Option Addr} {sl : Array (Option Value)} {oc kV dc pm cd ct : Value} (X : K.In h) (G : h.Ns mainGlobals mg)
    (a : PySem.W.nsIn K mainGlobals x = some (some (.ref f))) (l : K.lookup f = some ⟨oc, od, .func (PySem.W.fnOf x x (defArgs st) (defBody st) (defScope st) .none kV dc pm an cd ct), sl⟩) (c : PySem.W.codeIn K cd x = true) (k : keepIn K (.ref f) = true)
    (hb : ∀ (kV doc pm : Value) (an : Option Addr) (cdv ct : Value) (us : List Value), us.length = ps.length → bindArgs (PySem.W.fnOf x x (defArgs st) (defBody st) (defScope st) .none kV doc pm an cdv ct) ⟨us, []⟩ = pure (ps.zip us)) : Dfn K mg x st ps :=
  have F := fun_mk (st := st) l c k
  ⟨f, _, F, F.binds hb, PySem.W.mg_of X G a⟩
def isEB (K : Frag) (C : Addr) : Bool :=
  (PySem.W.clsIn K C).isSome && (PySem.W.findIn K (.ref C) "__getattribute__" == some (some (.builtin "BaseException.__getattribute__"))) && (PySem.W.findIn K (.ref C) "__getattr__" == some none) &&
  (PySem.W.subIn K (.ref C) (.type "BaseException") == some true) && (PySem.W.findIn K (.ref C) "__class__" == some (some (.builtin "object.__class__"))) &&
  (PySem.W.specialIn K (.builtin "object.__class__") "__get__" == some (some (.builtin "getset_descriptor.__get__"))) && (PySem.W.takesIn K (.builtin "object.__class__") == some true) && (PySem.W.mroIn K C (.type "object") == some true)
theorem isE_of {K : Frag} {C : Addr} (h : isEB K C = true) : IsE K C := by
  unfold isEB at h
  simp only [Bool.and_eq_true] at h
  obtain ⟨⟨⟨⟨⟨⟨⟨h1, h2⟩, h3⟩, h4⟩, h5⟩, h6⟩, h7⟩, h8⟩ := h
  exact ⟨h1, eq_of_beq h2, eq_of_beq h3, eq_of_beq h4, eq_of_beq h5, eq_of_beq h6, eq_of_beq h7, eq_of_beq h8⟩
def errB (K : Frag) (C : Addr) : Bool := keepIn K (.ref C) && PySem.W.excIn K C PySem.HandSPX.veTail "ValueError.__new__" && (PySem.W.subIn K (.ref C) (.type "BaseException") == some true) && (PySem.W.typeIn K (.ref C) == some (.type "type"))
theorem err_of {K : Frag} {mg : Str → Option Value} {x : Str} {C : Addr} (g : mg x = some (.ref C)) (h : errB K C = true) : Err K mg x C := by
  unfold errB at h
  simp only [Bool.and_eq_true] at h
  obtain ⟨⟨⟨h1, h2⟩, h3⟩, h4⟩ := h
  exact ⟨g, h1, h2, eq_of_beq h3, eq_of_beq h4⟩
def lxB (K : Frag) (C Cc C1 C2 C3 : Addr) : Bool := isEB K C && (PySem.W.kitOne K (.ref C) (.ref C) == some true) && (PySem.W.exmOne K (.ref C) (.ref Cc) == some true) && (PySem.W.kitAny K (.ref C) [.ref C1, .ref C2, .ref C3] == some false)
theorem all_mk {l : PySem.W.OpenLaw} {w : World} {K : Frag} {h : Heap} {mg : Str → Option Value} {fa fl CNoWeb CCardError CNoStanding CNoRow CNoDeed : Addr} {od an : Option Addr} {sl : Array (Option Value)} {oc kV dc pm cd ct : Value} {tkMOST_PEOPLE : Tok} (X : K.In h) (G : h.Ns mainGlobals mg) (hfa : mg "law" = some (.ref fa))
    (al : PySem.W.nsIn K mainGlobals "law" = some (some (.ref fl))) (ll : K.lookup fl = some ⟨oc, od, .func (PySem.W.fnOf "law" "law" (defArgs slaw) (defBody slaw) (defScope slaw) .none kV dc pm an cd ct), sl⟩) (cl : PySem.W.codeIn K cd "law" = true) (kl : keepIn K (.ref fl) = true)
    (zlen : PySem.W.nsIn K mainGlobals "len" = some none)
    (zint : PySem.W.nsIn K mainGlobals "int" = some none)
    (zabs : PySem.W.nsIn K mainGlobals "abs" = some none)
    (zsum : PySem.W.nsIn K mainGlobals "sum" = some none)
    (zisinstance : PySem.W.nsIn K mainGlobals "isinstance" = some none)
    (zall : PySem.W.nsIn K mainGlobals "all" = some none)
    (zany : PySem.W.nsIn K mainGlobals "any" = some none)
    (zrange : PySem.W.nsIn K mainGlobals "range" = some none)
    (zenumerate : PySem.W.nsIn K mainGlobals "enumerate" = some none)
    (zzip : PySem.W.nsIn K mainGlobals "zip" = some none)
    (ztuple : PySem.W.nsIn K mainGlobals "tuple" = some none)
    (zlist : PySem.W.nsIn K mainGlobals "list" = some none)
    (zbool : PySem.W.nsIn K mainGlobals "bool" = some none)
    (zsorted : PySem.W.nsIn K mainGlobals "sorted" = some none)
    (zset : PySem.W.nsIn K mainGlobals "set" = some none)
    (zValueError : PySem.W.nsIn K mainGlobals "ValueError" = some none)
    (D_law_bag : Dfn K mg "_law_bag" s_law_bag ["script"])
    (D_law_pick : Dfn K mg "_law_pick" s_law_pick ["bag", "many"])
    (D_law_some : Dfn K mg "_law_some" s_law_some ["bag", "things"])
    (D_law_is : Dfn K mg "_law_is" s_law_is ["thing", "due"])
    (D_law_is_int : Dfn K mg "_law_is_int" s_law_is_int ["thing", "least", "most"])
    (D_law_deep : Dfn K mg "_law_deep" s_law_deep [])
    (D_law_web : Dfn K mg "_law_web" s_law_web ["bag", "most"])
    (D_law_is_web : Dfn K mg "_law_is_web" s_law_is_web ["thing"])
    (D_law_changed : Dfn K mg "_law_changed" s_law_changed ["bag", "thing", "odd", "deep"])
    (D_law_word : Dfn K mg "_law_word" s_law_word ["ask", "thing"])
    (Dis_integer : Dfn K mg "is_integer" sis_integer ["thing"])
    (Dis_between : Dfn K mg "is_between" sis_between ["thing", "least", "most"])
    (Dis_person : Dfn K mg "is_person" sis_person ["thing", "many"])
    (Dis_ascending : Dfn K mg "is_ascending" sis_ascending ["row"])
    (Dis_web : Dfn K mg "is_web" sis_web ["thing"])
    (Dis_pocket : Dfn K mg "is_pocket" sis_pocket ["thing", "u", "many"])
    (Dcheck_web : Dfn K mg "check_web" scheck_web ["thing"])
    (Dfinds : Dfn K mg "finds" sfinds ["web"])
    (Dpieces : Dfn K mg "pieces" spieces ["web"])
    (Dknots : Dfn K mg "knots" sknots ["web"])
    (Dsteps_from : Dfn K mg "steps_from" ssteps_from ["pockets", "start"])
    (Dfound_from : Dfn K mg "found_from" sfound_from ["pockets", "start"])
    (Dall_found : Dfn K mg "all_found" sall_found ["pockets"])
    (Dboth_ways : Dfn K mg "both_ways" sboth_ways ["pockets"])
    (Dpieces_among : Dfn K mg "pieces_among" spieces_among ["pockets"])
    (Dknots_among : Dfn K mg "knots_among" sknots_among ["found"])
    (Dknot_around : Dfn K mg "knot_around" sknot_around ["u", "found"])
    (cMOST_PEOPLE : PySem.W.nsIn K mainGlobals "MOST_PEOPLE" = some (some (.int 9 tkMOST_PEOPLE)))
    (aNoWeb : PySem.W.nsIn K mainGlobals "NoWeb" = some (some (.ref CNoWeb)))
    (aCardError : PySem.W.nsIn K mainGlobals "CardError" = some (some (.ref CCardError)))
    (aNoStanding : PySem.W.nsIn K mainGlobals "NoStanding" = some (some (.ref CNoStanding)))
    (aNoRow : PySem.W.nsIn K mainGlobals "NoRow" = some (some (.ref CNoRow)))
    (aNoDeed : PySem.W.nsIn K mainGlobals "NoDeed" = some (some (.ref CNoDeed)))
    (bErr : errB K CNoWeb = true)
    (bLx : lxB K CNoWeb CCardError CNoStanding CNoRow CNoDeed = true) :
    ∃ fd : FuncData, (∀ (s : Shared) (v : Value), BindsTo s fd ⟨[v], []⟩ [("script", v)]) ∧ ∀ base : Heap, K.In base → base.Ns mainGlobals mg → FnOk l.prog w K mg base CX0 25 fa fd ["script"] (spLaw K) := by
  have e := hfa.symm.trans (PySem.W.mg_of X G al)
  cases e
  have F := fun_mk (st := slaw) ll cl kl
  have B : Bl mg := ⟨PySem.W.mg_none_of X G zlen, PySem.W.mg_none_of X G zint, PySem.W.mg_none_of X G zabs, PySem.W.mg_none_of X G zsum, PySem.W.mg_none_of X G zisinstance, PySem.W.mg_none_of X G zall, PySem.W.mg_none_of X G zany, PySem.W.mg_none_of X G zrange, PySem.W.mg_none_of X G zenumerate, PySem.W.mg_none_of X G zzip, PySem.W.mg_none_of X G ztuple, PySem.W.mg_none_of X G zlist, PySem.W.mg_none_of X G zbool, PySem.W.mg_none_of X G zsorted, PySem.W.mg_none_of X G zset, PySem.W.mg_none_of X G zValueError⟩
  refine ⟨PySem.W.fnOf "law" "law" (defArgs slaw) (defBody slaw) (defScope slaw) .none kV dc pm an cd ct, fun s v => .of_eq rfl, fun base _ _ => ?_⟩
  have T : TX K mg CNoWeb := ⟨err_of (PySem.W.mg_of X G aNoWeb) bErr⟩
  have L : LX K mg CNoWeb := by
    unfold lxB at bLx
    simp only [Bool.and_eq_true] at bLx
    obtain ⟨⟨⟨h1, h2⟩, h3⟩, h4⟩ := bLx
    exact ⟨isE_of h1, PySem.W.mg_of X G aNoWeb, eq_of_beq h2, ⟨CCardError, PySem.W.mg_of X G aCardError, eq_of_beq h3⟩, ⟨CNoStanding, CNoRow, CNoDeed, PySem.W.mg_of X G aNoStanding, PySem.W.mg_of X G aNoRow, PySem.W.mg_of X G aNoDeed, eq_of_beq h4⟩⟩
  have kpick := k_pick (P := l.prog) (w := w) (base := base) B D_law_pick
  have ksome := k_some B D_law_some kpick
  have kint := k_integer (P := l.prog) (w := w) (base := base) B Dis_integer
  have kper := k_person B Dis_person (k_between B Dis_between kint)
  have kpoc := k_pocket B Dis_pocket kper (k_ascending B Dis_ascending)
  have kweb := k_is_web B (PySem.W.mg_of X G cMOST_PEOPLE) Dis_web kpoc
  have kchk := k_check_web B T Dcheck_web kweb
  have kall := k_all_found B Dall_found (k_found_from B Dfound_from (k_steps_from (P := l.prog) (w := w) (base := base) B Dsteps_from))
  have kkn := k_knots_among B Dknots_among (k_knot_around (P := l.prog) (w := w) (base := base) B Dknot_around)
  have kpie := k_pieces_among B Dpieces_among (k_both_ways B Dboth_ways) kall kkn
  obtain ⟨f1, d1, g1, p1, b1, o1⟩ := k_finds B Dfinds kchk kall
  obtain ⟨f2, d2, g2, p2, b2, o2⟩ := k_pieces B Dpieces kchk kpie
  obtain ⟨f3, d3, g3, p3, b3, o3⟩ := k_knots B Dknots kchk kall kkn
  exact ok_law F B (k_bag B D_law_bag) kpick ksome (k_deepR B D_law_deep) (k_web B D_law_web kpick ksome) (k_changed B D_law_changed kpick 4) (k_is B D_law_is 24) (k_law_web_is B D_law_is_web (k_is_int B D_law_is_int)) kweb (k_word B L D_law_word)
    g1 ⟨d1, _, _, p1, b1, o1⟩ g2 ⟨d2, _, _, p2, b2, o2⟩ g3 ⟨d3, _, _, p3, b3, o3⟩
end Lw
open PySem PySem.W PyProof.Rows
set_option maxHeartbeats 0 in
theorem PySem.Challenge.cw_stillfound_k01_whole_webs_judged_holds : PySem.Challenge.rw_stillfound_k01_whole_webs_judged.Holds := by
  w_on; o_law; k_head; (case hw => w_witness2)
  k_fill
  refine L2.walk_of (l := PySem.Challenge.rw_stillfound_k01_whole_webs_judged) (n := 63) (k := 25) (x := "script") (CX := fun _ => L2.CX0) (sp := fun w => Lw.spLaw _) rfl (by decide) rfl ⟨rfl, by decide, by decide⟩ (fun w h Y => PySem.W.kIn_of Y) ?F (fun _ _ a ns hl _ hS => ⟨a, ns, rfl, hS, hl, fun _ => rfl⟩) (fun _ _ _ _ _ h => h)
  case F =>
    intro w mg fa h KX G hmg
    refine' Lw.all_mk KX G hmg ?al ?ll ?cl ?kl ?zlen ?zint ?zabs ?zsum ?zisinstance ?zall ?zany ?zrange ?zenumerate ?zzip ?ztuple ?zlist ?zbool ?zsorted ?zset ?zValueError ?D_law_bag ?D_law_pick ?D_law_some ?D_law_is ?D_law_is_int ?D_law_deep ?D_law_web ?D_law_is_web ?D_law_changed ?D_law_word ?Dis_integer ?Dis_between ?Dis_person ?Dis_ascending ?Dis_web ?Dis_pocket ?Dcheck_web ?Dfinds ?Dpieces ?Dknots ?Dsteps_from ?Dfound_from ?Dall_found ?Dboth_ways ?Dpieces_among ?Dknots_among ?Dknot_around ?cMOST_PEOPLE ?aNoWeb ?aCardError ?aNoStanding ?aNoRow ?aNoDeed ?bErr ?bLx
    (case al => k_is)
    (case ll => k_is)
    (case cl => k_is)
    (case kl => k_is)
    (case zlen => k_is)
    (case zint => k_is)
    (case zabs => k_is)
    (case zsum => k_is)
    (case zisinstance => k_is)
    (case zall => k_is)
    (case zany => k_is)
    (case zrange => k_is)
    (case zenumerate => k_is)
    (case zzip => k_is)
    (case ztuple => k_is)
    (case zlist => k_is)
    (case zbool => k_is)
    (case zsorted => k_is)
    (case zset => k_is)
    (case zValueError => k_is)
    (case D_law_bag => refine' Lw.dfn_mk KX G ?a ?l ?c ?k (fun _ _ _ _ _ _ us hl => match us, hl with | [_], _ => rfl); (case a => k_is); (case l => k_is); (case c => k_is); (case k => k_is))
    (case D_law_pick => refine' Lw.dfn_mk KX G ?a ?l ?c ?k (fun _ _ _ _ _ _ us hl => match us, hl with | [_, _], _ => rfl); (case a => k_is); (case l => k_is); (case c => k_is); (case k => k_is))
    (case D_law_some => refine' Lw.dfn_mk KX G ?a ?l ?c ?k (fun _ _ _ _ _ _ us hl => match us, hl with | [_, _], _ => rfl); (case a => k_is); (case l => k_is); (case c => k_is); (case k => k_is))
    (case D_law_is => refine' Lw.dfn_mk KX G ?a ?l ?c ?k (fun _ _ _ _ _ _ us hl => match us, hl with | [_, _], _ => rfl); (case a => k_is); (case l => k_is); (case c => k_is); (case k => k_is))
    (case D_law_is_int => refine' Lw.dfn_mk KX G ?a ?l ?c ?k (fun _ _ _ _ _ _ us hl => match us, hl with | [_, _, _], _ => rfl); (case a => k_is); (case l => k_is); (case c => k_is); (case k => k_is))
    (case D_law_deep => refine' Lw.dfn_mk KX G ?a ?l ?c ?k (fun _ _ _ _ _ _ us hl => match us, hl with | [], _ => rfl); (case a => k_is); (case l => k_is); (case c => k_is); (case k => k_is))
    (case D_law_web => refine' Lw.dfn_mk KX G ?a ?l ?c ?k (fun _ _ _ _ _ _ us hl => match us, hl with | [_, _], _ => rfl); (case a => k_is); (case l => k_is); (case c => k_is); (case k => k_is))
    (case D_law_is_web => refine' Lw.dfn_mk KX G ?a ?l ?c ?k (fun _ _ _ _ _ _ us hl => match us, hl with | [_], _ => rfl); (case a => k_is); (case l => k_is); (case c => k_is); (case k => k_is))
    (case D_law_changed => refine' Lw.dfn_mk KX G ?a ?l ?c ?k (fun _ _ _ _ _ _ us hl => match us, hl with | [_, _, _, _], _ => rfl); (case a => k_is); (case l => k_is); (case c => k_is); (case k => k_is))
    (case D_law_word => refine' Lw.dfn_mk KX G ?a ?l ?c ?k (fun _ _ _ _ _ _ us hl => match us, hl with | [_, _], _ => rfl); (case a => k_is); (case l => k_is); (case c => k_is); (case k => k_is))
    (case Dis_integer => refine' Lw.dfn_mk KX G ?a ?l ?c ?k (fun _ _ _ _ _ _ us hl => match us, hl with | [_], _ => rfl); (case a => k_is); (case l => k_is); (case c => k_is); (case k => k_is))
    (case Dis_between => refine' Lw.dfn_mk KX G ?a ?l ?c ?k (fun _ _ _ _ _ _ us hl => match us, hl with | [_, _, _], _ => rfl); (case a => k_is); (case l => k_is); (case c => k_is); (case k => k_is))
    (case Dis_person => refine' Lw.dfn_mk KX G ?a ?l ?c ?k (fun _ _ _ _ _ _ us hl => match us, hl with | [_, _], _ => rfl); (case a => k_is); (case l => k_is); (case c => k_is); (case k => k_is))
    (case Dis_ascending => refine' Lw.dfn_mk KX G ?a ?l ?c ?k (fun _ _ _ _ _ _ us hl => match us, hl with | [_], _ => rfl); (case a => k_is); (case l => k_is); (case c => k_is); (case k => k_is))
    (case Dis_web => refine' Lw.dfn_mk KX G ?a ?l ?c ?k (fun _ _ _ _ _ _ us hl => match us, hl with | [_], _ => rfl); (case a => k_is); (case l => k_is); (case c => k_is); (case k => k_is))
    (case Dis_pocket => refine' Lw.dfn_mk KX G ?a ?l ?c ?k (fun _ _ _ _ _ _ us hl => match us, hl with | [_, _, _], _ => rfl); (case a => k_is); (case l => k_is); (case c => k_is); (case k => k_is))
    (case Dcheck_web => refine' Lw.dfn_mk KX G ?a ?l ?c ?k (fun _ _ _ _ _ _ us hl => match us, hl with | [_], _ => rfl); (case a => k_is); (case l => k_is); (case c => k_is); (case k => k_is))
    (case Dfinds => refine' Lw.dfn_mk KX G ?a ?l ?c ?k (fun _ _ _ _ _ _ us hl => match us, hl with | [_], _ => rfl); (case a => k_is); (case l => k_is); (case c => k_is); (case k => k_is))
    (case Dpieces => refine' Lw.dfn_mk KX G ?a ?l ?c ?k (fun _ _ _ _ _ _ us hl => match us, hl with | [_], _ => rfl); (case a => k_is); (case l => k_is); (case c => k_is); (case k => k_is))
    (case Dknots => refine' Lw.dfn_mk KX G ?a ?l ?c ?k (fun _ _ _ _ _ _ us hl => match us, hl with | [_], _ => rfl); (case a => k_is); (case l => k_is); (case c => k_is); (case k => k_is))
    (case Dsteps_from => refine' Lw.dfn_mk KX G ?a ?l ?c ?k (fun _ _ _ _ _ _ us hl => match us, hl with | [_, _], _ => rfl); (case a => k_is); (case l => k_is); (case c => k_is); (case k => k_is))
    (case Dfound_from => refine' Lw.dfn_mk KX G ?a ?l ?c ?k (fun _ _ _ _ _ _ us hl => match us, hl with | [_, _], _ => rfl); (case a => k_is); (case l => k_is); (case c => k_is); (case k => k_is))
    (case Dall_found => refine' Lw.dfn_mk KX G ?a ?l ?c ?k (fun _ _ _ _ _ _ us hl => match us, hl with | [_], _ => rfl); (case a => k_is); (case l => k_is); (case c => k_is); (case k => k_is))
    (case Dboth_ways => refine' Lw.dfn_mk KX G ?a ?l ?c ?k (fun _ _ _ _ _ _ us hl => match us, hl with | [_], _ => rfl); (case a => k_is); (case l => k_is); (case c => k_is); (case k => k_is))
    (case Dpieces_among => refine' Lw.dfn_mk KX G ?a ?l ?c ?k (fun _ _ _ _ _ _ us hl => match us, hl with | [_], _ => rfl); (case a => k_is); (case l => k_is); (case c => k_is); (case k => k_is))
    (case Dknots_among => refine' Lw.dfn_mk KX G ?a ?l ?c ?k (fun _ _ _ _ _ _ us hl => match us, hl with | [_], _ => rfl); (case a => k_is); (case l => k_is); (case c => k_is); (case k => k_is))
    (case Dknot_around => refine' Lw.dfn_mk KX G ?a ?l ?c ?k (fun _ _ _ _ _ _ us hl => match us, hl with | [_, _], _ => rfl); (case a => k_is); (case l => k_is); (case c => k_is); (case k => k_is))
    (case cMOST_PEOPLE => k_is)
    (case aNoWeb => k_is)
    (case aCardError => k_is)
    (case aNoStanding => k_is)
    (case aNoRow => k_is)
    (case aNoDeed => k_is)
    (case bErr => kernel_rfl)
    (case bLx => kernel_rfl)

