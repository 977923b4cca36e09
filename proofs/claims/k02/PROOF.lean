import PyProof.Rows.All
import Wide.All
import OpenK.AllK
import Wide.FinOn
import PyProof.EqAt
import PyProof.EqKinds
import PyProof.TupleCall
import KE.KExcSuper
import HandS.ForMost
import HandS.ExcInit
import HandS.ExcValue
import HandS.IsInst
import KE.KExcIs
import HandS.Zip
import HandS.More
import HandS.TupAny
import HandS.TupSets
import HandS.Strs
import HandS.SetBool
import KE.SortData
import KE.LtData
import HandS.SortOrd
import HandS.SetIn
import KE.KSetDisp
import KE.GoesEnum
import KE.GoesMore
import HandS.ForExc
import HandS.Small
import HandS.ExcIs
import HandS.CallLocal
import KE.KRevSl
import HandS.Style
import HandS.Deep
import PySem.Challenge.RW_stillfound_k02_whole_finds_pieces_knots
import HandS.SetFor
import HandS.Conv
set_option Elab.async false
set_option linter.all false
set_option maxRecDepth 100000
set_option maxHeartbeats 4000000
/-! Errors with one field, whose __init__ says super().__init__(a text) and then keeps the field. -/
namespace EF
open PySem PySem.W PySem.Calls PyProof.Rows
def eA (f : Str) (p1 p2 : Pos) : Arguments :=
  { posonlyargs := [], args := [⟨"self", none, p1⟩, ⟨f, none, p2⟩], vararg := none, kwonlyargs := [], kw_defaults := [], kwarg := none, defaults := [] }
def eB (f tx : Str) (q1 q2 q3 q4 q5 q6 q7 q8 q9 q10 : Pos) : List Stmt :=
  [.Expr (.Call (.Attribute (.Call (.Name "super" q1) [] [] q2) "__init__" q3) [.Constant (.str tx) 0 q4] [] q5) q6,
   .Assign [.Attribute (.Name "self" q7) f q8] (.Name f q9) q10]
def eS (f : Str) : Scope :=
  { kind := .function, names := [("self", .local), (f, .local), ("__class__", .free), ("super", .globalImplicit)], isGenerator := false, isCoroutine := false, more := [] }
/-- the field's name is none of the other names -/
structure FOk (f : Str) : Prop where
  l1 : (eS f).names.lookup ("self" : Str) = some .local
  l2 : (eS f).names.lookup f = some .local
  l3 : (eS f).names.lookup ("__class__" : Str) = some .free
  l4 : (eS f).names.lookup ("super" : Str) = some .globalImplicit
  ne : ("self" : Str) ≠ f
  nd : (f == ("__debug__" : Str)) = false
  bd : ∀ (qual : Str) (p1 p2 : Pos) (body : List Stmt) (kV dc pm : Value) (an : Option Addr) (cdv ct : Value) (cc : Addr) (a b : Value),
    bindArgs (ksFn "__init__" qual (eA f p1 p2) body (eS f) .none kV dc pm an cdv ct cc) ⟨[a, b], []⟩ = pure [(("self" : Str), a), (f, b)]
/-- what the written part says of such a class, at C; its __init__ is at fI -/
structure ErrC (prog : Program) (K : Frag) (mg : Str → Option Value) (C : Addr) (f : Str) : Prop where
  fok : FOk f
  cls : ∃ nm q N bs bm sn sub ab col dd k0 k1 k2 k3 k5, K.lookup C = some (excClassObj nm q C N bs bm true sn sub ab col dd k0 k1 k2 k3 k5 "ValueError.__new__") ∧ PySem.HandSPX.refsVE bm = true
  sa : findIn K (.ref C) "__setattr__" = some (some (.builtin "object.__setattr__"))
  ga : findIn K (.ref C) "__getattribute__" = some (some (.builtin "BaseException.__getattribute__"))
  gg : findIn K (.ref C) "__getattr__" = some none
  noF : findIn K (.ref C) f = some none
  exC : subIn K (.ref C) (.type "BaseException") = some true
  veC : subIn K (.ref C) (.type "ValueError") = some true
  meC : mroIn K C (.ref C) = some true
  tyC : typeIn K (.ref C) = some (.type "type")
  hdC : hasDictIn K C = true
  kC : keepIn K (.ref C) = true
  noSup : mg "super" = none
  noTop : (prog.main.scope.names.lookup ("super" : Str)).isSome = false
  sup : ks_superIn K C C "__init__" = some (some (.builtin "ValueError.__init__"))
  any : nsIn K cStatics "thirdparty.any" = some none
  ini : ∃ fI : Addr, findIn K (.ref C) "__init__" = some (some (.ref fI)) ∧ typeIn K (.ref fI) = some (.type "function") ∧
    ∃ (oc dc pm ct qt : Value) (od an : Option Addr) (osl : Array (Option Value)) (qual tx : Str) (cda cc : Addr) (p1 p2 q1 q2 q3 q4 q5 q6 q7 q8 q9 q10 : Pos),
      K.lookup fI = some ⟨oc, od, .func (ksFn "__init__" qual (eA f p1 p2) (eB f tx q1 q2 q3 q4 q5 q6 q7 q8 q9 q10) (eS f) .none qt dc pm an (.ref cda) ct cc), osl⟩ ∧
      codeIn K (.ref cda) qual = true ∧ (q3.endLine == q5.line) = true ∧
      (∃ (c1 : Value) (c2 : Option Addr) (vs : Array Value) (c3 : Array (Option Value)) (file : Str) (tf : Tok), K.lookup cda = some ⟨c1, c2, .fields vs, c3⟩ ∧ vs[2]? = some (.str file tf) ∧ ((prog.main.file : Str) == file) = true) ∧
      ∃ (c1 : Value) (c2 : Option Addr) (c3 : Array (Option Value)), K.lookup cc = some ⟨c1, c2, .cell (some (.ref C)), c3⟩
/-- what __init__ leaves of a fresh error at x -/
structure InitEnd (f : Str) (h h' : Heap) (x C dx t1 : Addr) (v : Value) : Prop where
  keep : ∀ b o, b ≠ x → h.get? b = some o → h'.get? b = some o
  obj : h'.get? x = some { cls := .ref C, dict := some dx, data := .fields #[.ref t1, .none, .none, .none, .bool false, .none] }
  dbig : h.objs.size ≤ dx
  dne : dx ≠ x
  ns : h'.Ns1 dx (fun y => if y = f then some v else none)
section
variable {prog : Program} {w : World} {A : Around} {E : Value → Shared → Prop} {R : Result → Shared → Prop} {s : Shared} {K : Frag} {mg mb : Str → Option Value} {C : Addr} {f : Str}
/-- the built-in __init__, bound to the error at x, is called -/
theorem bound_called (T : ErrC prog K mg C f) (X : K.In s.heap) {u x t0 : Addr} {rest : List Value} {Q : Value → Shared → Prop} (hu : s.heap.get? u = some (kxs_mw "ValueError.__init__" x)) (hx : s.heap.get? x = some (PySem.HandSPX.excO C t0))
    (hr : rest.length ≤ sizeLine) (hq : ∀ h' t1, (∀ b o, b ≠ x → s.heap.get? b = some o → h'.get? b = some o) → h'.get? x = some (PySem.HandSPX.excO C t1) → Q .none { s with heap := h' }) :
    wpAny (model prog w) A (call (.ref u) rest) Q E s := by
  obtain ⟨nm, q, N, bs, bm, sn, sub, ab, col, dd, k0, k1, k2, k3, k5, hC, hbm⟩ := T.cls
  have FB := F.excBase_ValueError
  obtain ⟨hh, g, d, tk, os⟩ := s
  refine wpAny_call (codeAny_of_tree (show wpAny _ A.in1 (callAny (.ref u) ⟨rest, []⟩) _ _ _ from ?_))
  unfold callAny
  refine wpAny_bind (wpAny_load hu ?_)
  have tm : (Value.type "method-wrapper" == Value.type "method" || Value.type "method-wrapper" == Value.type "builtin_function_or_method" || Value.type "method-wrapper" == Value.type "method-wrapper") = true := by decide
  simp only [kxs_mw, tm, if_true]
  refine KFB.if_so (by decide) (wpAny_bind (check_bound_init FB.toExcCallFacts (X _ _ hC) hx rfl (wpAny_bind (wpAny_pure (wpAny_pure ⟨plainId_quiet FB.init.plain _, codeAny_builtin FB.initEntry ?_⟩)))))
  exact exc_init_tree (cls := .ref C) (t0 := t0) (dv := none) (c2 := .none) (c3 := .none) (b4 := .bool false) hx hr fun h' k e _ => hq h' _ k e
theorem meth_call {env : Env} {q1 q2 q3 q4 q5 : Pos} {name tx : Str} (hl : (q3.endLine == q5.line) = true) :
    eval (.Call (.Attribute (.Call (.Name "super" q1) [] [] q2) name q3) [.Constant (.str tx) 0 q4] [] q5) env = (do
      let ov ← attributeBase (.Call (.Name "super" q1) [] [] q2) name env (eval (.Call (.Name "super" q1) [] [] q2) env)
      standAt q3.atName
      let (f, first) ← holding [ov] (getMethod ov name (do return (← importBound (.Call (.Name "super" q1) [] [] q2) env).getD true))
      callWith q5 f first (backTo q5 (starEach [.Constant (.str tx) 0 q4] env)) []) := by
  show (do
    let ov ← attributeBase (.Call (.Name "super" q1) [] [] q2) name env (eval (.Call (.Name "super" q1) [] [] q2) env)
    standAt q3.atName
    methodCall (.Call (.Name "super" q1) [] [] q2) name q3 q5 env ov 1 (backTo q5 (starEach [.Constant (.str tx) 0 q4] env)) []) = _
  have e : ∀ b : Bool, methodCallPos b (.Call (.Name "super" q1) [] [] q2) env q3 q5 = pure q5 := fun b => by
    unfold methodCallPos
    rw [hl, Bool.or_true, if_pos rfl]
  have e2 : ∀ ov, methodCall (.Call (.Name "super" q1) [] [] q2) name q3 q5 env ov 1 (backTo q5 (starEach [.Constant (.str tx) 0 q4] env)) [] = (do
      let (f, first) ← holding [ov] (getMethod ov name (do return (← importBound (.Call (.Name "super" q1) [] [] q2) env).getD true))
      callWith q5 f first (backTo q5 (starEach [.Constant (.str tx) 0 q4] env)) []) := fun ov => by
    unfold methodCall
    simp only [e, pure_bind]
    rfl
  simp only [e2]
/-- __init__ run over a fresh error at x -/
theorem init_run (T : ErrC prog K mg C f) (X : K.In s.heap) (hlim : s.heap.NoLimit) (hg : s.heap.Ns mainGlobals mg) (hb : s.heap.Ns builtinsNs mb) (hbs : mb "super" = some (.type "super")) {fI x t0 : Addr} {v : Value}
    (hfI : findIn K (.ref C) "__init__" = some (some (.ref fI))) (hx : s.heap.get? x = some (PySem.HandSPX.excO C t0)) (hxK : K.lookup x = none) (hroom : A.depth < recursionLimit)
    (hq : ∀ h' tk dx t1, InitEnd f s.heap h' x C dx t1 v → R (.ok (.ret .none)) { s with heap := h', toks := tk }) :
    codeAny (model prog w) A (.call (.ref fI) ⟨[.ref x, v], []⟩) R s := by
  obtain ⟨fI', hfI', tI, oc, dc, pm, ct, qt, od, an, osl, qual, tx, cda, cc, p1, p2, q1, q2, q3, q4, q5, q6, q7, q8, q9, q10, lk, hcd, hln, ⟨c1, c2, vs, c3, file, tf, lcda, hvs, hfile⟩, ⟨e1, e2, e3, lcc⟩⟩ := T.ini
  obtain rfl : fI' = fI := by
    rw [hfI] at hfI'
    cases hfI'
    rfl
  obtain ⟨nm, q, N, bs, bm, sn, sub, ab, col, dd, k0, k1', k2, k3, k5, hC, hbm⟩ := T.cls
  have hcl : clsIn K C = some { name := nm, bases := bs, mro := .ref C :: bm, ns := N, qualname := q, hasDict := true, slotNames := sn, subclasses := sub, abstract := ab, collection := col, hasDel := false } := by
    unfold clsIn; rw [hC] <;> rfl
  have nsf := T.fok.ne
  refine ks_codeAny_call_defAt (fd := ksFn "__init__" qual (eA f p1 p2) (eB f tx q1 q2 q3 q4 q5 q6 q7 q8 q9 q10) (eS f) .none qt dc pm an (.ref cda) ct cc) (body := eB f tx q1 q2 q3 q4 q5 q6 q7 q8 q9 q10) (binds := [("self", .ref x), (f, v)])
    hroom (X _ _ lk) rfl hlim (codeRec_of X hcd) rfl ?_ ?_ ?_ (fun h1 hns k1 => ?_)
  · exact BindsTo.of_eq (T.fok.bd _ _ _ _ _ _ _ _ _ _ _ _ _)
  · intro y hy
    rcases List.mem_cons.mp hy with rfl | hy
    · decide
    rcases List.mem_cons.mp hy with rfl | hy
    · show NameKind.local ≠ NameKind.cell
      decide
    rcases List.mem_cons.mp hy with rfl | hy
    · decide
    rcases List.mem_cons.mp hy with rfl | hy
    · decide
    · cases hy
  · intro y hy
    rcases List.mem_cons.mp hy with rfl | hy
    · exact T.fok.l1
    rcases List.mem_cons.mp hy with rfl | hy
    · exact T.fok.l2
    · cases hy
  · have X1 : K.In h1 := X.keeps k1
    have hx1 := k1 _ _ hx
    have m1 : ([(("self" : Str), Value.ref x), (f, v)].reverse.lookup ("self" : Str)) = some (.ref x) := by
      simp [List.lookup, beq_false_of_ne nsf]
    have m2 : ([(("self" : Str), Value.ref x), (f, v)].reverse.lookup f) = some v := by
      simp [List.lookup]
    show _root_.PySem.wpAt (model prog w) (A.deeper (ksEnv qual (eS f) s.heap.objs.size fI' (.ref cda) cc)) (.func _ (ksEnv qual (eS f) s.heap.objs.size fI' (.ref cda) cc)) (execs _ (ksEnv qual (eS f) s.heap.objs.size fI' (.ref cda) cc)) _ _ _
    have hD : h1.get? C = some (excClassObj nm q C N bs bm true sn sub ab col dd k0 k1' k2 k3 k5 "ValueError.__new__") := X1 _ _ hC
    refine ks_wpAt_execs_cons (ks_wpAt_Expr_any (ks_wpAt_MethodCall ?_ (meth_call hln)))
    refine ks_wpAt_super_base (env := ksEnv qual (eS f) s.heap.objs.size fI' (.ref cda) cc) T.fok.l4 T.fok.l3 (by decide) rfl (X1 _ _ lk) rfl rfl rfl (X1 _ _ lcda) rfl hvs hfile T.noTop ?_
    refine ks_loadName_global rfl T.fok.l4 (loadGlobal_builtin (env := ksEnv qual (eS f) s.heap.objs.size fI' (.ref cda) cc) (hg.keeps k1) T.noSup (hb.keeps k1) hbs ⟨rfl, ?_⟩)
    refine wpAny_loadName_free rfl T.fok.l3 rfl ⟨_, X1 _ _ lcc, rfl⟩ ?_
    refine wpAny_loadName_local rfl T.fok.l1 hns m1 ?_
    refine ks_wpAny_isType_cls hD rfl ⟨rfl, ?_⟩
    refine ks_wpAny_call_super hD rfl hx1 rfl (fun c e => nomatch e) (looks_mroIn X1 T.meC) (fun h2 hso k2' => ?_)
    have X2 : K.In h2 := X1.keeps k2'
    have hx2 := k2' _ _ hx1
    have ne : ∀ {b : Addr} {o : Obj}, s.heap.get? b = some o → b ≠ s.heap.objs.size := fun {b o} z => Nat.ne_of_lt (Heap.lt_size z)
    have hsp : alongIn K "__init__" ((((Value.ref C :: bm).dropWhile (· != .ref C))).drop 1) = some (some (.builtin "ValueError.__init__")) := by
      have z := T.sup
      unfold ks_superIn at z
      rw [hcl] at z
      exact z
    have I2 : InstAt h2 x (PySem.HandSPX.excO C t0) C none := ⟨hx2, rfl, rfl, trivial⟩
    have xC : x ≠ C := ks_ne X2 I2 hcl
    refine kxs_getMethod kxs_ValueError hso (looks_opaque X2 T.any) (l₀ := .ref C :: bm) (fun A Q E s k q => wpAny_bind ((looks_clsIn X2 hcl) A _ E s k (wpAny_pure q))) rfl X2 hsp (I2.type.andThen (looks_subIn X2 T.veC)) xC (by decide) ?_
    have hu3 : (h2.push (kxs_mw "ValueError.__init__" x)).get? h2.objs.size = some (kxs_mw "ValueError.__init__" x) := Heap.get?_push_at rfl rfl
    have k3 : ∀ b o, h2.get? b = some o → (h2.push (kxs_mw "ValueError.__init__" x)).get? b = some o := fun b o e => Heap.get?_push_of_some _ e
    generalize h2.push (kxs_mw "ValueError.__init__" x) = h3 at hu3 k3 ⊢
    refine kxs_callWith (i := "ValueError.__init__") (x := x) rfl (evalArgs_plain ?_)
    show wpAny _ _ (spliced [(false, eval (.Constant (.str tx) 0 q4) (ksEnv qual (eS f) s.heap.objs.size fI' (.ref cda) cc))]) _ _ _
    refine Calls.spliced_cons ?_
    refine Calls.Constant_str ?_
    refine Calls.spliced_nil ?_
    refine ⟨hu3, ?_⟩
    have X3 : K.In h3 := X2.keeps k3
    refine bound_called (s := ⟨h3, _, _, _, _⟩) T X3 hu3 (k3 _ _ hx2) (by show 1 ≤ sizeLine; rw [sizeLine_eq]; decide) fun h4 t1 k4 hx4 => ?_
    have old : ∀ b o, b ≠ x → h1.get? b = some o → h4.get? b = some o := fun b o hb e => k4 b o hb (k3 _ _ (k2' _ _ e))
    have X4 : K.In h4 := fun b o e => old b o (fun z => by
      rw [z, hxK] at e
      cases e) (X1 _ _ e)
    have hns4 : h4.Ns s.heap.objs.size (fun y => [(("self" : Str), Value.ref x), (f, v)].reverse.lookup y) :=
      hns.at fun o e => old _ o (fun z => (ne hx) z.symm) e
    refine wpAt_of_wpAny ?_
    show wpAny _ _ (execs _ _) _ _ _
    refine wpAny_execs_cons (plainObj_wpAny_Assign_Attribute ?_)
    refine wpAny_Name (wpAny_loadName_local rfl T.fok.l2 hns4 m2 ?_) T.fok.nd
    refine wpAny_Name (wpAny_loadName_local rfl T.fok.l1 hns4 m1 ?_) (by decide)
    refine set_plain (s := ⟨h4, _, _, _, _⟩) X4 (ox := PySem.HandSPX.excO C t1) (od := none) ⟨hx4, rfl, rfl, trivial⟩ T.sa ?_
    refine PySem.HandSPX.exc_osa X4 hx4 hcl (show PySem.HandSPX.refsVE (.ref C :: bm) = true from hbm) rfl T.noF (fun h5 tk5 dx k5 dn dne hx5 hn5 => ?_)
    show wpAny _ _ (execs _ _) _ _ _
    refine wpAny_execs_nil (hq h5 tk5 dx t1 ⟨fun b o hb e => k5 b o hb (old b o hb (k1 _ _ e)), hx5, ?_, dne, hn5⟩)
    exact Nat.le_trans (Nat.le_of_lt hns4.lt) dn
/-- C(v): a new error -/
theorem made (T : ErrC prog K mg C f) (X : K.In s.heap) (hlim : s.heap.NoLimit) (hg : s.heap.Ns mainGlobals mg) (hb : s.heap.Ns builtinsNs mb) (hbs : mb "super" = some (.type "super")) {v : Value} (hroom : A.depth + 1 < recursionLimit)
    (hq : ∀ h' tk x dx t1, (∀ b o, s.heap.get? b = some o → h'.get? b = some o) → s.heap.objs.size ≤ x → s.heap.objs.size ≤ dx → dx ≠ x →
      h'.get? x = some { cls := .ref C, dict := some dx, data := .fields #[.ref t1, .none, .none, .none, .bool false, .none] } → h'.Ns1 dx (fun y => if y = f then some v else none) → R (.ok (.ret (.ref x))) { s with heap := h', toks := tk }) :
    codeAny (model prog w) A (.call (.ref C) ⟨[v], []⟩) R s := by
  obtain ⟨fI, hfI, tI, _⟩ := T.ini
  obtain ⟨nm, q, N, bs, bm, sn, sub, ab, col, dd, k0, k1, k2, k3, k5, hC, hbm⟩ := T.cls
  obtain ⟨hp, g, dr, tk, os⟩ := s
  have kk : ∀ b o, hp.get? b = some o → ((hp.push (kdv_tup [v])).push (PySem.HandSPX.excO C hp.objs.size)).get? b = some o := fun b o e => Heap.get?_push_of_some _ (Heap.get?_push_of_some _ e)
  have hget : ((hp.push (kdv_tup [v])).push (PySem.HandSPX.excO C hp.objs.size)).get? (hp.objs.size + 1) = some (PySem.HandSPX.excO C hp.objs.size) := by heap_get
  have hxK : K.lookup (hp.objs.size + 1) = none := by
    cases e : K.lookup (hp.objs.size + 1) with
    | none => rfl
    | some o => exact absurd (Nat.lt_of_succ_lt (Heap.lt_size (X _ _ e))) (Nat.lt_irrefl _)
  refine PySem.HandSPX.call_own F.excBase_ValueError (fun Y => PySem.HandSPX.refsVE_contains Y bm hbm) (X _ _ hC) (looks_findIn X hfI) (fun self => bind_fn X self tI) (by show 1 ≤ sizeLine; rw [sizeLine_eq]; decide) ?_
  refine init_run (s := ⟨(hp.push (kdv_tup [v])).push (PySem.HandSPX.excO C hp.objs.size), g, dr, tk, os⟩) T (X.keeps kk) (hlim.keeps kk) (hg.keeps kk) (hb.keeps kk) hbs hfI hget hxK hroom fun h' tk' dx t1 Z => ?_
  have old : ∀ b o, hp.get? b = some o → h'.get? b = some o := fun b o e => Z.keep b o (Nat.ne_of_lt (Nat.lt_succ_of_lt (Heap.lt_size e))) (kk b o e)
  have z : hp.objs.size + 1 + 1 ≤ dx := by
    have q := Z.dbig
    simp only [Heap.size_push] at q
    exact q
  exact ⟨rfl, hq h' tk' (hp.objs.size + 1) dx t1 old (Nat.le_succ _) (Nat.le_trans (Nat.le_trans (Nat.le_succ _) (Nat.le_succ _)) z) Z.dne Z.obj Z.ns⟩
end
end EF

set_option maxHeartbeats 4000000
namespace EF
open PySem PySem.Spec PyProof.Rows L2
open PySem.W (Frag findIn subIn mroIn clsIn nsIn specialIn takesIn keepIn hasDictIn InstAt)
/-- an error stands at a: of the class at C, and its fields if it has some -/
def ErrAt (H : Hp) (a C : Addr) (fs : List (Str × V)) : Prop :=
  (∃ d, H a = some (exo a C (some d)) ∧ H d = some (exd d fs)) ∨ (fs = [] ∧ H a = some (ExO (.ref C) a))
theorem ErrAt.ext {H H' : Hp} {a C : Addr} {fs : List (Str × V)} (h : ErrAt H a C fs) (e : ∀ b o, H b = some o → H' b = some o) : ErrAt H' a C fs := by
  rcases h with ⟨d, h1, h2⟩ | ⟨h0, h1⟩
  · exact .inl ⟨d, e _ _ h1, e _ _ h2⟩
  · exact .inr ⟨h0, e _ _ h1⟩
/-- two new objects laid at once -/
theorem laid2 {X : Cx} {pins : List (Addr × Obj)} {σ : L2.St} {H : Hp} {s : Shared} {h' : Heap} {t' : Nat} {a d : Addr} {oa od : HO} (I : Inv X pins σ H s) (k : ∀ b o, s.heap.get? b = some o → h'.get? b = some o) (ha : H a = none) (hd : H d = none) (hda : d ≠ a)
    (na : s.heap.get? a = none) (nd : s.heap.get? d = none) (oka : ObjOk X.prog X.w (upd (upd H d od) a oa) h' a oa) (okd : ObjOk X.prog X.w (upd (upd H d od) a oa) h' d od) :
    Inv X pins σ (upd (upd H d od) a oa) { s with heap := h', toks := t' } := by
  have n1 : ∀ {b : Addr} {o : Obj}, s.heap.get? b = some o → b ≠ a := fun {b o} e z => by
    rw [z, na] at e
    cases e
  have n2 : ∀ {b : Addr} {o : Obj}, s.heap.get? b = some o → b ≠ d := fun {b o} e z => by
    rw [z, nd] at e
    cases e
  have up : ∀ {b : Addr} {o : HO}, H b = some o → upd (upd H d od) a oa b = some o := fun {b o} e => by
    rw [upd_ne (ne_of_none e ha), upd_ne (ne_of_none e hd)]
    exact e
  refine I.un ⟨fun b o q _ _ _ => k b o q, fun b o q _ _ _ => ⟨o.slots, k b o q⟩, fun b o q n _ => ?_, fun b o q _ => ⟨o, k b o q⟩, fun b xs q => up q, fun b o u q => up q, fun b ps q => ⟨#[], by rw [up q]; simp⟩⟩ fun b o q => ?_
  · rw [upd_ne (n1 q), upd_ne (n2 q)]
    exact n
  · by_cases hb : b = a
    · subst hb
      rw [upd_same] at q
      cases q
      exact oka
    · rw [upd_ne hb] at q
      by_cases hb2 : b = d
      · subst hb2
        rw [upd_same] at q
        cases q
        exact okd
      · rw [upd_ne hb2] at q
        exact (I.hok b o q).stay (fun c v _ z => k c v z) (fun c z => up z) fun c xs z => up z
section
variable {X : Cx} {C : Addr} {f x : Str} {e : Expr} {te : TE} {p pos : Pos}
/-- C(e), an error with a field, as a value -/
theorem pe_err1 (T : ErrC X.prog X.K X.mg C f) (gC : X.mg x = some (.ref C)) (hg : Gl X x) (hr : Room 1 X.A) (he : PE X e te)
    (hs : starEach [e] X.env = (false, eval e X.env) :: starEach [] X.env := by rfl) (hdb : (x == ("__debug__" : Str)) = false := by decide) :
    PE X (.Call (.Name x p) [e] [] pos) (fun σ H Q => te σ H fun v H1 => ∀ a H', ErrAt H' a C [(f, v)] → (∀ b o, H1 b = some o → H' b = some o) → H1 a = none → Q (.ref a) H') := by
  refine ⟨fun pins s σ H Q I h => ?_⟩
  refine wpAny_Call_Name_kw (ld_glob I hg gC ?_ hdb)
  refine PySem.W.callWith_K (h₀ := X.base) I.ok.mod.kin T.kC ?_ hs (by rfl)
  rw [hs]
  show wpAny _ _ (spliced ((false, eval e X.env) :: backTo pos (starEach [] X.env))) _ _ s
  refine Calls.spliced_cons (thn (he.run pins s σ H _ I h) fun u s1 ⟨v, H1, I1, r1, q1⟩ => ?_)
  refine Calls.spliced_nil ⟨I1.kIn, ?_⟩
  show wpAny _ _ (call (.ref C) [u]) _ _ _
  obtain ⟨mb, hb, hbs⟩ := I1.mod.blt
  obtain ⟨hp, g, dr, tk, os⟩ := s1
  refine wpAny_call (made (s := ⟨hp, g, dr, tk, os⟩) T I1.kIn I1.nolimit (I1.mod.glob.keeps I1.bk) (hb.keeps I1.bk) ((hbs "super" (by decide)).trans (by decide +kernel)) (by have := hr.dp; omega) fun h' tk' a d t1 k ga gd hda ho hn => ?_)
  have na : H1 a = none := I1.hok.fresh ga
  have nd : H1 d = none := I1.hok.fresh gd
  have none_at : ∀ b, hp.objs.size ≤ b → hp.get? b = none := fun b hb => by
    cases z : hp.get? b with
    | none => rfl
    | some o => exact absurd (Nat.lt_of_lt_of_le (Heap.lt_size z) hb) (Nat.lt_irrefl _)
  have J := laid2 (t' := tk') (oa := exo a C (some d)) (od := exd d [(f, v)]) I1 k na nd hda (none_at a ga) (none_at d gd) (exo_ok ho)
    (exd_ok hn (fun y => by
      by_cases hy : y = f
      · rw [lookup_put, if_pos hy, if_pos hy]
        exact r1
      · rw [lookup_put, if_neg hy, if_neg hy]
        trivial))
  show EP X pins σ Q (.ref a) ⟨h', g, dr, tk', os⟩
  refine ⟨.ref a, _, J, rfl, q1 a _ (.inl ⟨d, upd_same, by rw [upd_ne hda, upd_same]⟩) (fun b o z => ?_) na⟩
  rw [upd_ne (ne_of_none z na), upd_ne (ne_of_none z nd)]
  exact z
/-- C(), an error without fields, as a value -/
theorem pe_err0 (q : PySem.W.excIn X.K C PySem.HandSPX.veTail "ValueError.__new__" = true) (gC : X.mg x = some (.ref C)) (kC : keepIn X.K (.ref C) = true) (hg : Gl X x) (hdb : (x == ("__debug__" : Str)) = false := by decide) :
    PE X (.Call (.Name x p) [] [] pos) (fun σ H1 Q => ∀ a H', ErrAt H' a C [] → (∀ b o, H1 b = some o → H' b = some o) → H1 a = none → Q (.ref a) H') := by
  refine ⟨fun pins s σ H Q I h => ?_⟩
  refine wpAny_Call_Name_kw (ld_glob I hg gC ?_ hdb)
  refine PySem.W.callWith_K0 I.kIn kC ?_
  show wpAny _ _ (call (.ref C) []) _ _ _
  obtain ⟨bm, N, nm, qn, bs, hdct, sn, sub, ab, col, dd, k0, k1, k2, k3, k5, mN, hC, hN, hni, T⟩ := exc_obj I.kIn q
  obtain ⟨hp, g, dr, tk, os⟩ := s
  refine wpAny_call_exc_subT F.excBase_ValueError T hC hN hni (fun h' a hm => ?_) (by show 0 ≤ sizeLine; exact Nat.zero_le _)
  have hn : H a = none := I.hok.gone hm.new
  obtain ⟨t, ht, _, _⟩ := hm.there
  refine ⟨.ref a, upd H a (ExO (.ref C) a), I.laidN (s := ⟨hp, g, dr, tk, os⟩) hm.keeps hm.new hn (L2.exO_ok ht ⟨rfl, rfl⟩ rfl rfl rfl (show 4 < 6 by decide)), rfl, h a _ (.inr ⟨rfl, upd_same⟩) (fun b o z => ?_) hn⟩
  rw [upd_ne (ne_of_none z hn)]
  exact z
/-- what the written part says of an error's class when it is asked about -/
structure IsE (K : Frag) (C : Addr) : Prop where
  cl : (clsIn K C).isSome = true
  ga : findIn K (.ref C) "__getattribute__" = some (some (.builtin "BaseException.__getattribute__"))
  gg : findIn K (.ref C) "__getattr__" = some none
  exC : subIn K (.ref C) (.type "BaseException") = some true
  kls : findIn K (.ref C) "__class__" = some (some (.builtin "object.__class__"))
  get : specialIn K (.builtin "object.__class__") "__get__" = some (some (.builtin "getset_descriptor.__get__"))
  tk : takesIn K (.builtin "object.__class__") = some true
  obj : mroIn K C (.type "object") = some true
theorem errInst {P : Program} {w : World} {H : Hp} {h : Heap} {a C : Addr} {fs : List (Str × V)} (ok : HOk P w H h) (e : ErrAt H a C fs) : ∃ ox od, InstAt h a ox C od := by
  rcases e with ⟨d, h1, h2⟩ | ⟨_, h1⟩
  · obtain ⟨t1, q⟩ := exo_at ok h1
    obtain ⟨mA, ⟨od, es, ep, e1, _⟩, _⟩ := exd_at ok h2
    exact ⟨_, some od, q, rfl, rfl, e1⟩
  · obtain ⟨⟨oe, vs, q, z, hd, _⟩, _, _⟩ := ok a _ h1
    refine ⟨oe, none, q, z.1, ?_, ?_⟩
    · unfold PySem.W.notCls
      rw [hd] <;> rfl
    · rw [z.2]
      trivial
/-- isinstance(e, c), e an error -/
def rIsiE (K : Frag) : List V → Hp → VK → Prop := fun xs H Q => ∃ (a C : Addr) (fs : List (Str × V)) (c : V) (u : Value) (b : Bool), xs = [.ref a, c] ∧ ClsV c u ∧ ErrAt H a C fs ∧ IsE K C ∧ PySem.W.kitOne K (.ref C) u = some b ∧ Q (.bl b) H
theorem call_isiE {X : Cx} : CallR X (.builtin "isinstance") (rIsiE X.K) := by
  intro pins s σ H xs us Q I r h
  obtain ⟨a, C, fs, c, u, b, rfl, k, ea, T, e, q⟩ := h
  obtain ⟨u1, u2, rfl, r1, r2⟩ := vals2 r
  have e2 := k.eq r2
  subst e2
  cases (show u1 = Value.ref a from r1)
  obtain ⟨ox, od, J⟩ := errInst I.hok ea
  exact PySem.W.kia_one (PySem.W.kitx_exc T.cl T.ga T.gg T.exC T.kls T.get T.tk T.obj) I.kIn J e (fun z => nomatch z) fun tk => ⟨.bl b, H, I.tok tk, rfl, q⟩
/-- e.f, e an error with fields -/
def tErrF (K : Frag) (f : Str) (te : TE) : TE := fun σ H Q => te σ H fun x H1 => ∃ (a C : Addr) (fs : List (Str × V)) (v : V), x = .ref a ∧ IsE K C ∧ hasDictIn K C = true ∧ findIn K (.ref C) f = some none ∧ ErrAt H1 a C fs ∧ fs.lookup f = some v ∧ Q v H1
theorem pe_errF {X : Cx} {e : Expr} {te : TE} {f : Str} {pos : Pos} (he : PE X e te) (hb : attributeBase e f X.env (eval e X.env) = eval e X.env := by rfl) : PE X (.Attribute e f pos) (tErrF X.K f te) := by
  refine ⟨fun pins s σ H Q I h => ?_⟩
  refine attr_of hb (thn (he.run pins s σ H _ I h) fun u s1 hh => ?_)
  obtain ⟨x, H1, I1, rx, a, C, fs, v, ex, T, hd, hf, ea, hl, q⟩ := hh
  subst ex
  obtain rfl : u = Value.ref a := rx
  rcases ea with ⟨d, h1, h2⟩ | ⟨h0, _⟩
  · obtain ⟨t1, ho⟩ := exo_at I1.hok h1
    obtain ⟨mA, hns, rel⟩ := exd_at I1.hok h2
    obtain ⟨od, hod, hlk⟩ := lookIn_ns hns
    obtain ⟨w, hw, rw'⟩ := RelO.some_of (v := v) (o := mA f) (by rw [← hl]; exact rel f)
    have J : InstAt s1.heap a { cls := .ref C, dict := some d, data := .fields #[.ref t1, .none, .none, .none, .bool false, .none] } C (some od) := ⟨ho, rfl, rfl, hod⟩
    exact PySem.HandSPX.exc_get I1.kIn J T.ga T.gg T.exC (PySem.W.findObj_own hd hf rfl (by rw [hlk, hw])) (handed_of rw') ⟨v, H1, I1.tok _, rw', q⟩
  · subst h0
    cases hl
end
end EF

set_option maxHeartbeats 4000000
namespace Hn
open PySem PySem.Spec PyProof.Rows L2 EF
open PySem.W (Frag keepIn)
/-- the built-ins' names are not the module's -/
structure Bl (mg : Str → Option Value) : Prop where
  b_len : mg "len" = none
  b_int : mg "int" = none
  b_abs : mg "abs" = none
  b_sum : mg "sum" = none
  b_isinstance : mg "isinstance" = none
  b_all : mg "all" = none
  b_any : mg "any" = none
  b_range : mg "range" = none
  b_enumerate : mg "enumerate" = none
  b_zip : mg "zip" = none
  b_tuple : mg "tuple" = none
  b_list : mg "list" = none
  b_bool : mg "bool" = none
  b_sorted : mg "sorted" = none
  b_set : mg "set" = none
  b_ValueError : mg "ValueError" = none
/-- a def of the text -/
def Dfn (K : Frag) (mg : Str → Option Value) (x : Str) (st : Stmt) (ps : List Str) : Prop := ∃ f fd, Fun K x x st f fd ∧ Binds K fd ps [] ∧ mg x = some (.ref f)
/-- a def that keeps a promise and lets no error out -/
def Kept (P : Program) (w : World) (K : Frag) (mg : Str → Option Value) (base : Heap) (k : Nat) (x : Str) (ps : List Str) (sp : Sp) : Prop :=
  ∃ f fd, mg x = some (.ref f) ∧ keepIn K (.ref f) = true ∧ Binds K fd ps [] ∧ FnOk P w K mg base CX0 k f fd ps sp
section
variable {P : Program} {w : World} {K : Frag} {mg : Str → Option Value} {base : Heap}
theorem Kept.mono {j k : Nat} {x : Str} {ps : List Str} {sp : Sp} (G : Kept P w K mg base j x ps sp) (h : j ≤ k) : Kept P w K mg base k x ps sp := by
  obtain ⟨f, fd, a, b, c, d⟩ := G
  exact ⟨f, fd, a, b, c, d.mono h⟩
theorem Dfn.kept {x : Str} {st : Stmt} {N ps : List Str} {k : Nat} {sp : Sp} (D : Dfn K mg x st ps) (S : FnScope N ps (defScope st)) (len : ∀ vs H Q E, sp vs H Q E → vs.length = ps.length)
    (hbody : ∀ (f : Addr) (cdv : Value) (A : Around) (outer : List Env) (s : Shared) (H : Hp) (vs : List V) (Q : VK) (E : XK), Room k (A.deeper (envOfC x (defScope st) s.heap.objs.size f cdv)) → sp vs H Q E →
      ∃ t, PSs (cxOf CX0 P w K mg base N x (defScope st) f cdv A outer s H E).nox (defBody st) t ∧ t { nx := fun _ H' => Q .non H', rt := Q } (start N vs) H) :
    Kept P w K mg base (k + 1) x ps sp := by
  obtain ⟨f, fd, F, b, g⟩ := D
  exact ⟨f, fd, g, F.kp, b, F.ok S len fun cdv A outer s H vs Q E hr h => hbody f cdv A outer s H vs Q E hr h⟩
end
/-- f(e, ..), f a def that keeps its promise -/
def tK (sp : Sp) (t : TA) : TE := fun σ H Q => t σ H fun vs H1 => sp vs H1 Q E0
section
variable {X : Cx} {k : Nat} {x : Str} {ps : List Str} {sp : Sp} {e : Expr} {es : List Expr} {t : TA} {p pos : Pos}
theorem pe_k (G : Kept X.prog X.w X.K X.mg X.base k x ps sp) (hr : Room k X.A) (hg : Gl X x) (ha : PA X (e :: es) t) (hdb : (x == ("__debug__" : Str)) = false := by decide)
    (he : starEach (e :: es) X.env = (false, eval e X.env) :: starEach es X.env := by rfl) (hpl : (backTo pos (starEach es X.env)).any (·.1) = false := by rfl) : PE X (.Call (.Name x p) (e :: es) [] pos) (tK sp t) := by
  obtain ⟨f, fd, gm, kp, b, F⟩ := G
  have h := pe_call (p := p) (pos := pos) F hr hg gm kp b .nil pass0 ha hdb he hpl
  have e : tCall sp [] E0 t = tK sp t := by
    funext σ H Q
    unfold tCall tK
    simp only [List.append_nil]
  rw [e] at h
  exact h
theorem pe_k0 (G : Kept X.prog X.w X.K X.mg X.base k x ps sp) (hr : Room k X.A) (hg : Gl X x) (hdb : (x == ("__debug__" : Str)) = false := by decide) : PE X (.Call (.Name x p) [] [] pos) (tK sp tNil) := by
  obtain ⟨f, fd, gm, kp, b, F⟩ := G
  have h := pe_call0 (p := p) (pos := pos) F hr hg gm kp b .nil pass0 hdb
  have e : tCall sp [] E0 tNil = tK sp tNil := by
    funext σ H Q
    unfold tCall tK
    simp only [List.append_nil]
  rw [e] at h
  exact h
end
/-! ### the drawing bag -/
/-- at b the bag, at g its list of great numbers -/
def BagAt (H : Hp) (b g : Addr) : Prop := b ≠ g ∧ ∃ (s c : Int) (gs : List Int) (al : V), H b = some (.lst [.int s, .int c, .ref g, al]) ∧ H g = some (.lst (gs.map V.int)) ∧ gs.length ≤ 63 ∧ (al = .non ∨ ∃ i, al = .int i)
/-- all that stood stands, but the bag's two lists -/
def But (b g : Addr) (H H' : Hp) : Prop := ∀ a o, a ≠ b → a ≠ g → H a = some o → H' a = some o
theorem But.refl {b g : Addr} {H : Hp} : But b g H H := fun _ _ _ _ e => e
theorem But.trans {b g : Addr} {H H1 H2 : Hp} (x : But b g H H1) (y : But b g H1 H2) : But b g H H2 := fun a o h1 h2 e => y a o h1 h2 (x a o h1 h2 e)
theorem But.of {b g : Addr} {H H' : Hp} (x : Same H H') : But b g H H' := fun a o _ _ e => x a o e
theorem BagAt.same {H H' : Hp} {b g : Addr} (h : BagAt H b g) (e : Same H H') : BagAt H' b g := by
  obtain ⟨n, s, c, gs, al, h1, h2, r⟩ := h
  exact ⟨n, s, c, gs, al, e _ _ h1, e _ _ h2, r⟩
/-- an object of another kind, or a new one, is none of the bag's lists -/
theorem BagAt.ne {H : Hp} {b g a : Addr} (h : BagAt H b g) (n : H a = none) : a ≠ b ∧ a ≠ g := by
  obtain ⟨_, s, c, gs, al, h1, h2, _⟩ := h
  constructor
  · intro z
    rw [z, h1] at n
    cases n
  · intro z
    rw [z, h2] at n
    cases n
def spBag (K : Frag) : Sp := fun vs H Q _ => ∃ (a : Addr) (ns : List Int), vs = [.ref a] ∧ SqL K H a (ns.map V.int) ∧ ns.length ≤ 63 ∧ ∀ b g H', Same H H' → H b = none → H g = none → BagAt H' b g → Q (.ref b) H'
def spPick : Sp := fun vs H Q _ => ∃ (b g : Addr) (m : Int), vs = [.ref b, .int m] ∧ BagAt H b g ∧ 0 < m ∧ m < 1073741824 ∧ ∀ r H', But b g H H' → BagAt H' b g → 0 ≤ r → r < m → Q (.int r) H'
def spSome (K : Frag) : Sp := fun vs H Q _ => ∃ (b g l : Addr) (xs : List V), vs = [.ref b, .ref l] ∧ BagAt H b g ∧ l ≠ b ∧ l ≠ g ∧ (SqL K H l xs ∨ SqT K H l xs) ∧ 0 < xs.length ∧ xs.length ≤ 1000 ∧ ∀ x H', But b g H H' → BagAt H' b g → x ∈ xs → Q x H'
/-! ### data of a bounded depth; its lists stand where N lets them -/
inductive Good (N : Addr → Prop) (H : Hp) : Nat → V → Prop
  | non (n : Nat) : Good N H n .non
  | bl (n : Nat) (b : Bool) : Good N H n (.bl b)
  | int (n : Nat) (i : Int) : Good N H n (.int i)
  | str (n : Nat) (x : Str) : Good N H n (.str x)
  | dic (n : Nat) {a : Addr} {kvs : List (Key × V)} (e : H a = some (.dK kvs)) (nd : (kvs.map (·.1)).Nodup) (fl : ∀ p ∈ kvs, flatB p.2 = true) : Good N H n (.ref a)
  | tup {n : Nat} {a : Addr} {xs : List V} (e : H a = some (.tup xs)) (h : ∀ x ∈ xs, Good N H n x) (l : xs.length ≤ 100) : Good N H (n + 1) (.ref a)
  | lst {n : Nat} {a : Addr} {xs : List V} (e : H a = some (.lst xs)) (h : ∀ x ∈ xs, Good N H n x) (l : xs.length ≤ 100) (na : N a) : Good N H (n + 1) (.ref a)
/-- it stays where what it stands on stays -/
theorem Good.keep {N M : Addr → Prop} {H H' : Hp} (hd : ∀ a kvs, H a = some (.dK kvs) → H' a = some (.dK kvs)) (ht : ∀ a xs, H a = some (.tup xs) → H' a = some (.tup xs)) (hl : ∀ a xs, N a → H a = some (.lst xs) → M a ∧ H' a = some (.lst xs)) :
    ∀ {n : Nat} {x : V}, Good N H n x → Good M H' n x := by
  intro n x g
  induction g with
  | non n => exact .non n
  | bl n b => exact .bl n b
  | int n i => exact .int n i
  | str n x => exact .str n x
  | dic n e nd fl => exact .dic n (hd _ _ e) nd fl
  | tup e h l ih => exact .tup (ht _ _ e) ih l
  | lst e h l na ih => exact .lst (hl _ _ na e).2 ih l (hl _ _ na e).1
theorem Good.same {N : Addr → Prop} {H H' : Hp} (s : Same H H') {n : Nat} {x : V} (g : Good N H n x) : Good N H' n x := g.keep (fun _ _ e => s _ _ e) (fun _ _ e => s _ _ e) fun _ _ na e => ⟨na, s _ _ e⟩
theorem Good.more {N : Addr → Prop} {H : Hp} : ∀ {n m : Nat} {x : V}, Good N H n x → n ≤ m → Good N H m x := by
  intro n m x g
  induction g generalizing m with
  | non n => exact fun _ => .non m
  | bl n b => exact fun _ => .bl m b
  | int n i => exact fun _ => .int m i
  | str n x => exact fun _ => .str m x
  | dic n e nd fl => exact fun _ => .dic m e nd fl
  | tup e h l ih =>
    intro q
    obtain ⟨k, rfl⟩ : ∃ k, m = k + 1 := ⟨m - 1, by omega⟩
    exact .tup e (fun x hx => ih x hx (by omega)) l
  | lst e h l na ih =>
    intro q
    obtain ⟨k, rfl⟩ : ∃ k, m = k + 1 := ⟨m - 1, by omega⟩
    exact .lst e (fun x hx => ih x hx (by omega)) l na
/-- the same datum twice is told to be the same; less than n deep -/
def spIs (n : Nat) : Sp := fun vs H Q _ => ∃ (N : Addr → Prop) (x : V) (m : Nat), vs = [x, x] ∧ m < n ∧ Good N H m x ∧ ∀ H', Same H H' → Q (.bl true) H'
def spDeep : Sp := fun vs H Q _ => vs = [] ∧ ∀ x H', Same H H' → Good (fun a => H a = none) H' 23 x → Q x H'
theorem kept_zero {P : Program} {w : World} {K : Frag} {mg : Str → Option Value} {base : Heap} {x : Str} {st : Stmt} {ps : List Str} {sp : Sp} (D : Dfn K mg x st ps) (no : ∀ vs H Q E, ¬ sp vs H Q E) : Kept P w K mg base 0 x ps sp := by
  obtain ⟨f, fd, F, b, g⟩ := D
  exact ⟨f, fd, g, F.kp, b, ⟨fun vs H Q E h => absurd h (no vs H Q E), fun A outer s H args us vs Q E _ _ _ _ h => absurd h (no vs H Q E)⟩⟩
theorem kitTL {K : Frag} {T : String} {b1 b2 : Bool} (h1 : kitB T "tuple" = some b1) (h2 : kitB T "list" = some b2) : PySem.W.kitAny K (.type T) [.type "tuple", .type "list"] = some (b1 || b2) := by
  refine kitAny_cons (kit_ty h1) (fun e => ?_) (fun e => by rw [e]; rfl)
  rw [e]
  refine kitAny_cons (kit_ty h2) (fun e2 => ?_) (fun e2 => by rw [e2]; rfl)
  rw [e2]
  exact kitAny_nil
theorem twoTys : Paired ClsV [V.ty "tuple", V.ty "list"] [Value.type "tuple", Value.type "list"] := .cons (.ty _) (.cons (.ty _) .nil)
theorem lc_zipL {K : Frag} {a b : Addr} {xs ys : List V} {g : TG} {tt : TT} {te : TE} {vs : List Nat} {σ : L2.St} {H1 : Hp} {D : Addr} {Qd : Hp → Prop} (hl : xs.length = ys.length) (Pv : Nat → Hp → Prop) (h0 : Pv 0 (upd H1 D (.lst [])))
    (hq : ∀ i H, Pv i H → SqL K H a xs ∧ SqL K H b ys)
    (hs : ∀ i x y T H, xs[i]? = some x → ys[i]? = some y → Pv i H → H T = none → g (.ref T) (wipe σ vs) (upd H T (.tup [x, y])) fun σ2 H2 => wipe σ2 vs = wipe σ vs ∧ tt σ2 H2 fun c H3 =>
      if c = true then te σ2 H3 fun z H4 => ∃ acc, H4 D = some (.lst acc) ∧ acc.length < sizeLine ∧ Pv (i + 1) (upd H4 D (.lst (acc ++ [z]))) else Pv (i + 1) H3) (hd : ∀ H, Pv xs.length H → Qd H) :
    ∃ W : Nat → Nat → Hp → Prop, (∃ m, W 0 m (upd H1 D (.lst []))) ∧ ∀ i m H, W i m H →
      ((Itz K a b).stop i H ∧ Qd H) ∨ ((Itz K a b).go i H ∧ ∃ Nx : Hp → Prop, (∀ H', Nx H' → ∃ m', m' < m ∧ W (i + 1) m' H') ∧ ∀ x H', (Itz K a b).yld i H x H' → g x (wipe σ vs) H' fun σ2 H2 => wipe σ2 vs = wipe σ vs ∧ tt σ2 H2 fun c H3 =>
        if c = true then te σ2 H3 fun y H4 => ∃ acc, H4 D = some (.lst acc) ∧ acc.length < sizeLine ∧ Nx (upd H4 D (.lst (acc ++ [y]))) else Nx H3) := by
  refine ⟨fun i m H => m = xs.length - i ∧ i ≤ xs.length ∧ Pv i H, ⟨xs.length, by simp, Nat.zero_le _, h0⟩, ?_⟩
  rintro i m H ⟨rfl, hi, p⟩
  obtain ⟨q1, q2⟩ := hq i H p
  by_cases h : i < xs.length
  · have e1 : xs[i]? = some xs[i] := List.getElem?_eq_getElem h
    have e2 : ys[i]? = some (ys[i]'(hl ▸ h)) := List.getElem?_eq_getElem _
    refine .inr ⟨⟨xs, ys, _, _, q1, q2, e1, e2⟩, Pv (i + 1), fun H' z => ⟨xs.length - (i + 1), by omega, rfl, h, z⟩, fun x H' hy => ?_⟩
    obtain ⟨T, x1, x2, rfl, nT, rfl, f1, f2⟩ := hy
    exact hs i x1 x2 T H (f1 _ q1) (f2 _ q2) p nT
  · have e : i = xs.length := by omega
    subst e
    exact .inl ⟨⟨xs, ys, q1, q2, .inl (Nat.le_refl _)⟩, hd H p⟩
theorem lc_zipT {K : Frag} {a b : Addr} {xs ys : List V} {g : TG} {tt : TT} {te : TE} {vs : List Nat} {σ : L2.St} {H1 : Hp} {D : Addr} {Qd : Hp → Prop} (hl : xs.length = ys.length) (Pv : Nat → Hp → Prop) (h0 : Pv 0 (upd H1 D (.lst [])))
    (hq : ∀ i H, Pv i H → SqT K H a xs ∧ SqT K H b ys)
    (hs : ∀ i x y T H, xs[i]? = some x → ys[i]? = some y → Pv i H → H T = none → g (.ref T) (wipe σ vs) (upd H T (.tup [x, y])) fun σ2 H2 => wipe σ2 vs = wipe σ vs ∧ tt σ2 H2 fun c H3 =>
      if c = true then te σ2 H3 fun z H4 => ∃ acc, H4 D = some (.lst acc) ∧ acc.length < sizeLine ∧ Pv (i + 1) (upd H4 D (.lst (acc ++ [z]))) else Pv (i + 1) H3) (hd : ∀ H, Pv xs.length H → Qd H) :
    ∃ W : Nat → Nat → Hp → Prop, (∃ m, W 0 m (upd H1 D (.lst []))) ∧ ∀ i m H, W i m H →
      ((RZ.ItzT K a b).stop i H ∧ Qd H) ∨ ((RZ.ItzT K a b).go i H ∧ ∃ Nx : Hp → Prop, (∀ H', Nx H' → ∃ m', m' < m ∧ W (i + 1) m' H') ∧ ∀ x H', (RZ.ItzT K a b).yld i H x H' → g x (wipe σ vs) H' fun σ2 H2 => wipe σ2 vs = wipe σ vs ∧ tt σ2 H2 fun c H3 =>
        if c = true then te σ2 H3 fun y H4 => ∃ acc, H4 D = some (.lst acc) ∧ acc.length < sizeLine ∧ Nx (upd H4 D (.lst (acc ++ [y]))) else Nx H3) := by
  refine ⟨fun i m H => m = xs.length - i ∧ i ≤ xs.length ∧ Pv i H, ⟨xs.length, by simp, Nat.zero_le _, h0⟩, ?_⟩
  rintro i m H ⟨rfl, hi, p⟩
  obtain ⟨q1, q2⟩ := hq i H p
  by_cases h : i < xs.length
  · have e1 : xs[i]? = some xs[i] := List.getElem?_eq_getElem h
    have e2 : ys[i]? = some (ys[i]'(hl ▸ h)) := List.getElem?_eq_getElem _
    refine .inr ⟨⟨xs, ys, _, _, q1, q2, e1, e2⟩, Pv (i + 1), fun H' z => ⟨xs.length - (i + 1), by omega, rfl, h, z⟩, fun x H' hy => ?_⟩
    obtain ⟨T, x1, x2, rfl, nT, rfl, f1, f2⟩ := hy
    exact hs i x1 x2 T H (f1 _ q1) (f2 _ q2) p nT
  · have e : i = xs.length := by omega
    subst e
    exact .inl ⟨⟨xs, ys, q1, q2, .inl (Nat.le_refl _)⟩, hd H p⟩
theorem Good.kind {K : Frag} {N : Addr → Prop} {H : Hp} {m : Nat} {x : V} (g : Good N H m x) :
    (∃ T bb, TyX K H x (.type T) ∧ kitB T "tuple" = some false ∧ kitB T "list" = some false ∧ kitB T "bool" = some bb ∧
      (scal x x = true ∨ ∃ a kvs, x = .ref a ∧ H a = some (.dK kvs) ∧ (kvs.map (·.1)).Nodup ∧ ∀ p ∈ kvs, flatB p.2 = true)) ∨
    (∃ a xs n, x = .ref a ∧ m = n + 1 ∧ (∀ y ∈ xs, Good N H n y) ∧ xs.length ≤ 100 ∧ (H a = some (.tup xs) ∨ H a = some (.lst xs))) := by
  cases g with
  | non n => exact .inl ⟨_, false, .base .non, by decide +kernel, by decide +kernel, by decide +kernel, .inl rfl⟩
  | bl n b => exact .inl ⟨_, true, .base (.bl b), by decide +kernel, by decide +kernel, by decide +kernel, .inl rfl⟩
  | int n i => exact .inl ⟨_, false, .base (.int i), by decide +kernel, by decide +kernel, by decide +kernel, .inl rfl⟩
  | str n s => exact .inl ⟨_, false, .base (.str s), by decide +kernel, by decide +kernel, by decide +kernel, .inl rfl⟩
  | dic n e nd fl => exact .inl ⟨_, false, .base (.dK e), by decide +kernel, by decide +kernel, by decide +kernel, .inr ⟨_, _, rfl, e, nd, fl⟩⟩
  | tup e h l => exact .inr ⟨_, _, _, rfl, rfl, h, l, .inl e⟩
  | lst e h l na => exact .inr ⟨_, _, _, rfl, rfl, h, l, .inr e⟩
theorem _root_.L2.Same.seqT {K : Frag} {H H' : Hp} {a : Addr} {xs : List V} (e : Same H H') (h : SqT K H a xs) : SqT K H' a xs := by
  rcases h with (h | ⟨o, h⟩) | h
  · exact .inl (.inl (e _ _ h))
  · exact .inl (.inr ⟨o, e _ _ h⟩)
  · exact .inr h
/-- an error class without a field; one with the field f -/
structure Er0 (K : Frag) (mg : Str → Option Value) (x : Str) (C : Addr) : Prop where
  g : mg x = some (.ref C)
  e : PySem.W.excIn K C PySem.HandSPX.veTail "ValueError.__new__" = true
  k : keepIn K (.ref C) = true
structure Er1 (P : Program) (K : Frag) (mg : Str → Option Value) (x f : Str) (C : Addr) : Prop where
  g : mg x = some (.ref C)
  e : ErrC P K mg C f
theorem BagAt.off {H : Hp} {b g a : Addr} {o : HO} (h : BagAt H b g) (e : H a = some o) (n : ∀ xs, o ≠ .lst xs) : a ≠ b ∧ a ≠ g := by
  obtain ⟨_, s, c, gs, al, h1, h2, _⟩ := h
  constructor
  · intro z
    rw [z, h1] at e
    exact n _ (Option.some.inj e).symm
  · intro z
    rw [z, h2] at e
    exact n _ (Option.some.inj e).symm
theorem But.keep {b g a : Addr} {H H' : Hp} {o : HO} (t : But b g H H') (h : BagAt H b g) (e : H a = some o) (n : ∀ xs, o ≠ .lst xs) : H' a = some o := t a o (h.off e n).1 (h.off e n).2 e
theorem ErrAt.but {b g a C : Addr} {H H' : Hp} {fs : List (Str × V)} (h : ErrAt H a C fs) (hb : BagAt H b g) (t : But b g H H') : ErrAt H' a C fs := by
  rcases h with ⟨d, h1, h2⟩ | ⟨h0, h1⟩
  · exact .inl ⟨d, t.keep hb h1 (fun xs z => nomatch (z : HO.ext _ = HO.lst xs)), t.keep hb h2 (fun xs z => nomatch (z : HO.ext _ = HO.lst xs))⟩
  · exact .inr ⟨h0, t.keep hb h1 (fun xs z => nomatch (z : HO.ext _ = HO.lst xs))⟩
theorem Good.but {N : Addr → Prop} {b g : Addr} {H H' : Hp} {n : Nat} {x : V} (h : Good N H n x) (hb : BagAt H b g) (t : But b g H H') (hN : ∀ a, N a → a ≠ b ∧ a ≠ g) : Good N H' n x :=
  h.keep (fun _ _ e => t.keep hb e (fun _ z => nomatch z)) (fun _ _ e => t.keep hb e (fun _ z => nomatch z)) fun a _ na e => ⟨na, t _ _ (hN a na).1 (hN a na).2 e⟩
theorem for_enumL {K : Frag} {a : Addr} {xs : List V} {g : TG} {tb : TS} {D : Ends} {σ : L2.St} {H : Hp} (Pv : Nat → L2.St → Hp → Prop) (h0 : Pv 0 σ H) (hq : ∀ i σ H, Pv i σ H → SqL K H a xs)
    (hs : ∀ i x T σ H, xs[i]? = some x → Pv i σ H → H T = none → g (.ref T) σ (upd H T (.tup [.int (i : Nat), x])) fun σ2 H2 => tb { D with nx := Pv (i + 1), ct := Pv (i + 1), bk := D.nx } σ2 H2) (hd : ∀ σ H, Pv xs.length σ H → D.nx σ H) :
    ∃ W : Nat → Nat → L2.St → Hp → Prop, (∃ m, W 0 m σ H) ∧ ∀ i m σ H, W i m σ H →
      ((Ite K a).stop i H ∧ D.nx σ H) ∨ ((Ite K a).go i H ∧ ∃ N : L2.St → Hp → Prop, (∀ σ' H', N σ' H' → ∃ m', m' < m ∧ W (i + 1) m' σ' H') ∧ ∀ x H', (Ite K a).yld i H x H' → g x σ H' fun σ2 H2 => tb { D with nx := N, ct := N, bk := D.nx } σ2 H2) := by
  refine ⟨fun i m σ H => m = xs.length - i ∧ i ≤ xs.length ∧ Pv i σ H, ⟨xs.length, by simp, Nat.zero_le _, h0⟩, ?_⟩
  rintro i m σ H ⟨rfl, hi, p⟩
  have q1 := hq i σ H p
  by_cases h : i < xs.length
  · have e1 : xs[i]? = some xs[i] := List.getElem?_eq_getElem h
    refine .inr ⟨⟨xs, _, q1, e1⟩, Pv (i + 1), fun σ' H' z => ⟨xs.length - (i + 1), by omega, rfl, h, z⟩, fun x H' hy => ?_⟩
    obtain ⟨T, x1, rfl, nT, rfl, f1⟩ := hy
    exact hs i x1 T σ H (f1 _ q1) p nT
  · have e : i = xs.length := by omega
    subst e
    exact .inl ⟨⟨xs, q1, Nat.le_refl _⟩, hd σ H p⟩
theorem at0 {α : Type} {x : α} {xs : List α} : atI (x :: xs) 0 = some x := atI_nat (j := 0) rfl
theorem ix0 {α : Type} {x : α} {xs : List α} : ixN (x :: xs).length 0 = some 0 := by
  unfold ixN
  rw [if_pos (Int.le_refl 0), if_pos (by rw [List.length_cons]; omega)]
  rfl
theorem sx0 {α : Type} {x : α} {xs : List α} : seqIndex? 0 (x :: xs).length = some 0 := (ixN_seq ix0).1
theorem cmulL {a b m : Int} (h : 0 < m) (h2 : m ≤ 4294967296) : CMul (a % m) b := by
  have h3 := Int.emod_nonneg a (show m ≠ 0 by omega)
  have h4 := Int.emod_lt_of_pos a h
  exact .inl ⟨by omega, by omega⟩
theorem cut63 {xs : List V} (h : xs.length ≤ 63) : cutV xs none (some 63) = xs := by
  have e : HT.sIx xs.length xs.length (some 63) = min 63 xs.length := HT.sIx_nat xs.length xs.length 63
  unfold cutV
  rw [e, HT.sIx_none, List.drop_zero]
  exact List.take_of_length_le (by omega)
theorem same_new {H : Hp} {p : Addr} {o : HO} (h : H p = none) : Same H (upd H p o) := fun b x e => by
  rw [upd_ne (ne_of_none e h)]
  exact e
theorem same_mut {H H' : Hp} {p : Addr} {o : HO} (e : Same H H') (h : H p = none) : Same H (upd H' p o) := fun b x q => by
  rw [upd_ne (ne_of_none q h)]
  exact e b x q
theorem len_lt {n : Nat} (h : n ≤ 1000) : n < sizeLine := Nat.lt_of_le_of_lt h (by rw [sizeLine_eq]; decide)
theorem len_le {n : Nat} (h : n ≤ 1000) : n ≤ sizeLine := Nat.le_of_lt (len_lt h)
theorem int_at {ns : List Int} {i : Nat} {x : V} (h : (ns.map V.int)[i]? = some x) : ∃ n, x = .int n ∧ i < ns.length := by
  rw [List.getElem?_map] at h
  cases e : ns[i]? with
  | none =>
    rw [e] at h
    cases h
  | some n =>
    rw [e] at h
    have hi : i < ns.length := by
      cases Nat.lt_or_ge i ns.length with
      | inl z => exact z
      | inr z =>
        rw [List.getElem?_eq_none_iff.mpr z] at e
        cases e
    exact ⟨n, (Option.some.inj h).symm, hi⟩
end Hn

set_option maxHeartbeats 4000000
/-! data of any kind on the heap, read and never changed -/
namespace Hn
open PySem PySem.Spec PyProof.Rows L2 EF
open PySem.W (Frag keepIn)
mutual
/-- x is the datum d; its lists stand where N lets them; a dict is a dict, whatever it holds -/
def Rep (N : Addr → Prop) (H : Hp) : PyData → V → Prop
  | .none, x => x = .non
  | .bool b, x => x = .bl b
  | .int i, x => x = .int i
  | .str s, x => x = .str s
  | .list ds, x => ∃ a xs, x = .ref a ∧ N a ∧ H a = some (.lst xs) ∧ RepL N H ds xs
  | .tuple ds, x => ∃ a xs, x = .ref a ∧ H a = some (.tup xs) ∧ RepL N H ds xs
  | .dict _, x => ∃ a kvs, x = .ref a ∧ H a = some (.dK kvs)
def RepL (N : Addr → Prop) (H : Hp) : List PyData → List V → Prop
  | [], xs => xs = []
  | d :: ds, xs => ∃ x r, xs = x :: r ∧ Rep N H d x ∧ RepL N H ds r
end
section
variable {N M : Addr → Prop} {H H' : Hp}
mutual
theorem Rep.keep (hd : ∀ a kvs, H a = some (.dK kvs) → H' a = some (.dK kvs)) (ht : ∀ a xs, H a = some (.tup xs) → H' a = some (.tup xs)) (hl : ∀ a xs, N a → H a = some (.lst xs) → M a ∧ H' a = some (.lst xs)) :
    ∀ {d : PyData} {x : V}, Rep N H d x → Rep M H' d x
  | .none, _, h => h
  | .bool _, _, h => h
  | .int _, _, h => h
  | .str _, _, h => h
  | .list ds, _, h => by
    obtain ⟨a, xs, rfl, na, e, r⟩ := h
    exact ⟨a, xs, rfl, (hl a xs na e).1, (hl a xs na e).2, RepL.keep hd ht hl r⟩
  | .tuple ds, _, h => by
    obtain ⟨a, xs, rfl, e, r⟩ := h
    exact ⟨a, xs, rfl, ht a xs e, RepL.keep hd ht hl r⟩
  | .dict _, _, h => by
    obtain ⟨a, kvs, rfl, e⟩ := h
    exact ⟨a, kvs, rfl, hd a kvs e⟩
theorem RepL.keep (hd : ∀ a kvs, H a = some (.dK kvs) → H' a = some (.dK kvs)) (ht : ∀ a xs, H a = some (.tup xs) → H' a = some (.tup xs)) (hl : ∀ a xs, N a → H a = some (.lst xs) → M a ∧ H' a = some (.lst xs)) :
    ∀ {ds : List PyData} {xs : List V}, RepL N H ds xs → RepL M H' ds xs
  | [], _, h => h
  | d :: ds, _, h => by
    obtain ⟨x, r, rfl, h1, h2⟩ := h
    exact ⟨x, r, rfl, Rep.keep hd ht hl h1, RepL.keep hd ht hl h2⟩
end
theorem Rep.same (s : Same H H') {d : PyData} {x : V} (h : Rep N H d x) : Rep N H' d x := h.keep (fun _ _ e => s _ _ e) (fun _ _ e => s _ _ e) fun _ _ na e => ⟨na, s _ _ e⟩
theorem RepL.same (s : Same H H') {ds : List PyData} {xs : List V} (h : RepL N H ds xs) : RepL N H' ds xs := h.keep (fun _ _ e => s _ _ e) (fun _ _ e => s _ _ e) fun _ _ na e => ⟨na, s _ _ e⟩
theorem RepL.length : ∀ {ds : List PyData} {xs : List V}, RepL N H ds xs → xs.length = ds.length
  | [], _, h => by rw [show _ = [] from h]; rfl
  | d :: ds, _, h => by
    obtain ⟨x, r, rfl, _, h2⟩ := h
    rw [List.length_cons, List.length_cons, RepL.length h2]
theorem RepL.get {x : V} : ∀ {ds : List PyData} {xs : List V} {i : Nat}, RepL N H ds xs → xs[i]? = some x → ∃ d, ds[i]? = some d ∧ Rep N H d x
  | [], _, i, h, e => by
    rw [show _ = [] from h] at e
    cases e
  | d :: ds, _, 0, h, e => by
    obtain ⟨y, r, rfl, h1, _⟩ := h
    cases e
    exact ⟨d, rfl, h1⟩
  | d :: ds, _, i + 1, h, e => by
    obtain ⟨y, r, rfl, _, h2⟩ := h
    exact RepL.get (ds := ds) (i := i) h2 e
theorem RepL.at {d : PyData} : ∀ {ds : List PyData} {xs : List V} {i : Nat}, RepL N H ds xs → ds[i]? = some d → ∃ x, xs[i]? = some x ∧ Rep N H d x
  | [], _, i, h, e => by cases e
  | d' :: ds, _, 0, h, e => by
    obtain ⟨y, r, rfl, h1, _⟩ := h
    cases e
    exact ⟨y, rfl, h1⟩
  | d' :: ds, _, i + 1, h, e => by
    obtain ⟨y, r, rfl, _, h2⟩ := h
    exact RepL.at (ds := ds) (i := i) h2 e
theorem RepL.of : ∀ {ds : List PyData} {xs : List V}, xs.length = ds.length → (∀ (i : Nat) (d : PyData) (x : V), ds[i]? = some d → xs[i]? = some x → Rep N H d x) → RepL N H ds xs
  | [], [], _, _ => rfl
  | d :: ds, x :: xs, l, h => ⟨x, xs, rfl, h 0 d x rfl rfl, RepL.of (by simpa using l) fun i d' x' e1 e2 => h (i + 1) d' x' e1 e2⟩
theorem RepL.app : ∀ {ds es : List PyData} {xs ys : List V}, RepL N H ds xs → RepL N H es ys → RepL N H (ds ++ es) (xs ++ ys)
  | [], _, _, _, h, k => by rw [show _ = [] from h]; exact k
  | d :: ds, _, _, _, h, k => by
    obtain ⟨x, r, rfl, h1, h2⟩ := h
    exact ⟨x, r ++ _, rfl, h1, RepL.app h2 k⟩
theorem RepL.take (n : Nat) {ds : List PyData} {xs : List V} (h : RepL N H ds xs) : RepL N H (ds.take n) (xs.take n) :=
  .of (by rw [List.length_take, List.length_take, h.length]) fun i d x e1 e2 => by
    rw [List.getElem?_take] at e1 e2
    split at e1
    · rename_i hi
      rw [if_pos hi] at e2
      obtain ⟨d', e', r⟩ := h.get e2
      rw [e1] at e'
      cases e'
      exact r
    · cases e1
theorem RepL.drop (n : Nat) {ds : List PyData} {xs : List V} (h : RepL N H ds xs) : RepL N H (ds.drop n) (xs.drop n) :=
  .of (by rw [List.length_drop, List.length_drop, h.length]) fun i d x e1 e2 => by
    rw [List.getElem?_drop] at e1 e2
    obtain ⟨d', e', r⟩ := h.get e2
    rw [e1] at e'
    cases e'
    exact r
theorem RepL.rev {ds : List PyData} {xs : List V} (h : RepL N H ds xs) : RepL N H ds.reverse xs.reverse :=
  .of (by rw [List.length_reverse, List.length_reverse, h.length]) fun i d x e1 e2 => by
    have hl := h.length
    have hi : i < ds.length := by
      rcases Nat.lt_or_ge i ds.length with q | q
      · exact q
      · rw [List.getElem?_eq_none_iff.mpr (by rw [List.length_reverse]; exact q)] at e1
        cases e1
    rw [List.getElem?_reverse hi] at e1
    rw [List.getElem?_reverse (by omega), hl] at e2
    obtain ⟨d', e', r⟩ := h.get e2
    rw [e1] at e'
    cases e'
    exact r
/-- a list of ints is a list of ints -/
theorem RepL.ints : ∀ {ns : List Int} {xs : List V}, RepL N H (ns.map PyData.int) xs → xs = ns.map V.int
  | [], _, h => h
  | n :: ns, _, h => by
    obtain ⟨x, r, rfl, h1, h2⟩ := h
    rw [show x = V.int n from h1, RepL.ints h2]
    rfl
theorem RepL.ofInts : ∀ (ns : List Int), RepL N H (ns.map PyData.int) (ns.map V.int)
  | [] => rfl
  | n :: ns => ⟨_, _, rfl, rfl, RepL.ofInts ns⟩
end
/-! ### what kind a datum is -/
def tyN : PyData → String
  | .none => "NoneType"
  | .bool _ => "bool"
  | .int _ => "int"
  | .str _ => "str"
  | .list _ => "list"
  | .tuple _ => "tuple"
  | .dict _ => "dict"
theorem Rep.ty {K : Frag} {N : Addr → Prop} {H : Hp} : ∀ {d : PyData} {x : V}, Rep N H d x → TyX K H x (.type (tyN d))
  | .none, _, h => by rw [show _ = V.non from h]; exact .base .non
  | .bool b, _, h => by rw [show _ = V.bl b from h]; exact .base (.bl b)
  | .int i, _, h => by rw [show _ = V.int i from h]; exact .base (.int i)
  | .str s, _, h => by rw [show _ = V.str s from h]; exact .base (.str s)
  | .list ds, _, h => by
    obtain ⟨a, xs, rfl, _, e, _⟩ := h
    exact .base (.lst e)
  | .tuple ds, _, h => by
    obtain ⟨a, xs, rfl, e, _⟩ := h
    exact .base (.tup e)
  | .dict _, _, h => by
    obtain ⟨a, kvs, rfl, e⟩ := h
    exact .base (.dK e)
def isTupD : PyData → Bool
  | .tuple _ => true
  | _ => false
def isIntD : PyData → Bool
  | .int _ => true
  | .bool _ => true
  | _ => false
def isBoolD : PyData → Bool
  | .bool _ => true
  | _ => false
theorem kit_tup (d : PyData) : kitB (tyN d) "tuple" = some (isTupD d) := by
  cases d with
  | none => exact (by decide +kernel : kitB "NoneType" "tuple" = some false)
  | bool _ => exact (by decide +kernel : kitB "bool" "tuple" = some false)
  | int _ => exact (by decide +kernel : kitB "int" "tuple" = some false)
  | str _ => exact (by decide +kernel : kitB "str" "tuple" = some false)
  | list _ => exact (by decide +kernel : kitB "list" "tuple" = some false)
  | tuple _ => exact (by decide +kernel : kitB "tuple" "tuple" = some true)
  | dict _ => exact (by decide +kernel : kitB "dict" "tuple" = some false)
theorem kit_int (d : PyData) : kitB (tyN d) "int" = some (isIntD d) := by
  cases d with
  | none => exact (by decide +kernel : kitB "NoneType" "int" = some false)
  | bool _ => exact (by decide +kernel : kitB "bool" "int" = some true)
  | int _ => exact (by decide +kernel : kitB "int" "int" = some true)
  | str _ => exact (by decide +kernel : kitB "str" "int" = some false)
  | list _ => exact (by decide +kernel : kitB "list" "int" = some false)
  | tuple _ => exact (by decide +kernel : kitB "tuple" "int" = some false)
  | dict _ => exact (by decide +kernel : kitB "dict" "int" = some false)
theorem kit_bool (d : PyData) : kitB (tyN d) "bool" = some (isBoolD d) := by
  cases d with
  | none => exact (by decide +kernel : kitB "NoneType" "bool" = some false)
  | bool _ => exact (by decide +kernel : kitB "bool" "bool" = some true)
  | int _ => exact (by decide +kernel : kitB "int" "bool" = some false)
  | str _ => exact (by decide +kernel : kitB "str" "bool" = some false)
  | list _ => exact (by decide +kernel : kitB "list" "bool" = some false)
  | tuple _ => exact (by decide +kernel : kitB "tuple" "bool" = some false)
  | dict _ => exact (by decide +kernel : kitB "dict" "bool" = some false)
/-! ### webs -/
/-- each item is less than the next one -/
def asc : List Int → Bool
  | x :: y :: r => decide (x < y) && asc (y :: r)
  | _ => true
def perB (many : Int) : PyData → Bool
  | .int i => decide (0 ≤ i) && decide (i < many)
  | _ => false
def intOf : PyData → Int
  | .int i => i
  | _ => 0
def pocketB (u many : Int) : PyData → Bool
  | .tuple ds => ds.all (fun d => perB many d && !decide (intOf d = u)) && asc (ds.map intOf)
  | _ => false
def pocketsB (many : Int) : Nat → List PyData → Bool
  | _, [] => true
  | u, p :: ps => pocketB (u : Int) many p && pocketsB many (u + 1) ps
def webB : PyData → Bool
  | .tuple ps => (decide (1 ≤ ps.length) && decide (ps.length ≤ 9)) && pocketsB (ps.length : Int) 0 ps
  | _ => false
theorem pers_ints : ∀ {ds : List PyData} {many u : Int}, ds.all (fun d => perB many d && !decide (intOf d = u)) = true → ds = (ds.map intOf).map PyData.int
  | [], _, _, _ => rfl
  | d :: ds, many, u, h => by
    rw [List.all_cons, Bool.and_eq_true] at h
    have ih := pers_ints (ds := ds) h.2
    cases d with
    | int i =>
      show PyData.int i :: ds = PyData.int i :: (ds.map intOf).map PyData.int
      rw [← ih]
    | _ => simp [perB] at h
theorem asc_range : ∀ ns : List Int, asc ns = ((List.range (ns.length - 1)).map fun k => decide (ns.getD k 0 < ns.getD (k + 1) 0)).all id
  | [] => rfl
  | [_] => rfl
  | x :: y :: r => by
    have ih := asc_range (y :: r)
    show (decide (x < y) && asc (y :: r)) = ((List.range (r.length + 1)).map fun k => decide ((x :: y :: r).getD k 0 < (x :: y :: r).getD (k + 1) 0)).all id
    rw [ih, List.range_succ_eq_map, List.map_cons, List.map_map, List.all_cons]
    rfl
theorem pocketsB_range (m : Int) : ∀ (ps : List PyData) (u : Nat), pocketsB m u ps = ((List.range ps.length).map fun k => pocketB ((u + k : Nat) : Int) m (ps.getD k .none)).all id
  | [], _ => rfl
  | p :: ps, u => by
    have ih := pocketsB_range m ps (u + 1)
    show (pocketB (u : Int) m p && pocketsB m (u + 1) ps) = ((List.range (ps.length + 1)).map fun k => pocketB ((u + k : Nat) : Int) m ((p :: ps).getD k .none)).all id
    rw [ih, List.range_succ_eq_map, List.map_cons, List.map_map, List.all_cons]
    congr 2
    apply List.map_congr_left
    intro k _
    show pocketB ((u + 1 + k : Nat) : Int) m (ps.getD k .none) = pocketB ((u + (k + 1) : Nat) : Int) m (ps.getD k .none)
    congr 2
    omega
end Hn

set_option maxHeartbeats 4000000
/-! the library's rules with the written part by its own name: within a comprehension the reading must not speak of the block -/
namespace Hn
open PySem PySem.Spec PyProof.Rows L2 EF
open PySem.W (Frag keepIn)
section
variable {X : Cx} {K : Frag} {tg e e2 : Expr} {tl : TE} {ta t : TA} {p pos tpos : Pos} {elts : List Expr} {kk : Nat}
theorem ix_listK (h : X.K = K) : IxR X (rIxL K) := by subst h; exact ix_list
theorem ix_tupK (h : X.K = K) : IxR X (rIxT K) := by subst h; exact ix_tup
theorem in_seqK (h : X.K = K) : OpR X (compareOp .In) (rIn K false) := by subst h; exact op_in_seq
theorem notIn_seqK (h : X.K = K) : OpR X (compareOp .NotIn) (rIn K true) := by subst h; exact op_notIn_seq
theorem isiK (h : X.K = K) : CallR X (.builtin "isinstance") (rIsi K) := by subst h; exact call_isi
theorem isiTK (h : X.K = K) : CallR X (.builtin "isinstance") (rIsiT K) := by subst h; exact call_isiT
theorem isiEK (h : X.K = K) : CallR X (.builtin "isinstance") (rIsiE K) := by subst h; exact call_isiE
theorem allK (h : X.K = K) (hc : X.calm = true) : CallR X (.builtin "all") (rAll K) := by subst h; exact cr_all hc
theorem anyK (h : X.K = K) (hc : X.calm = true) : CallR X (.builtin "any") (rAny K) := by subst h; exact cr_any hc
theorem sumK (h : X.K = K) (hc : X.calm = true) : CallR X (.builtin "sum") (rSum K) := by subst h; exact cr_sum hc
/-- len of a list, of a tuple -/
def rLen (K : Frag) : List V → Hp → VK → Prop := fun xs H Q => ∃ p ys, xs = [.ref p] ∧ (SqL K H p ys ∨ SqT K H p ys) ∧ Q (.int ys.length) H
theorem lenK (h : X.K = K) : CallR X (.builtin "len") (rLen K) := by subst h; exact call_len_seq
/-- list(x) of a list, of a tuple -/
def rListOf (K : Frag) : List V → Hp → VK → Prop := fun xs H Q => ∃ p ys, xs = [.ref p] ∧ (SqL K H p ys ∨ SqT K H p ys) ∧ ∀ l, H l = none → Q (.ref l) (upd H l (.lst ys))
theorem listK (h : X.K = K) : CallR X (.type "list") (rListOf K) := by subst h; exact call_list_of
/-- tuple(x) -/
def rTupOf (K : Frag) : List V → Hp → VK → Prop := fun xs H Q => ∃ p ys, xs = [.ref p] ∧ ((SqL K H p ys ∧ ∀ l, H l = none → Q (.ref l) (upd H l (.tup ys))) ∨ (SqT K H p ys ∧ Q (.ref p) H))
theorem tupleK (h : X.K = K) : CallR X (.type "tuple") (rTupOf K) := by subst h; exact call_tuple_of
theorem sl_listK (h : X.K = K) : SlR X (rSlL K) := by subst h; exact sl_list
theorem sl_tupK (h : X.K = K) : SlR X (rSlA K) := by subst h; exact sl_tupA
theorem catAK (h : X.K = K) : OpR X (binaryOp .Add) (rCatA K) := by subst h; exact op_catA
theorem pi_listK (h : X.K = K) (hl : PE X e tl) : PI X tg e (iList K tl) := by subst h; exact pi_list hl
theorem pi_tupK (h : X.K = K) (hl : PE X e tl) : PI X tg e (iTup K tl) := by subst h; exact pi_tup hl
theorem pi_enumK (h : X.K = K) (hg : Gl X "enumerate") (hm : X.mg "enumerate" = none) (ha : PA X [e] ta) (hs : starEach [e] X.env = [(false, eval e X.env)] := by rfl) :
    PI X (.Tuple elts kk tpos) (.Call (.Name "enumerate" p) [e] [] pos) (iEnum K ta) := by subst h; exact pi_enum hg hm ha hs
theorem pi_zipK (h : X.K = K) (hg : Gl X "zip") (hm : X.mg "zip" = none) (ha : PA X [e, e2] ta) (hs : starEach [e, e2] X.env = (false, eval e X.env) :: starEach [e2] X.env := by rfl) (hs2 : (backTo pos (starEach [e2] X.env)).any (·.1) = false := by rfl) :
    PI X (.Tuple elts kk tpos) (.Call (.Name "zip" p) [e, e2] [] pos) (RZ.iZipA K ta) := by subst h; exact RZ.pi_zipA hg hm ha hs hs2
end
end Hn

set_option maxHeartbeats 4000000
/-! set comprehensions whose elements are of any kind, given how one is put in -/
namespace Hn
open PySem PySem.Spec PyProof.Rows L2 EF
open PySem.W (Frag keepIn)
/-- an empty set, as Python makes it -/
def noneSet (w : World) : Obj := { cls := Value.type "set", data := Data.set #[] 0 (SetTable.fresh 0 0 !w.params.followText "set-order") }
/-- how a kind of sets stands on the heap: fresh D is the empty one, add D y H N says that y can be put into D's, and N holds then -/
structure SetWord (X : Cx) (fresh : Addr → HO) (add : Addr → V → Hp → (Hp → Prop) → Prop) : Prop where
  new : ∀ (H : Hp) (h : Heap) (a : Addr), h.get? a = some (noneSet X.w) → ObjOk X.prog X.w H h a (fresh a)
  put : ∀ (Y : Cx) (pins : List (Addr × Obj)) (σ : L2.St) (H : Hp) (s : Shared) (E : Value → Shared → Prop) (D : Addr) (y : V) (u : Value) (N : Hp → Prop) (Q : Value → Shared → Prop),
    Y.prog = X.prog → Y.w = X.w → Y.K = X.K → Y.A = X.A → Y.calm = X.calm → L2.Inv Y pins σ H s → L2.RelV y u → add D y H N → (∀ s' H', L2.Inv Y pins σ H' s' → N H' → Q .none s') →
    wpAny (model Y.prog Y.w) Y.A (call (.builtin "set.add") [.ref D, u]) Q E s
/-- the turns of a set comprehension -/
def SgTurns (add : Addr → V → Hp → (Hp → Prop) → Prop) (g : TG) (tt : TT) (te : TE) (ρ : L2.St) (vs : List Nat) (J : It) (D : Addr) (R : Hp → Prop) (W : Nat → Nat → Hp → Prop) : Prop :=
  ∀ (i m : Nat) (H : Hp), W i m H → (J.stop i H ∧ R H) ∨ (J.go i H ∧ ∃ N : Hp → Prop, (∀ H', N H' → ∃ m', m' < m ∧ W (i + 1) m' H') ∧
    ∀ (x : V) (H' : Hp), J.yld i H x H' → g x ρ H' fun σ2 H2 => wipe σ2 vs = ρ ∧ tt σ2 H2 fun b H3 => if b = true then te σ2 H3 fun y H4 => add D y H4 N else N H3)
def tSg (fresh : Addr → HO) (add : Addr → V → Hp → (Hp → Prop) → Prop) (wi : TI) (g : TG) (tt : TT) (te : TE) (vs : List Nat) : TE :=
  fun σ H Q => wi σ H fun J H1 => ∀ D, H1 D = none → ∃ W, (∃ m, W 0 m (upd H1 D (fresh D))) ∧ SgTurns add g tt te (wipe σ vs) vs J D (fun H => Q (.ref D) H) W
section
variable {X : Cx} {elt tg iter : Expr} {ifs : List Expr} {scope : Scope} {own : List (Str × Nat)} {pos : Pos} {wi : TI} {g : TG} {tt : TT} {te : TE} {fresh : Addr → HO} {add : Addr → V → Hp → (Hp → Prop) → Prop}
/-- the loop itself, within a block B -/
theorem sg_loop {B : Cx} (SW : SetWord X fresh add) (e1 : B.prog = X.prog) (e2 : B.w = X.w) (e3 : B.K = X.K) (e4 : B.A = X.A) (e5 : B.calm = X.calm) (hc : X.calm = true) {J : It} {fp : List Addr} {it : Addr} {tn : Nat → Heap → Prop}
    (T : Turn X.prog X.w X.K tg J fp it tn) (pg : PG B tg g) (pt : PTs B ifs tt) (pe : PE B elt te) (hx : B.xe = fun _ _ => False) {D : Addr} {R : Hp → Prop} {W : Nat → Nat → Hp → Prop} {ρ : L2.St} {vs : List Nat}
    (hT : SgTurns add g tt te ρ vs J D R W)
    (stat : ∀ H s, L2.Inv B [] ρ H s → (∀ b ∈ fp, H b = none) → ∀ b ∈ fp, FpOk B [] H b)
    {G : Result → Shared → Prop} (fin : ∀ H s, L2.Inv B [] ρ H s → R H → G (.ok .next) s)
    {m i : Nat} {H : Hp} {s : Shared} (I : L2.Inv B [] ρ H s) (st : tn i s.heap) (nf : ∀ b ∈ fp, H b = none) (w : W i m H) :
    codeAny (model X.prog X.w) X.A (.compLoop (.SetComp elt [⟨tg, iter, ifs, 0⟩] scope pos) 0 (.ref it) (.ref D) B.env) G s := by
  refine PpSet.compLoopS_any (fun k s' => ∃ i H', L2.Inv B [] ρ H' s' ∧ tn i s'.heap ∧ (∀ b ∈ fp, H' b = none) ∧ W i k H') ?_ m ⟨i, H, I, st, nf, w⟩
  rintro k s5 ⟨i, H5, I5, st5, n5, w5⟩
  rcases hT i k H5 w5 with ⟨stop, r⟩ | ⟨go, N, hN, step⟩
  · have td := T.done B e1 e2 e3 (e5.trans hc) i [] s5 ρ H5 (fun _ _ => False) I5 (stat H5 s5 I5 n5) st5 stop
    rw [e4] at td
    refine thnF td ?_
    rintro _ s6 ⟨rfl, I6⟩
    exact fin H5 s6 I6 r
  · have ti := T.item B e1 e2 e3 (e5.trans hc) i [] s5 ρ H5 (fun _ _ => False) I5 (stat H5 s5 I5 n5) st5 go
    rw [e4] at ti
    refine thnF ti ?_
    rintro _ s6 ⟨u, rfl, h6⟩
    refine thnF h6 ?_
    rintro _ s7 ⟨x, H7, I7, r7, y7, st7, n7⟩
    have I7' := I7.pinned (stat H7 s7 I7 n7) (T.obj (i + 1) s7.heap st7)
    have z := pg.run ([] ++ pinsAt fp s7.heap) s7 ρ H7 x u _ I7' r7 (step x H7 y7)
    rw [hx, e1, e2, e4] at z
    refine thnF z ?_
    rintro _ s8 ⟨σ8, H8, I8, hw8, q8⟩
    have z := pt.run ([] ++ pinsAt fp s7.heap) s8 σ8 H8 _ I8 q8
    rw [hx, e1, e2, e4] at z
    refine thnF z ?_
    rintro b s9 ⟨H9, I9, q9⟩
    have fin' : ∀ s' H', L2.Inv B ([] ++ pinsAt fp s7.heap) σ8 H' s' → N H' → ∃ k', k' < k ∧ ∃ i H', L2.Inv B [] ρ H' s' ∧ tn i s'.heap ∧ (∀ b ∈ fp, H' b = none) ∧ W i k' H' := by
      intro s' H' I' nx
      obtain ⟨k', hk, w'⟩ := hN H' nx
      have pin : ∀ b ∈ fp, ∀ o, s7.heap.get? b = some o → s'.heap.get? b = some o ∧ H' b = none := fun b hb o e => by
        have z := I'.pin (b, o) (List.mem_append_right _ (List.mem_append_right _ (mem_pinsAt hb e)))
        exact ⟨z.1, z.2.1⟩
      refine ⟨k', hk, i + 1, H', (I'.unpinned).weak ?_ ?_, T.keep (i + 1) s7.heap s'.heap st7 fun b hb o e => (pin b hb o e).1, fun b hb => ?_, w'⟩
      · rw [← hw8, wipe_length]
      · intro j v e
        rw [← hw8] at e
        exact (wipe_some e).1
      · obtain ⟨o, e, _⟩ := T.obj (i + 1) s7.heap st7 b hb
        exact (pin b hb o e).2
    cases b with
    | false => exact fin' s9 H9 I9 q9
    | true =>
      have z := pe.run ([] ++ pinsAt fp s7.heap) s9 σ8 H9 _ I9 q9
      rw [hx, e1, e2, e4] at z
      refine thnF z ?_
      rintro v s10 ⟨y, H10, I10, r10, q10⟩
      have z := SW.put B ([] ++ pinsAt fp s7.heap) σ8 H10 s10 (notedBy (model X.prog X.w) X.A B.env fun e s' => G (Except.error e) s') D y v N (fun _ s5 => ∃ k', k' < k ∧ ∃ i H', L2.Inv B [] ρ H' s5 ∧ tn i s5.heap ∧ (∀ b ∈ fp, H' b = none) ∧ W i k' H') e1 e2 e3 e4 e5 I10 r10 q10 fin'
      rw [e1, e2, e4] at z
      exact z
/-- {e for x in xs if t} -/
theorem pe_sg (SW : SetWord X fresh add) (hc : X.calm = true) (hN : X.N.Nodup) (hi : PI X tg iter wi) (ok : BlkOk X.N X.env.scope scope own)
    (hg : ∀ (s : Shared) (H : Hp) (C : Addr) (cl : List (Str × Addr)) (fp : List Addr), PG (X.blk s H scope (compEnvC scope cl C X.env) fp) tg g)
    (ht : ∀ (s : Shared) (H : Hp) (C : Addr) (cl : List (Str × Addr)) (fp : List Addr), PTs (X.blk s H scope (compEnvC scope cl C X.env) fp) ifs tt)
    (he : ∀ (s : Shared) (H : Hp) (C : Addr) (cl : List (Str × Addr)) (fp : List Addr), PE (X.blk s H scope (compEnvC scope cl C X.env) fp) elt te)
    (hs : ∀ x : Value, foldedSetIterable iter X.env x = pure x := by intro x; rfl) :
    PE X (.SetComp elt [⟨tg, iter, ifs, 0⟩] scope pos) (tSg fresh add wi g tt te (own.map (·.2))) := by
  refine ⟨fun pins s σ H Q I h => ?_⟩
  rw [PpSet.eval_SetComp]
  have cl : ∀ y ∈ scope.names, y.2 = .free → ∃ c, List.lookup y.1 X.env.cells = some c := fun y hy e => (ok.free y hy e).elim (fun k => I.ok.has y.1 (.inl k)) fun k => I.ok.has y.1 (.inr k)
  refine wpAny_comprehension_free rfl hs (closure_ok cl) ok.kind (fun y hy e => by rw [ok.uniq y hy, e]) ?_
  refine thn (hi.run pins s σ H _ I h) fun v s1 a => thn a ?_
  rintro _ s2 ⟨it, fp, tn, J, H2, rfl, I2, T, st2, f2, q⟩
  refine PpSet.newSet_ok (newEnv_comp ?_)
  obtain ⟨W, ⟨m0, w0⟩, turns⟩ := q s2.heap.objs.size (HOk.fresh I2.hok (Nat.le_refl _))
  have kp : ∀ b o, s2.heap.get? b = some o → (s2.heap.push (noneSet X.w)).get? b = some o := fun b o e => Heap.get?_push_of_some _ e
  have I3 : L2.Inv X pins σ (upd H2 s2.heap.objs.size (fresh s2.heap.objs.size)) ⟨s2.heap.push (noneSet X.w), s2.gens, s2.drawn, s2.toks, s2.os⟩ :=
    I2.laid kp (Nat.le_refl _) (SW.new _ _ _ (Heap.get?_push_size _ rfl))
  have sz3 : s2.heap.objs.size < (s2.heap.push (noneSet X.w)).objs.size := by rw [Heap.size_push]; exact Nat.lt_succ_self _
  have sz : ∀ b ∈ fp, b < s2.heap.objs.size := fun b hb => by
    obtain ⟨o, e, _⟩ := T.obj 0 s2.heap st2 b hb
    exact Heap.lt_size e
  have f3 : ∀ b ∈ fp, FpOk X pins (upd H2 s2.heap.objs.size (fresh s2.heap.objs.size)) b ∧ b < (s2.heap.push (noneSet X.w)).objs.size := fun b hb =>
    ⟨⟨by rw [upd_ne (Nat.ne_of_lt (sz b hb))]; exact (f2 b hb).1, (f2 b hb).2⟩, Nat.lt_trans (sz b hb) sz3⟩
  have st3 := T.keep 0 s2.heap (s2.heap.push (noneSet X.w)) st2 fun b _ o e => kp b o e
  generalize hs3 : (⟨s2.heap.push (noneSet X.w), s2.gens, s2.drawn, s2.toks, s2.os⟩ : Shared) = s3 at I3
  have h3 : s2.heap.push (noneSet X.w) = s3.heap := by rw [← hs3]
  rw [h3] at f3 st3
  have I4 := block_start I3 ok hN f3
  have pg := hg s3 (upd H2 s2.heap.objs.size (fresh s2.heap.objs.size)) s3.heap.objs.size (cellsFrom (s3.heap.objs.size + 1) scope.names (cloFrom X.env.cells scope.names [])) fp
  have pt := ht s3 (upd H2 s2.heap.objs.size (fresh s2.heap.objs.size)) s3.heap.objs.size (cellsFrom (s3.heap.objs.size + 1) scope.names (cloFrom X.env.cells scope.names [])) fp
  have pe := he s3 (upd H2 s2.heap.objs.size (fresh s2.heap.objs.size)) s3.heap.objs.size (cellsFrom (s3.heap.objs.size + 1) scope.names (cloFrom X.env.cells scope.names [])) fp
  have st4 := T.keep 0 s3.heap (pushCells (s3.heap.push { cls := .type "dict", data := .dict #[] }) scope.names) st3 fun b _ o e => pushCells_keeps _ _ b o (Heap.get?_push_of_some _ e)
  have loop : codeAny (model X.prog X.w) X.A (.compLoop (.SetComp elt [⟨tg, iter, ifs, 0⟩] scope pos) 0 (.ref it) (.ref s2.heap.objs.size) (compEnvC scope (cellsFrom (s3.heap.objs.size + 1) scope.names (cloFrom X.env.cells scope.names [])) s3.heap.objs.size X.env))
      (compPost (model X.prog X.w) X.A X.xe none (EP X pins σ Q) (.ref s2.heap.objs.size) s3.heap.objs.size) ⟨pushCells (s3.heap.push { cls := .type "dict", data := .dict #[] }) scope.names, s3.gens, s3.drawn, s3.toks, s3.os⟩ := by
    refine sg_loop (B := X.blk s3 (upd H2 s2.heap.objs.size (fresh s2.heap.objs.size)) scope (compEnvC scope (cellsFrom (s3.heap.objs.size + 1) scope.names (cloFrom X.env.cells scope.names [])) s3.heap.objs.size X.env) fp) SW rfl rfl rfl rfl rfl hc T pg pt pe rfl turns ?_ ?_ I4 st4 (fun b hb => (f3 b hb).1.1) w0
    · intro H' s' I' n b hb
      exact ⟨n b hb, (I'.ok.exf b hb).1, I'.ok.exfs b hb, .inl hb, fun x c e => (I'.ok.exf b hb).2 x c e, fun p hp => absurd hp (by simp)⟩
    · intro H' s' I' r
      have I7 : L2.Inv X pins σ H' s' := I3.call' I'.os I'.base I'.hok I'.bare fun b hb => ⟨(f3 b hb).1.2.2.2.1, (f3 b hb).1.2.1, (f3 b hb).1.2.2.2.2.1, (f3 b hb).1.2.2.2.2.2⟩
      have k := I3.fpOk (Nat.le_refl _) (show H' s3.heap.objs.size = none from I'.free)
      obtain ⟨m, hm, _⟩ := I'.loc
      exact ⟨m, hm, fun h' sb => ⟨.ref s2.heap.objs.size, H', I7.turned (fun b o ne e => (sb.2 b ne).trans e) k.1 k.2.1 k.2.2.2.1 k.2.2.2.2.1 k.2.2.2.2.2, rfl, r⟩⟩
  rw [← hs3] at loop st4
  exact PpSet.codeAny_compStart_set loop (T.self X.A 0 _ _ _ st4 loop)
end
end Hn

set_option maxHeartbeats 4000000
/-! sets of tuples of ints: made by a comprehension, sorted whatever the lengths -/
namespace Hn
open PySem PySem.Spec PyProof.Rows L2 EF
open PySem.W (Frag keepIn)
/-- y, a tuple of ints, can be put into the set at D, and N holds then -/
def addT (K : Frag) (P : Program) (w : World) (D : Addr) (y : V) (H : Hp) (N : Hp → Prop) : Prop :=
  ∃ (x : Addr) (k : List Int) (L : List (Addr × List Int)), y = .ref x ∧ SqT K H x (k.map V.int) ∧ H D = some (SetTO P w D L) ∧ (∀ p ∈ L, SqT K H p.1 (p.2.map V.int)) ∧ L.length + 1 < 64 ∧
    ∀ L', (k ∈ L.map (·.2) → L' = L) → (k ∉ L.map (·.2) → L'.Perm ((x, k) :: L)) → N (upd H D (SetTO P w D L'))
theorem putT {Y : Cx} {pins : List (Addr × Obj)} {σ : L2.St} {H : Hp} {s : Shared} {E : Value → Shared → Prop} {D : Addr} {y : V} {u : Value} {N : Hp → Prop} {Q : Value → Shared → Prop} (hu : Y.A.units + 1 < cLine)
    (I : L2.Inv Y pins σ H s) (r : L2.RelV y u) (h : addT Y.K Y.prog Y.w D y H N) (q : ∀ s' H', L2.Inv Y pins σ H' s' → N H' → Q .none s') : wpAny (model Y.prog Y.w) Y.A (call (.builtin "set.add") [.ref D, u]) Q E s := by
  obtain ⟨x, k, L, rfl, hx, hD, hL, few, n⟩ := h
  obtain rfl : u = Value.ref x := r
  have z := (I.hok D _ hD).1
  obtain ⟨es, ep, t, S⟩ := z.full fun p hp => I.isT (hL p hp)
  obtain ⟨o, ho, eo, do'⟩ := S.ob
  refine wpAny_call_entry F.slot_set_add ⟨o, ho, eo.1⟩ F.entry_set_add ?_ (F.args_set_add_2 _ _)
  show wpAny _ _ (do let x ← (do let a ← Builtin.Frozenset.addrOf (.ref D); pure (a, Value.ref x)); let _ ← setAdd x.1 x.2; ret Value.none) _ _ _
  refine wpAny_bind (wpAny_bind (wpAny_pure (wpAny_pure (wpAny_bind (wpAny_holding (wpAny_bind (wpAny_pyHash_tuple hu (I.isT hx) ?_)))))))
  refine add_at (s := ⟨s.heap, s.gens, s.drawn, s.toks + (k.length + 1), s.os⟩) S (I.isT hx) hu few ?_
  intro b h' L' es' ep' t' sb S' e1 e2
  refine wpAny_pure ⟨.none, rfl, q _ (upd H D (SetTO Y.prog Y.w D L')) ?_ (n L' e1 e2)⟩
  refine I.write ?_ (.inl rfl) (fun b u ne e => (sb.2 b ne).trans e) ?_ (setTO_new S'.t0)
  · rw [hD]
    exact trivial
  · obtain ⟨o', ho', _⟩ := S'.ob
    exact ⟨o', ho'⟩
theorem wordT {X : Cx} (hu : X.A.units + 1 < cLine) : SetWord X (fun D => SetTO X.prog X.w D []) (addT X.K X.prog X.w) where
  new := fun H h a e => setTO_new (setTR_fresh e).t0
  put := fun Y pins σ H s E D y u N Q e1 e2 e3 e4 e5 I r h q => by
    rw [← e1, ← e2, ← e3] at h
    exact putT (by rw [e4]; exact hu) I r h q
end Hn

set_option maxHeartbeats 4000000
/-! sorted(s) of a set of tuples of ints of any lengths -/
namespace Hn
open PySem PySem.Spec PyProof.Rows L2 EF
open PySem.W (Frag keepIn)
/-- the datum of a tuple of ints -/
def encT (p : Addr × List Int) : PyData := .tuple (p.2.map .int)
/-- q does not stand behind r -/
def notAfter (q r : Addr × List Int) : Prop := ¬ r.2 < q.2
theorem refs_pick {L : List (Addr × List Int)} : ∀ {vs : List Value}, (∀ v ∈ vs, ∃ q ∈ L, v = Value.ref q.1) → ∃ L1 : List (Addr × List Int), vs = L1.map (fun q => Value.ref q.1) ∧ ∀ q ∈ L1, q ∈ L
  | [], _ => ⟨[], rfl, fun _ h => nomatch h⟩
  | v :: vs, h => by
    obtain ⟨q, hq, rfl⟩ := h v List.mem_cons_self
    obtain ⟨L1, rfl, h1⟩ := refs_pick (vs := vs) fun u hu => h u (List.mem_cons_of_mem _ hu)
    exact ⟨q :: L1, rfl, fun r hr => (List.mem_cons.mp hr).elim (fun e => e ▸ hq) (h1 r)⟩
theorem each_refs : ∀ (L : List (Addr × List Int)), W.EachIs (fun v p => v = Value.ref p.1) (L.map fun q => Value.ref q.1) L
  | [] => .nil
  | q :: L => .cons rfl (each_refs L)
theorem of_each : ∀ {vs : List Value} {L : List (Addr × List Int)}, W.EachIs (fun v p => v = Value.ref p.1) vs L → vs = L.map fun q => Value.ref q.1
  | _, _, .nil => rfl
  | _, _, .cons h t => by rw [h, of_each t]; rfl
theorem reads_ints {h : Heap} : ∀ {ks : List Int} {vs : List Value}, IntsAre vs ks → ReadsAll h vs (ks.map .int) []
  | _, _, .nil => .nil
  | _, _, .cons n t r => .cons (.int n t) (reads_ints r)
/-- what holds of each holds of all -/
theorem each_mem {R : Value → Addr × List Int → Prop} : ∀ {L : List (Addr × List Int)}, (∀ q ∈ L, R (.ref q.1) q) → W.EachIs R (L.map fun q => Value.ref q.1) L
  | [], _ => .nil
  | q :: L, h => .cons (h q List.mem_cons_self) (each_mem fun r hr => h r (List.mem_cons_of_mem _ hr))
theorem lt_enc (p q : Addr × List Int) : W.dataLt (encT p) (encT q) = decide (p.2 < q.2) := by
  rw [encT, encT, W.dataLt_tuple]
  exact W.dataLt_ints p.2 q.2
theorem le_enc (p q : Addr × List Int) : W.dataLe false encT p q = !decide (q.2 < p.2) := by
  rw [← lt_enc]
  rfl
theorem reads_tup {P : Program} {w : World} {h : Heap} {q : Addr × List Int} (t : L2.IsT P w h q.2 q.1) : Reads h (.ref q.1) (encT q) [] := by
  obtain ⟨o, items, n, ho, ec, ed, i⟩ := t
  exact .tuple ho ec ed (reads_ints (ints_of_items i))
theorem sortedS {P : Program} {w : World} {A : Around} {E : Value → Shared → Prop} {s : Shared} {a : Addr} {L : List (Addr × List Int)} {es : Array (Int × Value)} {ep : Nat} {t : SetTable} {Q : Value → Shared → Prop}
    (R : SetTR P w s.heap a L es ep t) (hh : A.handled = none) (hu : A.units + 10 < cLine) (ne : ∀ p ∈ L, p.2 ≠ [])
    (hQ : ∀ (s' : Shared) (p : Addr) (out : Array Value) (c : Nat) (L' : List (Addr × List Int)), (∀ b o, s.heap.get? b = some o → s'.heap.get? b = some o) → s'.gens = s.gens → s'.os = s.os → s.heap.objs.size ≤ p →
      s'.heap.get? p = some (seqObj "list" out c) → out.toList = L'.map (fun q => Value.ref q.1) → L'.Perm L → L'.Pairwise notAfter → Q (.ref p) s') :
    wpAny (model P w) A (call (.builtin "sorted") [.ref a]) Q E s := by
  obtain ⟨o, ho, hex, hd⟩ := R.ob
  have hsz := R.size
  have few := R.few
  refine Calls.call_function_entry kind_sorted plain_sorted entry_sorted (args_sorted1 _) ?_
  refine wpAny_bind (wpAny_pure (wpAny_bind ?_))
  refine collect_set hh ⟨o, ho, hex.1, hd⟩ R.fits (by rw [show scanBound = 4096 from rfl]; omega) R.tab.ris R.led fun s1 vs k1 hz g1 o1 pm => ?_
  have hes : es.toList.map (·.2) = L.map (fun q => Value.ref q.1) := by
    rw [R.rows]
    simp [rowsOf, List.map_map]
  rw [hes] at pm
  obtain ⟨L1, rfl, h1⟩ := refs_pick (L := L) fun v hv => by
    obtain ⟨q, hq, e⟩ := List.mem_map.mp (pm.mem_iff.mp hv)
    exact ⟨q, hq, e.symm⟩
  have one : ∀ q ∈ L, ∀ r ∈ L, q.1 = r.1 → q = r := fun q hq r hr e => by
    have z := R.tup q hq
    rw [e] at z
    exact Prod.ext e (IsTupleKey.inj z (R.tup r hr))
  have nL := nodup_of_map R.nd
  have p1 : L1.Perm L := by
    have nref : (L.map fun q => Value.ref q.1).Nodup := List.pairwise_map.mpr (nL.imp_of_mem fun hq hr n e => n (one _ hq _ hr (Value.ref.inj e)))
    have n1 : L1.Nodup := nodup_of_map (pm.nodup_iff.mpr nref)
    refine (List.perm_ext_iff_of_nodup n1 nL).mpr fun q => ⟨h1 q, fun hq => ?_⟩
    obtain ⟨r, hr, e⟩ := List.mem_map.mp (pm.mem_iff.mpr (List.mem_map.mpr ⟨q, hq, rfl⟩))
    rw [one q hq r (h1 r hr) (Value.ref.inj e).symm]
    exact hr
  have len1 : L1.length < 64 := by rw [p1.length_eq]; exact few
  refine wpAny_bind (wpAny_newList ?_ (by rw [List.length_map, sizeLine_eq]; omega))
  have hoL : (s1.heap.push (seqObj "list" (L1.map fun q => Value.ref q.1).toArray 0)).get? s1.heap.objs.size = some (seqObj "list" (L1.map fun q => Value.ref q.1).toArray 0) := Heap.get?_push_size _ rfl
  have rd : ∀ q ∈ L, Reads (s1.heap.push (seqObj "list" (L1.map fun q => Value.ref q.1).toArray 0)) (.ref q.1) (encT q) [] := fun q hq => reads_tup (isT_keep (R.tup q hq) fun b u e => Heap.get?_push_of_some _ (k1 b u e))
  refine wpAny_bind (wpAny_holding (W.list_sort_data (bs := L1) (enc := encT) (R := fun v p => v = Value.ref p.1) hoL (each_refs L1) (each_mem fun q hq => ⟨[], rd q (h1 q hq), fun n => nomatch n⟩) ?_ (.inl ?_) (by rw [sizeLine_eq]; omega) ?_ ?_))
  · intro d hd d' hd'
    obtain ⟨p, _, rfl⟩ := List.mem_map.mp hd
    obtain ⟨q, _, rfl⟩ := List.mem_map.mp hd'
    exact W.alike_ints p.2 q.2
  · intro d hd
    obtain ⟨p, hp, rfl⟩ := List.mem_map.mp hd
    have z := ne p (h1 p hp)
    cases e : p.2 with
    | nil => exact absurd e z
    | cons x r => exact ⟨.int x, r.map .int, by rw [encT, e]; rfl⟩
  · intro p hp
    have z : (encT p).depth = 1 := by
      rw [encT]
      show PyData.depthAll (p.2.map PyData.int) + 1 = 1
      rw [W.depth_ints]
    rw [z]
    show A.units + 1 + 1 + 1 < cLine
    omega
  · intro out hl hE
    obtain ⟨c, hc⟩ := sortedHeap_at (out := out.toArray) hoL
    have e' := of_each hE
    refine wpAny_pure ⟨_, rfl, hQ _ s1.heap.objs.size out.toArray c (L1.mergeSort (W.dataLe false encT)) (fun b u e => ?_) g1 o1 hz hc e' ((List.mergeSort_perm _ _).trans p1) ?_⟩
    · have q := k1 b u e
      have hlt := Heap.lt_size q
      show (sortedHeap _ _ _ _).get? b = some u
      rw [sortedHeap_old (Nat.ne_of_lt hlt) (by rw [size_push']; exact Nat.lt_succ_of_lt hlt)]
      exact Heap.get?_push_of_some _ q
    · refine (W.sort_pairwise (W.sortLe_total _ _ _) L1).imp ?_
      intro p q h
      have z := le_enc p q
      rw [show W.dataLe false encT p q = true from h] at z
      intro lt
      rw [decide_eq_true lt] at z
      cases z
theorem room10 {A : Around} {k : Nat} (hr : Room k A) : A.units + 10 < cLine := by
  have := hr.un
  omega
/-- sorted(s), s a set of tuples of ints, none of them empty -/
def rSortS (K : Frag) (P : Program) (w : World) : List V → Hp → VK → Prop := fun vs H Q => ∃ (a : Addr) (L : List (Addr × List Int)), vs = [.ref a] ∧ H a = some (SetTO P w a L) ∧ (∀ p ∈ L, SqT K H p.1 (p.2.map V.int)) ∧ (∀ p ∈ L, p.2 ≠ []) ∧
  ∀ (L' : List (Addr × List Int)) (p : Addr), L'.Perm L → (L'.map (·.2)).Nodup → L'.length < 64 → L'.Pairwise notAfter → H p = none → Q (.ref p) (upd H p (.lst (L'.map fun q => V.ref q.1)))
theorem sortSK {X : Cx} {K : Frag} {P : Program} {w : World} (e1 : X.K = K) (e2 : X.prog = P) (e3 : X.w = w) (hc : X.calm = true) (hu : X.A.units + 10 < cLine) : CallR X (.builtin "sorted") (rSortS K P w) := by
  subst e1 e2 e3
  rintro pins s σ H vs us Q I r ⟨a, L, rfl, ha, hk, ne, q⟩
  obtain ⟨es, ep, t, R⟩ := (I.hok a _ ha).1.full fun p hp => I.isT (hk p hp)
  rw [Vals.ref1 r]
  refine sortedS R (I.ok.hd hc) hu ne fun s' p out c L' k g o hp hg hout pm pw => ?_
  have few : L'.length < 64 := by rw [pm.length_eq]; exact R.few
  have hn := HOk.fresh I.hok hp
  have ok : ObjOk X.prog X.w (upd H p (.lst (L'.map fun q => V.ref q.1))) s'.heap p (.lst (L'.map fun q => V.ref q.1)) := by
    refine ⟨by rw [List.length_map, sizeLine_eq]; omega, out.toList, c, ?_, hg⟩
    rw [hout]
    exact vals_of_refs L'
  refine ⟨.ref p, upd H p (.lst (L'.map fun q => V.ref q.1)), ?_, rfl, q L' p pm ((pm.map (fun x => x.2)).nodup_iff.mpr R.nd) few pw hn⟩
  obtain ⟨h', g', d', t', o'⟩ := s'
  obtain rfl : g' = s.gens := g
  obtain rfl : o' = s.os := o
  exact I.call' (ch := []) rfl (Un.laid k hp hn) (HOk.laid I.hok k hp ok) I.bare (fun b z => absurd z List.not_mem_nil)
section
variable {fresh : Addr → HO} {add : Addr → V → Hp → (Hp → Prop) → Prop} {g : TG} {tt : TT} {te : TE} {ρ : L2.St} {vs : List Nat} {D : Addr} {R : Hp → Prop} {H0 : Hp}
/-- a set comprehension over range(..) -/
theorem sg_range {lo : Int} {n : Nat} (Pv : Nat → Hp → Prop) (h0 : Pv 0 H0)
    (step : ∀ i H, i < n → Pv i H → g (.int (lo + (i : Int))) ρ H fun σ2 H2 => wipe σ2 vs = ρ ∧ tt σ2 H2 fun b H3 => if b = true then te σ2 H3 fun y H4 => add D y H4 (Pv (i + 1)) else Pv (i + 1) H3)
    (fin : ∀ H, Pv n H → R H) : ∃ W : Nat → Nat → Hp → Prop, (∃ m, W 0 m H0) ∧ SgTurns add g tt te ρ vs (Itr lo n) D R W := by
  refine ⟨fun i m H => i ≤ n ∧ m = n - i ∧ Pv i H, ⟨n, Nat.zero_le _, rfl, h0⟩, ?_⟩
  rintro i m H ⟨hi, rfl, p⟩
  rcases Nat.lt_or_ge i n with q | q
  · refine .inr ⟨q, Pv (i + 1), fun H' p' => ⟨n - (i + 1), by omega, q, rfl, p'⟩, ?_⟩
    rintro x H' ⟨rfl, rfl⟩
    exact step i H' q p
  · obtain rfl : i = n := by omega
    exact .inl ⟨Nat.le_refl _, fin H p⟩
/-- over a list -/
theorem sg_list {K : Frag} {a : Addr} {xs : List V} (Pv : Nat → Hp → Prop) (h0 : Pv 0 H0) (hq : ∀ i H, i ≤ xs.length → Pv i H → SqL K H a xs)
    (step : ∀ i x H, xs[i]? = some x → Pv i H → g x ρ H fun σ2 H2 => wipe σ2 vs = ρ ∧ tt σ2 H2 fun b H3 => if b = true then te σ2 H3 fun y H4 => add D y H4 (Pv (i + 1)) else Pv (i + 1) H3)
    (fin : ∀ H, Pv xs.length H → R H) : ∃ W : Nat → Nat → Hp → Prop, (∃ m, W 0 m H0) ∧ SgTurns add g tt te ρ vs (Itl K a) D R W := by
  refine ⟨fun i m H => i ≤ xs.length ∧ m = xs.length - i ∧ Pv i H, ⟨xs.length, Nat.zero_le _, rfl, h0⟩, ?_⟩
  rintro i m H ⟨hi, rfl, p⟩
  have s := hq i H hi p
  rcases Nat.lt_or_ge i xs.length with q | q
  · refine .inr ⟨⟨xs, xs[i], s, List.getElem?_eq_getElem q⟩, Pv (i + 1), fun H' p' => ⟨xs.length - (i + 1), by omega, q, rfl, p'⟩, ?_⟩
    rintro x H' ⟨rfl, e⟩
    exact step i x H' (e xs s) p
  · obtain rfl : i = xs.length := by omega
    exact .inl ⟨⟨xs, s, Nat.le_refl _⟩, fin H p⟩
/-- over a tuple -/
theorem sg_tup {K : Frag} {a : Addr} {xs : List V} (Pv : Nat → Hp → Prop) (h0 : Pv 0 H0) (hq : ∀ i H, i ≤ xs.length → Pv i H → SqT K H a xs)
    (step : ∀ i x H, xs[i]? = some x → Pv i H → g x ρ H fun σ2 H2 => wipe σ2 vs = ρ ∧ tt σ2 H2 fun b H3 => if b = true then te σ2 H3 fun y H4 => add D y H4 (Pv (i + 1)) else Pv (i + 1) H3)
    (fin : ∀ H, Pv xs.length H → R H) : ∃ W : Nat → Nat → Hp → Prop, (∃ m, W 0 m H0) ∧ SgTurns add g tt te ρ vs (Itt K a) D R W := by
  refine ⟨fun i m H => i ≤ xs.length ∧ m = xs.length - i ∧ Pv i H, ⟨xs.length, Nat.zero_le _, rfl, h0⟩, ?_⟩
  rintro i m H ⟨hi, rfl, p⟩
  have s := hq i H hi p
  rcases Nat.lt_or_ge i xs.length with q | q
  · refine .inr ⟨⟨xs, xs[i], s, List.getElem?_eq_getElem q⟩, Pv (i + 1), fun H' p' => ⟨xs.length - (i + 1), by omega, q, rfl, p'⟩, ?_⟩
    rintro x H' ⟨rfl, e⟩
    exact step i x H' (e xs s) p
  · obtain rfl : i = xs.length := by omega
    exact .inl ⟨⟨xs, s, Nat.le_refl _⟩, fin H p⟩
end
end Hn

set_option maxHeartbeats 4000000
/-! a set display with one element, an int -/
namespace Hn
open PySem PySem.Spec PyProof.Rows L2 EF
open PySem.W (Frag keepIn)
theorem kds_of {K : Frag} {c : Value} {q : Str} (h : W.codeIn K c q = true) : W.kdsCode K c = true := by
  unfold W.codeIn at h
  unfold W.kdsCode
  split at h
  · split at h
    · rename_i e
      simp only [e]
    · cases h
  · cases h
/-- as Dfn.kept; the def's code is one of the written part -/
theorem Dfn.keptC {P : Program} {w : World} {K : Frag} {mg : Str → Option Value} {base : Heap} {x : Str} {st : Stmt} {N ps : List Str} {k : Nat} {sp : Sp} (D : Dfn K mg x st ps) (S : FnScope N ps (defScope st)) (len : ∀ vs H Q E, sp vs H Q E → vs.length = ps.length)
    (hbody : ∀ (f : Addr) (cdv : Value) (A : Around) (outer : List Env) (s : Shared) (H : Hp) (vs : List V) (Q : VK) (E : XK), W.kdsCode K cdv = true → Room k (A.deeper (envOfC x (defScope st) s.heap.objs.size f cdv)) → sp vs H Q E →
      ∃ t, PSs (cxOf CX0 P w K mg base N x (defScope st) f cdv A outer s H E).nox (defBody st) t ∧ t { nx := fun _ H' => Q .non H', rt := Q } (start N vs) H) :
    Kept P w K mg base (k + 1) x ps sp := by
  obtain ⟨f, fd, F, b, g⟩ := D
  obtain ⟨oc, od, kV, doc, pm, an, cdv, ct, osl, rfl, lk, hc⟩ := F.ex
  exact ⟨f, _, g, F.kp, b, fn_of lk hc S len fun A outer s H vs Q E hr h => by
    obtain ⟨t, p, q⟩ := hbody f cdv A outer s H vs Q E (kds_of hc) hr h
    exact ⟨t, p.nox, q⟩⟩
/-- {e}, e an int -/
def tSet1 (w : World) (te : TE) : TE := fun σ H Q => ∀ D, H D = none → te σ (upd H D (SetO w D (fun _ => false) 0)) fun y H1 => ∃ k, y = .int k ∧ H1 D = some (SetO w D (fun _ => false) 0) ∧ Q (.ref D) (upd H1 D (SetO w D (fun j => decide (j = k)) 1))
theorem pe_set1 {X : Cx} {e : Expr} {te : TE} {pos : Pos} (he : PE X e te) (hcd : W.kdsCode X.K X.env.code = true) (hs : starEach [e] X.env = [(false, eval e X.env)] := by rfl) : PE X (.Set [e] 0 pos) (tSet1 X.w te) := by
  refine ⟨fun pins s σ H Q I h => ?_⟩
  rw [arm_eval_Set, hs]
  refine wpAny_bind (wpAny_standAt (wpAny_bind (W.kds_main I.kIn hcd fun b => ?_)))
  show wpAny _ _ (setDisplay .oneByOne b [(false, do let v ← eval e X.env; standAt pos; pure v)]) _ _ _
  unfold setDisplay
  rw [if_neg (by decide)]
  refine wpAny_bind (PpSet.newSet_ok ?_)
  have hn := HOk.fresh I.hok (Nat.le_refl s.heap.objs.size)
  have z := h _ hn
  have I1 : L2.Inv X pins σ (upd H s.heap.objs.size (SetO X.w s.heap.objs.size (fun _ => false) 0)) ⟨s.heap.push (noneSet X.w), s.gens, s.drawn, s.toks, s.os⟩ :=
    I.laid (fun b o e => Heap.get?_push_of_some _ e) (Nat.le_refl _) (setO_new (setR_fresh X.w))
  refine wpAny_bind (wpAny_holding (wpAny_bind ?_))
  show wpAny _ _ (evalAll [do let v ← eval e X.env; standAt pos; pure v]) _ _ _
  rw [evalAll.eq_2, evalAll.eq_1]
  refine wpAny_bind (wpAny_bind (thn (he.run pins _ σ _ _ I1 z) ?_))
  rintro u s2 ⟨_, H2, I2, r2, k, rfl, hD, q⟩
  obtain ⟨tk, rfl⟩ : ∃ tk, u = Value.int k tk := r2
  refine wpAny_bind (wpAny_standAt (wpAny_pure (wpAny_bind (wpAny_holding (wpAny_pure (wpAny_pure ?_))))))
  refine wpAny_bind (wpAny_holding (wpAny_bind ?_))
  have hr := setO_get I2 hD
  show wpAny _ _ (forIn [Value.int k tk] PUnit.unit fun x _ => do let _ ← setAdd s.heap.objs.size x; pure (ForInStep.yield PUnit.unit)) _ _ _
  rw [List.forIn_cons]
  refine wpAny_bind (wpAny_bind ?_)
  show wpAny _ _ (holding [Value.int k tk] (do let h ← pyHash (Value.int k tk); setAddHashed s.heap.objs.size (Value.int k tk) h)) _ _ _
  refine wpAny_holding (wpAny_bind (KeyKind.pyHash (intKind X.prog X.w) (k := k) (intKind_is _ _ _ _) ?_))
  refine setR_add_hashed (S := fun _ => false) (s := ⟨s2.heap, s2.gens, s2.drawn, s2.toks + 1, s2.os⟩) hr (by decide) fun h' sb hr' => ?_
  refine wpAny_pure ?_
  show wpAny _ _ (forIn ([] : List Value) PUnit.unit _) _ _ _
  rw [List.forIn_nil]
  refine wpAny_pure ?_
  rw [if_neg (by decide)]
  refine wpAny_pure ?_
  show wpAny _ _ (do forIn ([] : List (Bool × Sem Value)) PUnit.unit _; pure ()) _ _ _
  rw [List.forIn_nil]
  refine wpAny_bind (wpAny_pure (wpAny_pure (wpAny_pure ?_)))
  refine ⟨.ref s.heap.objs.size, upd H2 s.heap.objs.size (SetO X.w s.heap.objs.size (fun j => decide (j = k)) 1), ?_, rfl, q⟩
  have e1 : (fun j => (fun _ => false) j || decide (j = k)) = fun j => decide (j = k) := by
    funext j
    exact Bool.false_or _
  rw [e1] at hr'
  refine I2.write ?_ (.inl rfl) (fun b u ne e => (sb.2 b ne).trans e) ?_ (setO_new hr')
  · rw [hD]
    exact trivial
  · obtain ⟨o, es, ep, t, ho, _⟩ := hr'
    exact ⟨o, ho⟩
end Hn

set_option maxHeartbeats 4000000
/-! enumerate(t) of a tuple -/
namespace Hn
open PySem PySem.Spec PyProof.Rows L2 EF
open PySem.W (Frag keepIn)
/-- enumerate's record, over the iterator at it, which stands at i -/
def enumObj (it : Addr) : Obj := { cls := .type "enumerate", data := .fields #[.none, .bool false, .ref it, rawInt 0, .none, .none] }
theorem wpAny_if {β : Type} {M : Model} {A : Around} {c : Prop} [Decidable c] {x y : Sem β} {Q : β → Shared → Prop} {E : Value → Shared → Prop} {s : Shared} (hx : wpAny M A x Q E s) (hy : wpAny M A y Q E s) : wpAny M A (if c then x else y) Q E s := by
  split
  · exact hx
  · exact hy
theorem meets_enum1 {v : Value} {o : Obj} {H : Heap → Prop} (b : Begins v o H) : Meets (Builtin.«enumerate.__new__» { pos := [.type "enumerate", v] }) fun _ R s =>
    H s.heap ∧ R (.ok (.ret (.ref (s.heap.push o).objs.size))) ⟨(s.heap.push o).push (enumObj s.heap.objs.size), s.gens, s.drawn, s.toks, s.os⟩ := by
  refine Meets.of_wp fun prog w A R s h => ?_
  obtain ⟨hs, h⟩ := h
  unfold Builtin.«enumerate.__new__»
  refine wpAny_bind ?_
  unfold Builtin.SmallTypes.newClass
  refine wpAny_bind (wpAny_pure (wpAny_ite_false (by rfl) (wpAny_bind (wpAny_of_eq sub_enumerate (wpAny_ite_false (by rfl) (wpAny_pure ?_))))))
  refine wpAny_ite_true (by rfl) (wpAny_bind ?_)
  unfold Builtin.SmallTypes.calledThroughType
  refine wpAny_bind (wpAny_stack_any fun st => ?_)
  have key : ∀ short : Bool, wpAny (model prog w) A.in1 (do let it ← pyIter v; let r ← Builtin.SmallTypes.newRecord (.type "enumerate") (Builtin.SmallTypes.ownedTupleFields ++ [it, rawInt 0, .none, .none]); ret r) (fun fin s' => ∃ v, fin = Fin.done (Flow.ret v) ∧ R (Except.ok (Flow.ret v)) s') (fun e s' => R (Except.error e) s') s := by
    intro _
    refine wpAny_bind (b.iter _ _ _ _ _ _ hs ?_)
    refine wpAny_bind ?_
    unfold Builtin.SmallTypes.newRecord
    refine wpAny_newObj_type (wpAny_pure ⟨_, rfl, h⟩) ?_
    show 6 ≤ sizeLine + 2
    rw [sizeLine_eq]
    omega
  refine wpAny_pure (wpAny_if ?_ ?_)
  · exact wpAny_bind (wpAny_of_eq (a := (v, none)) (by rfl) (key true))
  · exact wpAny_bind (wpAny_of_eq (a := (v, none)) (by rfl) (key true))
theorem call_enum1 {prog : Program} {w : World} {A : Around} {E : Value → Shared → Prop} {s : Shared} {v : Value} {o : Obj} {H : Heap → Prop} {Q : Value → Shared → Prop} (b : Begins v o H) (hs : H s.heap)
    (h : ∀ h' : Heap, IsEnum h' (s.heap.objs.size + 1) s.heap.objs.size 0 .none → h'.get? s.heap.objs.size = some o → (∀ b o, s.heap.get? b = some o → h'.get? b = some o) → Q (.ref (s.heap.objs.size + 1)) ⟨h', s.gens, s.drawn, s.toks, s.os⟩) :
    wpAny (model prog w) A (call (.type "enumerate") [v]) Q E s := by
  refine callType_new F.called_enumerate (by decide) (F.typeCall_enumerate_1 v) (F.newCall_enumerate_1 v) (fun obj => F.args_object_init_2 obj v) F.entry_enumerate_new (meets_enum1 b) ⟨hs, ?_⟩
  have hz := Heap.size_push s.heap o
  have he : ((s.heap.push o).push (enumObj s.heap.objs.size)).get? (s.heap.objs.size + 1) = some (enumObj s.heap.objs.size) := by
    rw [← hz]
    exact Heap.get?_push_size _ rfl
  show Shared.TypeIs _ (.ref (s.heap.push o).objs.size) "enumerate" ∧ Q (.ref (s.heap.push o).objs.size) _
  rw [hz]
  exact ⟨⟨_, he, rfl⟩, h _ he (Heap.get?_push_of_some _ (Heap.get?_push_size _ b.free)) fun b o e => Heap.get?_push_of_some _ (Heap.get?_push_of_some _ e)⟩
/-- the turns of enumerate(t), t a tuple of xs -/
def IteT (K : Frag) (a : Addr) (xs : List V) : It where
  go := fun i H => SqT K H a xs ∧ i < xs.length
  yld := fun i H v H' => ∃ T x, v = .ref T ∧ H T = none ∧ H' = upd H T (.tup [.int i, x]) ∧ xs[i]? = some x
  stop := fun i H => SqT K H a xs ∧ xs.length ≤ i
theorem turn_enumT {P : Program} {w : World} {K : Frag} {elts : List Expr} {kk : Nat} {tpos : Pos} (a e it : Addr) (xs : List V) (h1 : e ≠ it) (h2 : e ≠ a) (h3 : a ≠ it) :
    Turn P w K (.Tuple elts kk tpos) (IteT K a xs) [e, it] e fun i h => i ≤ xs.length ∧ (∃ old, IsEnum h e it i old) ∧ h.IsTupleIter it a i where
  mem := List.mem_cons_self
  obj := by
    rintro i h ⟨_, ⟨old, he⟩, ⟨o, ho, _, hd⟩⟩ b hb
    rcases List.mem_cons.mp hb with rfl | hb
    · exact ⟨_, he, fun v q => nomatch q⟩
    · obtain rfl := List.mem_singleton.mp hb
      refine ⟨o, ho, fun v q => ?_⟩
      rw [hd] at q
      cases q
  keep := by
    rintro i h h' ⟨hi, ⟨old, he⟩, ⟨o, ho, hc, hd⟩⟩ k
    exact ⟨hi, ⟨old, k e List.mem_cons_self _ he⟩, o, k it (List.mem_cons_of_mem _ List.mem_cons_self) _ ho, hc, hd⟩
  item := by
    rintro X rfl rfl rfl hc i pins s σ H E I hf ⟨hi, he, hit⟩ ⟨hq, hlt⟩
    obtain ⟨its, rv, hT, _⟩ := I.tuple hq
    have W := WalksT.enumerateD (A := X.A) (Draws.tuple (prog := X.prog) (w := X.w) (A := X.A.in1) (I.ok.hd hc) it a h3 its.toArray) e h1 (fun z => (List.mem_cons.mp z).elim h1 fun z => h2 (List.mem_singleton.mp z)) List.mem_cons_self
    have hlen : its.toArray.size = xs.length := by rw [List.size_toArray, rv.length]
    obtain ⟨x, hx⟩ : ∃ x, xs[i]? = some x := ⟨_, List.getElem?_eq_getElem hlt⟩
    obtain ⟨u, hu, ru⟩ := rv.get hx
    refine W.item i s _ E (by omega) ⟨he, hit, hT⟩ fun T vals h' tk hP hTs hTv mid k1 => ⟨.ref T, rfl, ?_⟩
    obtain ⟨t, y, hy, rfl⟩ := hP
    have huy : u = y := by
      rw [List.getElem?_toArray, hu] at hy
      exact Option.some.inj hy
    subst huy
    refine W.go elts kk tpos i T _ _ E mid fun h'' st'' k2 => ?_
    have nT := W.apart i T h' mid
    have hT2 : IsTup h'' T #[.int i t, u] := by
      obtain ⟨o, ho, hc, n, hd⟩ := hTv
      exact ⟨o, k2 T o nT ho, hc, n, hd⟩
    have new : ObjOk X.prog X.w (upd H T (.tup [.int i, x])) h'' T (.tup [.int i, x]) := by
      refine ⟨by rw [sizeLine_eq]; exact Nat.le_of_ble_eq_true rfl, [.int i t, u], .cons ⟨t, rfl⟩ (.cons ru .nil), hT2⟩
    have I1 := I.turnedNew (t' := tk) (ch := [e, it]) (fun b o nb q => k2 b o nb (k1 b o nb q)) hf hTs new
    refine ⟨.ref T, _, I1, rfl, ⟨T, x, rfl, HOk.fresh I.hok hTs, rfl, hx⟩, ⟨hlt, st''.1, st''.2.1⟩, fun b hb => ?_⟩
    have nb : b ≠ T := fun z => nT (z ▸ hb)
    rw [upd_ne nb]
    exact (hf b hb).1
  done := by
    rintro X rfl rfl rfl hc i pins s σ H E I hf ⟨hi, he, hit⟩ ⟨hq, hle⟩
    obtain ⟨its, rv, hT, _⟩ := I.tuple hq
    have W := WalksT.enumerateD (A := X.A) (Draws.tuple (prog := X.prog) (w := X.w) (A := X.A.in1) (I.ok.hd hc) it a h3 its.toArray) e h1 (fun z => (List.mem_cons.mp z).elim h1 fun z => h2 (List.mem_singleton.mp z)) List.mem_cons_self
    have hlen : its.toArray.size = i := by rw [List.size_toArray, ← rv.length]; omega
    refine W.done s _ E ?_ fun h' tk k => ⟨rfl, I.turnedL (ch := [e, it]) (fun b o nb q => k b o nb q) hf⟩
    rw [hlen]
    exact ⟨he, hit, hT⟩
  self := by
    rintro A i s Q E ⟨_, ⟨old, he⟩, _⟩ q
    exact wpAny_pyIter_enum he q
/-- for i, x in enumerate(t), t a tuple -/
def iEnumT (K : Frag) (ta : TA) : TI := fun σ H R => ta σ H fun vs H1 => ∃ a xs, vs = [.ref a] ∧ SqT K H1 a xs ∧ R (IteT K a xs) H1
theorem pi_enumT {X : Cx} {K : Frag} {e : Expr} {ta : TA} {p pos tpos : Pos} {elts : List Expr} {kk : Nat} (hK : X.K = K) (hg : Gl X "enumerate") (hm : X.mg "enumerate" = none) (ha : PA X [e] ta) (hs : starEach [e] X.env = [(false, eval e X.env)] := by rfl) :
    PI X (.Tuple elts kk tpos) (.Call (.Name "enumerate" p) [e] [] pos) (iEnumT K ta) := by
  subst hK
  refine ⟨fun pins s σ H R I h => ?_⟩
  refine Call_ (ld_blt I hg hm boot_enumerate (callWith_type1 (thn (ha.run pos pins s σ H _ I h) ?_) hs rfl) (by decide) (by decide)) rfl
  rintro us s1 ⟨vs, H1, I1, r1, a, xs, rfl, hq, q⟩
  rw [Vals.ref1 r1]
  obtain ⟨its, rv, hT, hz⟩ := I1.tuple hq
  refine call_enum1 (begins_tuple a its.toArray) hT fun h' he hit k => ?_
  refine wpAny_pyIter_enum he ?_
  have I2 := I1.kept (t' := s1.toks) k
  have ha1 : a < s1.heap.objs.size := by
    obtain ⟨o, ho, _⟩ := hT
    exact Heap.lt_size ho
  refine ⟨s1.heap.objs.size + 1, [s1.heap.objs.size + 1, s1.heap.objs.size], _, IteT X.K a xs, H1, rfl, I2, turn_enumT a _ _ xs (Nat.succ_ne_self _) (Nat.ne_of_gt (Nat.lt_succ_of_lt ha1)) (Nat.ne_of_lt ha1), ⟨Nat.zero_le _, ⟨_, he⟩, ⟨_, hit, rfl, rfl⟩⟩, fun b hb => ?_, q⟩
  have hle : s1.heap.objs.size ≤ b := by
    rcases List.mem_cons.mp hb with rfl | hb
    · exact Nat.le_add_right _ _
    · rw [List.mem_singleton.mp hb]
      exact Nat.le_refl _
  exact I1.fpOk hle (HOk.fresh I1.hok hle)
theorem for_enumT {K : Frag} {a : Addr} {xs : List V} {g : TG} {tb : TS} {D : Ends} {σ : L2.St} {H : Hp} (Pv : Nat → L2.St → Hp → Prop) (h0 : Pv 0 σ H) (hq : ∀ i σ H, Pv i σ H → SqT K H a xs)
    (hs : ∀ i x T σ H, xs[i]? = some x → Pv i σ H → H T = none → g (.ref T) σ (upd H T (.tup [.int (i : Nat), x])) fun σ2 H2 => tb { D with nx := Pv (i + 1), ct := Pv (i + 1), bk := D.nx } σ2 H2) (hd : ∀ σ H, Pv xs.length σ H → D.nx σ H) :
    ∃ W : Nat → Nat → L2.St → Hp → Prop, (∃ m, W 0 m σ H) ∧ ∀ i m σ H, W i m σ H →
      ((IteT K a xs).stop i H ∧ D.nx σ H) ∨ ((IteT K a xs).go i H ∧ ∃ N : L2.St → Hp → Prop, (∀ σ' H', N σ' H' → ∃ m', m' < m ∧ W (i + 1) m' σ' H') ∧ ∀ x H', (IteT K a xs).yld i H x H' → g x σ H' fun σ2 H2 => tb { D with nx := N, ct := N, bk := D.nx } σ2 H2) := by
  refine ⟨fun i m σ H => m = xs.length - i ∧ i ≤ xs.length ∧ Pv i σ H, ⟨xs.length, rfl, Nat.zero_le _, h0⟩, ?_⟩
  rintro i m σ H ⟨rfl, hi, p⟩
  have q1 := hq i σ H p
  rcases Nat.lt_or_ge i xs.length with h | h
  · refine .inr ⟨⟨q1, h⟩, Pv (i + 1), fun σ' H' z => ⟨xs.length - (i + 1), by omega, rfl, h, z⟩, ?_⟩
    rintro x H' ⟨T, x1, rfl, nT, rfl, e1⟩
    exact hs i x1 T σ H e1 p nT
  · obtain rfl : i = xs.length := by omega
    exact .inl ⟨⟨q1, Nat.le_refl _⟩, hd σ H p⟩
theorem lc_enumT {K : Frag} {a : Addr} {xs : List V} {g : TG} {tt : TT} {te : TE} {vs : List Nat} {σ : L2.St} {H1 : Hp} {D : Addr} {Qd : Hp → Prop} (Pv : Nat → Hp → Prop) (h0 : Pv 0 (upd H1 D (.lst [])))
    (hq : ∀ i H, Pv i H → SqT K H a xs)
    (hs : ∀ i x T H, xs[i]? = some x → Pv i H → H T = none → g (.ref T) (wipe σ vs) (upd H T (.tup [.int (i : Nat), x])) fun σ2 H2 => wipe σ2 vs = wipe σ vs ∧ tt σ2 H2 fun c H3 =>
      if c = true then te σ2 H3 fun z H4 => ∃ acc, H4 D = some (.lst acc) ∧ acc.length < sizeLine ∧ Pv (i + 1) (upd H4 D (.lst (acc ++ [z]))) else Pv (i + 1) H3) (hd : ∀ H, Pv xs.length H → Qd H) :
    ∃ W : Nat → Nat → Hp → Prop, (∃ m, W 0 m (upd H1 D (.lst []))) ∧ ∀ i m H, W i m H →
      ((IteT K a xs).stop i H ∧ Qd H) ∨ ((IteT K a xs).go i H ∧ ∃ Nx : Hp → Prop, (∀ H', Nx H' → ∃ m', m' < m ∧ W (i + 1) m' H') ∧ ∀ x H', (IteT K a xs).yld i H x H' → g x (wipe σ vs) H' fun σ2 H2 => wipe σ2 vs = wipe σ vs ∧ tt σ2 H2 fun c H3 =>
        if c = true then te σ2 H3 fun y H4 => ∃ acc, H4 D = some (.lst acc) ∧ acc.length < sizeLine ∧ Nx (upd H4 D (.lst (acc ++ [y]))) else Nx H3) := by
  refine ⟨fun i m H => m = xs.length - i ∧ i ≤ xs.length ∧ Pv i H, ⟨xs.length, rfl, Nat.zero_le _, h0⟩, ?_⟩
  rintro i m H ⟨rfl, hi, p⟩
  have q1 := hq i H p
  rcases Nat.lt_or_ge i xs.length with h | h
  · refine .inr ⟨⟨q1, h⟩, Pv (i + 1), fun H' z => ⟨xs.length - (i + 1), by omega, rfl, h, z⟩, ?_⟩
    rintro x H' ⟨T, x1, rfl, nT, rfl, e1⟩
    exact hs i x1 T H e1 p nT
  · obtain rfl : i = xs.length := by omega
    exact .inl ⟨⟨q1, Nat.le_refl _⟩, hd H p⟩
end Hn

set_option maxHeartbeats 4000000
/-! defs that may raise an own error without a field -/
namespace Hn
open PySem PySem.Spec PyProof.Rows L2 EF
open PySem.W (Frag keepIn)
/-- what the written part says of an own error that is raised -/
structure Err (K : Frag) (mg : Str → Option Value) (x : Str) (C : Addr) : Prop where
  g : mg x = some (.ref C)
  k : keepIn K (.ref C) = true
  e : PySem.W.excIn K C PySem.HandSPX.veTail "ValueError.__new__" = true
  b : PySem.W.subIn K (.ref C) (.type "BaseException") = some true
  t : PySem.W.typeIn K (.ref C) = some (.type "type")
theorem Err.raises {X : Cx} {x : Str} {C : Addr} (T : Err X.K X.mg x C) : Raises X (.ref C) := raises_own T.b T.t
/-- a def that keeps a promise and may raise -/
def KeptX (P : Program) (w : World) (K : Frag) (mg : Str → Option Value) (base : Heap) (k : Nat) (x : Str) (ps : List Str) (sp : Sp) : Prop :=
  ∃ f fd, mg x = some (.ref f) ∧ keepIn K (.ref f) = true ∧ Binds K fd ps [] ∧ FnOk P w K mg base (L2.CX P w) k f fd ps sp
section
variable {P : Program} {w : World} {K : Frag} {mg : Str → Option Value} {base : Heap}
theorem KeptX.mono {j k : Nat} {x : Str} {ps : List Str} {sp : Sp} (G : KeptX P w K mg base j x ps sp) (h : j ≤ k) : KeptX P w K mg base k x ps sp := by
  obtain ⟨f, fd, a, b, c, d⟩ := G
  exact ⟨f, fd, a, b, c, d.mono h⟩
theorem Dfn.keptX {x : Str} {st : Stmt} {N ps : List Str} {k : Nat} {sp : Sp} (D : Dfn K mg x st ps) (S : FnScope N ps (defScope st)) (len : ∀ vs H Q E, sp vs H Q E → vs.length = ps.length)
    (hbody : ∀ (f : Addr) (cdv : Value) (A : Around) (outer : List Env) (s : Shared) (H : Hp) (vs : List V) (Q : VK) (E : XK), Room k (A.deeper (envOfC x (defScope st) s.heap.objs.size f cdv)) → sp vs H Q E →
      ∃ t, PSs (cxOf (L2.CX P w) P w K mg base N x (defScope st) f cdv A outer s H E) (defBody st) t ∧ t { nx := fun _ H' => Q .non H', rt := Q } (start N vs) H) :
    KeptX P w K mg base (k + 1) x ps sp := by
  obtain ⟨f, fd, F, b, g⟩ := D
  exact ⟨f, fd, g, F.kp, b, F.okX S len fun cdv A outer s H vs Q E hr h => hbody f cdv A outer s H vs Q E hr h⟩
end
section
variable {X : Cx} {k : Nat} {x : Str} {ps : List Str} {sp : Sp} {e : Expr} {es : List Expr} {t : TA} {p pos : Pos} {E : L2.St → XK}
/-- f(e, ..), f a def that may raise: what it raises must be wished for here -/
theorem pe_kx (G : KeptX X.prog X.w X.K X.mg X.base k x ps sp) (hr : Room k X.A) (hg : Gl X x) (hx : ∀ σ, PassesAt (L2.CX X.prog X.w) X σ (E σ)) (ha : PA X (e :: es) t) (hdb : (x == ("__debug__" : Str)) = false := by decide)
    (he : starEach (e :: es) X.env = (false, eval e X.env) :: starEach es X.env := by rfl) (hpl : (backTo pos (starEach es X.env)).any (·.1) = false := by rfl) : PE X (.Call (.Name x p) (e :: es) [] pos) (tCallS sp E t) := by
  obtain ⟨f, fd, gm, kp, b, F⟩ := G
  exact pe_callS F hr hg gm kp b hx ha hdb he hpl
/-- X(), X an own error without an __init__ -/
theorem pmk_own0 {C : Addr} (T : Err X.K X.mg x C) (hg : Gl X x) (hdb : (x == ("__debug__" : Str)) = false := by decide) : PMk X (.Call (.Name x p) [] [] pos) (fun _ H Q => Q (.ref C) none H) := by
  intro pins s σ H Q I h
  refine wpAny_Call_Name_kw (ld_glob I hg T.g ?_ hdb)
  refine PySem.W.callWith_K0 I.kIn T.k ?_
  show wpAny _ _ (call (.ref C) []) _ _ _
  obtain ⟨bm, N, nm, qn, bs, hdct, sn, sub, ab, col, dd, k0, k1, k2, k3, k5, mN, hC, hN, hni, Z⟩ := exc_obj I.kIn T.e
  exact wpAny_call_exc_subT F.excBase_ValueError Z hC hN hni (fun h' e hm => mk_of I hm T.raises h (HOk.gone I.hok hm.new)) (Nat.zero_le _)
end
end Hn

set_option maxHeartbeats 4000000
/-! chains in rows of ints, and what a search has seen of them -/
namespace Hn
open PySem PySem.Spec PyProof.Rows L2 EF
open PySem.W (Frag keepIn)
/-- the row of v -/
def rowAt (rows : List (List Int)) (v : Int) : List Int := rows.getD v.toNat []
/-- a chain leads from u to v -/
inductive Reach (rows : List (List Int)) (u : Int) : Int → Prop
  | refl : Reach rows u u
  | step {v w : Int} : Reach rows u v → w ∈ rowAt rows v → Reach rows u w
/-- all entries are people -/
def InRange (rows : List (List Int)) : Prop := ∀ r ∈ rows, ∀ w ∈ r, 0 ≤ w ∧ w < (rows.length : Int)
theorem row_range {rows : List (List Int)} (h : InRange rows) {v w : Int} (hw : w ∈ rowAt rows v) : 0 ≤ w ∧ w < (rows.length : Int) := by
  unfold rowAt at hw
  rw [List.getD_eq_getElem?_getD] at hw
  cases e : rows[v.toNat]? with
  | none =>
    rw [e] at hw
    cases hw
  | some r =>
    rw [e] at hw
    exact h r (List.mem_of_getElem? e) w hw
theorem Reach.range {rows : List (List Int)} (h : InRange rows) {u v : Int} (hu : 0 ≤ u ∧ u < (rows.length : Int)) (r : Reach rows u v) : 0 ≤ v ∧ v < (rows.length : Int) := by
  cases r with
  | refl => exact hu
  | step _ hw => exact row_range h hw
/-- a lot of different ints below n is of at most n -/
theorem few_below {n : Nat} {ks : List Int} (nd : ks.Nodup) (h : ∀ k ∈ ks, 0 ≤ k ∧ k < (n : Int)) : ks.length ≤ n := by
  have h1 : (ks.map Int.toNat).Nodup := by
    refine List.pairwise_map.mpr (nd.imp_of_mem fun ha hb ne e => ne ?_)
    have := (h _ ha).1
    have := (h _ hb).1
    omega
  have h2 : (ks.map Int.toNat) ⊆ List.range n := fun x hx => by
    obtain ⟨k, hk, rfl⟩ := List.mem_map.mp hx
    have := h k hk
    exact List.mem_range.mpr (by omega)
  have h3 := List.Nodup.length_le_of_subset h1 h2
  rw [List.length_map, List.length_range] at h3
  exact h3
/-- what has been seen on the way from u -/
structure Seen (rows : List (List Int)) (u : Int) (S : Int → Bool) (c : Nat) : Prop where
  ks : ∃ ks : List Int, ks.Nodup ∧ ks.length = c ∧ ∀ k, S k = true ↔ k ∈ ks
  re : ∀ k, S k = true → Reach rows u k
  st : S u = true
theorem Seen.le {rows : List (List Int)} {u : Int} {S : Int → Bool} {c : Nat} (s : Seen rows u S c) (h : InRange rows) (hu : 0 ≤ u ∧ u < (rows.length : Int)) : c ≤ rows.length := by
  obtain ⟨ks, nd, rfl, e⟩ := s.ks
  exact few_below nd fun k hk => (s.re k ((e k).mpr hk)).range h hu
theorem Seen.one {rows : List (List Int)} {u : Int} : Seen rows u (fun j => decide (j = u)) 1 :=
  ⟨⟨[u], List.nodup_cons.mpr ⟨List.not_mem_nil, List.nodup_nil⟩, rfl, fun k => by rw [decide_eq_true_iff, List.mem_singleton]⟩, fun k h => of_decide_eq_true h ▸ .refl, decide_eq_true rfl⟩
theorem Seen.add {rows : List (List Int)} {u w : Int} {S : Int → Bool} {c : Nat} (s : Seen rows u S c) (n : S w = false) (r : Reach rows u w) : Seen rows u (fun j => S j || decide (j = w)) (c + 1) := by
  obtain ⟨ks, nd, rfl, e⟩ := s.ks
  refine ⟨⟨w :: ks, List.nodup_cons.mpr ⟨fun m => ?_, nd⟩, rfl, fun k => ?_⟩, fun k h => ?_, ?_⟩
  · rw [(e w).mpr m] at n
    cases n
  · rw [Bool.or_eq_true, decide_eq_true_iff, List.mem_cons, e k, or_comm]
  · rcases (Bool.or_eq_true _ _).mp h with h | h
    · exact s.re k h
    · rw [of_decide_eq_true h]
      exact r
  · rw [s.st, Bool.true_or]
/-- a search that has nothing ahead has seen all -/
theorem Seen.all {rows : List (List Int)} {u : Int} {S : Int → Bool} {c : Nat} (s : Seen rows u S c) (cl : ∀ k, S k = true → ∀ w ∈ rowAt rows k, S w = true) (k : Int) : S k = true ↔ Reach rows u k := by
  refine ⟨s.re k, fun r => ?_⟩
  induction r with
  | refl => exact s.st
  | step _ hw ih => exact cl _ ih _ hw
end Hn

set_option maxHeartbeats 4000000
/-! a search in layers: who is found, and by how many cards -/
namespace Hn
open PySem PySem.Spec PyProof.Rows L2 EF
open PySem.W (Frag keepIn)
/-- how far k is, by the pairs -/
def dist : List (Int × Int) → Int → Option Int
  | [], _ => none
  | p :: r, k => if p.1 = k then some p.2 else dist r k
def encI (kvs : List (Int × Int)) : List (Key × V) := kvs.map fun p => (Sum.inl p.1, V.int p.2)
theorem valV_enc (k : Int) : ∀ kvs : List (Int × Int), valV (encI kvs) (Sum.inl k) = (dist kvs k).map V.int
  | [] => rfl
  | p :: r => by
    have ih := valV_enc k r
    by_cases e : p.1 = k
    · rw [show dist (p :: r) k = some p.2 from if_pos e]
      exact valV_pos (p := ((Sum.inl p.1 : Key), V.int p.2)) (by rw [e])
    · rw [show dist (p :: r) k = dist r k from if_neg e, ← ih]
      exact valV_neg (p := ((Sum.inl p.1 : Key), V.int p.2)) (fun z => e (Sum.inl.inj z))
theorem dist_mem {k : Int} : ∀ {kvs : List (Int × Int)}, k ∈ kvs.map (·.1) ↔ ∃ d, dist kvs k = some d
  | [] => ⟨fun h => absurd h List.not_mem_nil, fun ⟨d, h⟩ => by cases h⟩
  | p :: r => by
    rw [List.map_cons, List.mem_cons]
    by_cases e : p.1 = k
    · exact ⟨fun _ => ⟨p.2, if_pos e⟩, fun _ => .inl e.symm⟩
    · rw [show dist (p :: r) k = dist r k from if_neg e, ← dist_mem (kvs := r)]
      exact ⟨fun h => h.resolve_left fun z => e z.symm, .inr⟩
theorem dist_snoc {w d : Int} (k : Int) : ∀ {kvs : List (Int × Int)}, dist kvs w = none → dist (kvs ++ [(w, d)]) k = if k = w then some d else dist kvs k
  | [], _ => by
    show (if w = k then some d else none) = if k = w then some d else none
    by_cases e : w = k
    · rw [if_pos e, if_pos e.symm]
    · rw [if_neg e, if_neg fun z => e z.symm]
  | p :: r, h => by
    have hw : ¬ p.1 = w := fun z => by
      rw [show dist (p :: r) w = some p.2 from if_pos z] at h
      cases h
    have ih := dist_snoc (d := d) k (kvs := r) (by rw [show dist (p :: r) w = dist r w from if_neg hw] at h; exact h)
    show (if p.1 = k then some p.2 else dist (r ++ [(w, d)]) k) = if k = w then some d else if p.1 = k then some p.2 else dist r k
    by_cases e : p.1 = k
    · rw [if_pos e, if_pos e, if_neg fun z => hw (e.trans z)]
    · rw [if_neg e, if_neg e, ih]
theorem enc_put {kvs : List (Int × Int)} {w d : Int} (h : dist kvs w = none) : putK (encI kvs) (Sum.inl w) (V.int d) = encI (kvs ++ [(w, d)]) := by
  rw [putK_new (V.int d) (by rw [valV_enc, h]; rfl)]
  unfold encI
  rw [List.map_append]
  rfl
/-- what is known at the head of each turn: l is the layer m -/
structure Lay (rows : List (List Int)) (u : Int) (kvs : List (Int × Int)) (l : List Int) (m : Int) : Prop where
  nd : (kvs.map (·.1)).Nodup
  re : ∀ k d, dist kvs k = some d → Reach rows u k
  st : dist kvs u = some 0
  low : ∀ k d, dist kvs k = some d → 0 ≤ d ∧ d ≤ m ∧ (k ≠ u → 0 < d ∧ ∃ j, dist kvs j = some (d - 1) ∧ k ∈ rowAt rows j)
  lay : ∀ k, k ∈ l ↔ dist kvs k = some m
  dn : ∀ k d, dist kvs k = some d → d < m → ∀ w ∈ rowAt rows k, ∃ e, dist kvs w = some e ∧ e ≤ d + 1
  m0 : 0 ≤ m
/-- within a turn: the cards that Pe tells have been followed; f is the next layer so far -/
structure Mid (rows : List (List Int)) (u : Int) (l : List Int) (m : Int) (Pe : Int → Int → Prop) (kvs : List (Int × Int)) (f : List Int) : Prop where
  nd : (kvs.map (·.1)).Nodup
  re : ∀ k d, dist kvs k = some d → Reach rows u k
  st : dist kvs u = some 0
  low : ∀ k d, dist kvs k = some d → 0 ≤ d ∧ d ≤ m + 1 ∧ (k ≠ u → 0 < d ∧ ∃ j, dist kvs j = some (d - 1) ∧ k ∈ rowAt rows j)
  lay : ∀ k, k ∈ l ↔ dist kvs k = some m
  fu : ∀ k, k ∈ f ↔ dist kvs k = some (m + 1)
  dn : ∀ k d, dist kvs k = some d → d < m → ∀ w ∈ rowAt rows k, ∃ e, dist kvs w = some e ∧ e ≤ d + 1
  cur : ∀ k w, Pe k w → ∃ e, dist kvs w = some e ∧ e ≤ m + 1
  m0 : 0 ≤ m
section
variable {rows : List (List Int)} {u : Int} {l : List Int} {m : Int} {Pe Pe' : Int → Int → Prop} {kvs : List (Int × Int)} {f : List Int}
theorem Lay.start : Lay rows u [(u, 0)] [u] 0 := by
  have e : ∀ k d, dist [(u, 0)] k = some d → k = u ∧ d = 0 := fun k d h => by
    have h' : (if u = k then some (0 : Int) else none) = some d := h
    split at h'
    · rename_i z
      exact ⟨z.symm, (Option.some.inj h').symm⟩
    · cases h'
  refine ⟨List.nodup_cons.mpr ⟨List.not_mem_nil, List.nodup_nil⟩, fun k d h => ?_, if_pos rfl, fun k d h => ?_, fun k => ?_, fun k d h lt => ?_, Int.le_refl _⟩
  · rw [(e k d h).1]
    exact .refl
  · obtain ⟨h1, h2⟩ := e k d h
    exact ⟨by omega, by omega, fun n => absurd h1 n⟩
  · rw [List.mem_singleton]
    exact ⟨fun h => h ▸ if_pos rfl, fun h => (e k 0 h).1⟩
  · have := (e k d h).2
    omega
theorem Lay.mid (s : Lay rows u kvs l m) : Mid rows u l m (fun _ _ => False) kvs [] :=
  ⟨s.nd, s.re, s.st, fun k d h => ⟨(s.low k d h).1, by have := (s.low k d h).2.1; omega, (s.low k d h).2.2⟩, s.lay,
    fun k => ⟨fun h => absurd h List.not_mem_nil, fun h => by have := (s.low k _ h).2.1; omega⟩, s.dn, fun _ _ h => h.elim, s.m0⟩
theorem Mid.skip (s : Mid rows u l m Pe kvs f) {w d : Int} (h : dist kvs w = some d) (hp : ∀ k x, Pe' k x → Pe k x ∨ x = w) : Mid rows u l m Pe' kvs f :=
  ⟨s.nd, s.re, s.st, s.low, s.lay, s.fu, s.dn, fun k x p => by
    rcases hp k x p with z | z
    · exact s.cur k x z
    · rw [z]
      exact ⟨d, h, (s.low w d h).2.1⟩, s.m0⟩
theorem Mid.add (s : Mid rows u l m Pe kvs f) {v w : Int} (hv : v ∈ l) (hw : w ∈ rowAt rows v) (n : dist kvs w = none) (hp : ∀ k x, Pe' k x → Pe k x ∨ x = w) : Mid rows u l m Pe' (kvs ++ [(w, m + 1)]) (f ++ [w]) := by
  have dv := (s.lay v).mp hv
  have ds : ∀ k, dist (kvs ++ [(w, m + 1)]) k = if k = w then some (m + 1) else dist kvs k := fun k => dist_snoc k n
  have up : ∀ {k d}, dist kvs k = some d → dist (kvs ++ [(w, m + 1)]) k = some d := fun {k d} h => by
    rw [ds, if_neg (fun z => by rw [z, n] at h; cases h)]
    exact h
  have dw : dist (kvs ++ [(w, m + 1)]) w = some (m + 1) := by rw [ds, if_pos rfl]
  have m0 := s.m0
  refine ⟨?_, fun k d h => ?_, up s.st, fun k d h => ?_, fun k => ?_, fun k => ?_, fun k d h lt x hx => ?_, fun k x p => ?_, s.m0⟩
  · rw [List.map_append]
    refine List.nodup_append.mpr ⟨s.nd, List.nodup_cons.mpr ⟨List.not_mem_nil, List.nodup_nil⟩, fun x hx y hy => ?_⟩
    rw [List.mem_singleton.mp hy]
    intro z
    obtain ⟨d, hd⟩ := dist_mem.mp hx
    rw [z, n] at hd
    cases hd
  · rw [ds] at h
    split at h
    · rename_i z
      rw [z]
      exact .step (s.re v m dv) hw
    · exact s.re k d h
  · rw [ds] at h
    split at h
    · rename_i z
      obtain rfl := Option.some.inj h
      refine ⟨by omega, Int.le_refl _, fun _ => ⟨by omega, v, ?_, z ▸ hw⟩⟩
      rw [show m + 1 - 1 = m by omega]
      exact up dv
    · obtain ⟨h1, h2, h3⟩ := s.low k d h
      refine ⟨h1, h2, fun ne => ?_⟩
      obtain ⟨h4, j, h5, h6⟩ := h3 ne
      exact ⟨h4, j, up h5, h6⟩
  · rw [s.lay k, ds]
    split
    · rename_i z
      rw [z, n]
      exact ⟨fun h => (by cases h), fun h => by have := Option.some.inj h; omega⟩
    · exact Iff.rfl
  · rw [List.mem_append, List.mem_singleton, s.fu k, ds]
    split
    · rename_i z
      exact ⟨fun _ => rfl, fun _ => .inr z⟩
    · rename_i z
      exact ⟨fun h => h.resolve_right z, .inl⟩
  · rw [ds] at h
    split at h
    · have := Option.some.inj h
      omega
    · obtain ⟨e, h1, h2⟩ := s.dn k d h lt x hx
      exact ⟨e, up h1, h2⟩
  · rcases hp k x p with z | z
    · obtain ⟨e, h1, h2⟩ := s.cur k x z
      exact ⟨e, up h1, h2⟩
    · rw [z]
      exact ⟨_, dw, Int.le_refl _⟩
theorem Mid.lay_next (s : Mid rows u l m Pe kvs f) (hp : ∀ k, k ∈ l → ∀ w ∈ rowAt rows k, Pe k w) : Lay rows u kvs f (m + 1) :=
  ⟨s.nd, s.re, s.st, s.low, s.fu, fun k d h lt w hw => by
    rcases Int.lt_or_le d m with z | z
    · exact s.dn k d h z w hw
    · obtain rfl : d = m := by omega
      exact s.cur k w (hp k ((s.lay k).mpr h) w hw), by have := s.m0; omega⟩
end
/-- the people whom u finds, and by how many cards -/
structure Dists (rows : List (List Int)) (u : Int) (kvs : List (Int × Int)) : Prop where
  nd : (kvs.map (·.1)).Nodup
  re : ∀ k, k ∈ kvs.map (·.1) ↔ Reach rows u k
  st : dist kvs u = some 0
  low : ∀ k d, dist kvs k = some d → 0 ≤ d ∧ (k ≠ u → 0 < d ∧ ∃ j, dist kvs j = some (d - 1) ∧ k ∈ rowAt rows j)
  ok : ∀ k d, dist kvs k = some d → ∀ w ∈ rowAt rows k, ∃ e, dist kvs w = some e ∧ e ≤ d + 1
theorem Lay.dists {rows : List (List Int)} {u : Int} {kvs : List (Int × Int)} {m : Int} (s : Lay rows u kvs [] m) : Dists rows u kvs := by
  have ok : ∀ k d, dist kvs k = some d → ∀ w ∈ rowAt rows k, ∃ e, dist kvs w = some e ∧ e ≤ d + 1 := fun k d h w hw => by
    refine s.dn k d h ?_ w hw
    have h1 := (s.low k d h).2.1
    rcases Int.lt_or_le d m with z | z
    · exact z
    · obtain rfl : d = m := by omega
      exact absurd ((s.lay k).mpr h) List.not_mem_nil
  refine ⟨s.nd, fun k => ?_, s.st, fun k d h => ⟨(s.low k d h).1, (s.low k d h).2.2⟩, ok⟩
  rw [dist_mem]
  refine ⟨fun ⟨d, h⟩ => s.re k d h, fun r => ?_⟩
  induction r with
  | refl => exact ⟨0, s.st⟩
  | step _ hw ih =>
    obtain ⟨d, hd⟩ := ih
    obtain ⟨e, he, _⟩ := ok _ d hd _ hw
    exact ⟨e, he⟩
theorem Lay.few {rows : List (List Int)} {u : Int} {kvs : List (Int × Int)} {l : List Int} {m : Int} (s : Lay rows u kvs l m) (h : InRange rows) (hu : 0 ≤ u ∧ u < (rows.length : Int)) : kvs.length ≤ rows.length := by
  have z := few_below s.nd fun k hk => by
    obtain ⟨d, hd⟩ := dist_mem.mp hk
    exact (s.re k d hd).range h hu
  rw [List.length_map] at z
  exact z
theorem Mid.few {rows : List (List Int)} {u : Int} {kvs : List (Int × Int)} {l f : List Int} {m : Int} {Pe : Int → Int → Prop} (s : Mid rows u l m Pe kvs f) (h : InRange rows) (hu : 0 ≤ u ∧ u < (rows.length : Int)) : kvs.length ≤ rows.length := by
  have z := few_below s.nd fun k hk => by
    obtain ⟨d, hd⟩ := dist_mem.mp hk
    exact (s.re k d hd).range h hu
  rw [List.length_map] at z
  exact z
end Hn

set_option maxHeartbeats 4000000
/-! slices of a tuple -/
namespace Hn
open PySem PySem.Spec PyProof.Rows L2 EF
open PySem.W (Frag keepIn)
theorem cut_all {xs : List V} {lo hi : Option Int} (h : HT.sIx xs.length 0 lo = 0 ∧ HT.sIx xs.length xs.length hi = xs.length) : cutV xs lo hi = xs := by
  unfold cutV
  rw [h.1, h.2, Nat.sub_zero, List.drop_zero, List.take_length]
theorem sl_any {K : Frag} {H : Hp} {a : Addr} {xs : List V} {lo hi : Option Int} {Q : VK} (h : SqT K H a xs) (q : ∀ p H', Same H H' → SqT K H' p (cutV xs lo hi) → Q (.ref p) H') : rSlA K (.ref a) lo hi H Q :=
  ⟨a, xs, rfl, h, fun e => q a H (Same.refl H) (by rw [cut_all e]; exact h), fun _ p np => q p _ (same_new np) (SqT.of upd_same)⟩
theorem cut_init (xs : List V) : cutV xs none (some (-1)) = xs.take (xs.length - 1) := by
  have e : HT.sIx xs.length xs.length (some (-1)) = xs.length - 1 := by
    show (if (-1 : Int) < 0 then ((-1 : Int) + (xs.length : Int)).toNat else min (-1 : Int).toNat xs.length) = _
    rw [if_pos (by decide)]
    omega
  unfold cutV
  rw [e, HT.sIx_none, List.drop_zero, Nat.sub_zero]
/-- from the i-th on -/
theorem cut_from (xs : List V) (i : Nat) : cutV xs (some (i : Int)) none = xs.drop i := by
  have e : HT.sIx xs.length 0 (some (i : Int)) = min i xs.length := HT.sIx_nat xs.length 0 i
  unfold cutV
  rw [e, HT.sIx_none]
  rcases Nat.lt_or_ge i xs.length with h | h
  · rw [Nat.min_eq_left (Nat.le_of_lt h)]
    exact List.take_of_length_le (by rw [List.length_drop]; exact Nat.le_refl _)
  · rw [Nat.min_eq_right h, List.drop_length, List.take_nil, List.drop_eq_nil_of_le h]
/-- up to the i-th -/
theorem cut_to (xs : List V) (i : Nat) : cutV xs none (some (i : Int)) = xs.take i := by
  have e : HT.sIx xs.length xs.length (some (i : Int)) = min i xs.length := HT.sIx_nat xs.length xs.length i
  unfold cutV
  rw [e, HT.sIx_none, List.drop_zero, Nat.sub_zero]
  rcases Nat.lt_or_ge i xs.length with h | h
  · rw [Nat.min_eq_left (Nat.le_of_lt h)]
  · rw [Nat.min_eq_right h, List.take_length, List.take_of_length_le h]
/-- from the i-th up to the j-th -/
theorem cut_part (xs : List V) (i j : Nat) : cutV xs (some (i : Int)) (some (j : Int)) = (xs.drop i).take (j - i) := by
  have e : HT.sIx xs.length 0 (some (i : Int)) = min i xs.length := HT.sIx_nat xs.length 0 i
  have e2 : HT.sIx xs.length xs.length (some (j : Int)) = min j xs.length := HT.sIx_nat xs.length xs.length j
  unfold cutV
  rw [e, e2]
  rcases Nat.lt_or_ge i xs.length with h | h
  · rw [Nat.min_eq_left (Nat.le_of_lt h)]
    rcases Nat.lt_or_ge j xs.length with k | k
    · rw [Nat.min_eq_left (Nat.le_of_lt k)]
    · rw [Nat.min_eq_right k, List.take_of_length_le (by rw [List.length_drop]; exact Nat.le_refl _), List.take_of_length_le (by rw [List.length_drop]; omega)]
  · rw [Nat.min_eq_right h, List.drop_length, List.drop_eq_nil_of_le h, List.take_nil, List.take_nil]
end Hn

set_option maxHeartbeats 4000000
/-! a caught own error asked by isinstance; a call of a def that a local name holds -/
namespace Hn
open PySem PySem.Spec PyProof.Rows L2 EF
open PySem.W (Frag keepIn)
section
variable {X : Cx} {a D : Addr} {oe : Obj} {pn : List (Addr × Obj)}
theorem caughtAt {pins : List (Addr × Obj)} {σ : L2.St} {H : Hp} {s : Shared} (hz : Zc (.ref D) none oe) (hf : ∃ vs, oe.data = .fields vs) (I : L2.Inv (X.suite a ((a, oe) :: pn)) pins σ H s) : PySem.W.InstAt s.heap a oe D none := by
  obtain ⟨hg, _⟩ := I.pin (a, oe) (List.mem_append.mpr (.inl List.mem_cons_self))
  obtain ⟨vs, hv⟩ := hf
  refine ⟨hg, hz.1, ?_, ?_⟩
  · unfold PySem.W.notCls
    rw [hv] <;> rfl
  · rw [hz.2]
    trivial
/-- isinstance(e, c), e the error that is handled -/
def rIsS (K : Frag) (D a : Addr) : List V → Hp → VK → Prop := fun xs H Q => ∃ (c : V) (u : Value) (b : Bool), xs = [.ref a, c] ∧ ClsV c u ∧ PySem.W.kitOne K (.ref D) u = some b ∧ Q (.bl b) H
theorem call_isS (T : IsE X.K D) (hz : Zc (.ref D) none oe) (hf : ∃ vs, oe.data = .fields vs) : CallR (X.suite a ((a, oe) :: pn)) (.builtin "isinstance") (rIsS X.K D a) := by
  intro pins s σ H xs us Q I r h
  obtain ⟨c, u, b, rfl, k, e, q⟩ := h
  obtain ⟨u1, u2, rfl, r1, r2⟩ := vals2 r
  have e2 := k.eq r2
  subst e2
  cases (show u1 = Value.ref a from r1)
  exact PySem.W.kia_one (PySem.W.kitx_exc T.cl T.ga T.gg T.exC T.kls T.get T.tk T.obj) I.kIn (caughtAt hz hf I) e (fun z => nomatch z) fun tk => ⟨.bl b, H, I.tok tk, rfl, q⟩
theorem cls_eq : ∀ {cs : List V} {us its : List Value}, Paired ClsV cs us → Vals cs its → its = us
  | _, _, _, .nil, .nil => rfl
  | _, _, _, .cons k ks, .cons r rs => by rw [k.eq r, cls_eq ks rs]
/-- isinstance(e, (c, ..)) -/
def rIsST (K : Frag) (D a : Addr) : List V → Hp → VK → Prop := fun xs H Q => ∃ (t : Addr) (cs : List V) (us : List Value) (b : Bool), xs = [.ref a, .ref t] ∧ H t = some (.tup cs) ∧ Paired ClsV cs us ∧ PySem.W.kitAny K (.ref D) us = some b ∧ Q (.bl b) H
theorem call_isST (T : IsE X.K D) (hz : Zc (.ref D) none oe) (hf : ∃ vs, oe.data = .fields vs) : CallR (X.suite a ((a, oe) :: pn)) (.builtin "isinstance") (rIsST X.K D a) := by
  intro pins s σ H xs us Q I r h
  obtain ⟨t, cs, ws, b, rfl, ht, k, e, q⟩ := h
  obtain ⟨u1, u2, rfl, r1, r2⟩ := vals2 r
  cases (show u1 = Value.ref a from r1)
  cases (show u2 = Value.ref t from r2)
  obtain ⟨_, its, rv, ⟨o, ho, hc, n, hd⟩⟩ := I.hok t _ ht
  obtain rfl := cls_eq k rv
  obtain ⟨c, dd, dt, sl⟩ := o
  obtain rfl : c = .type "tuple" := hc
  obtain rfl : dt = .seq its.toArray n := hd
  exact PySem.W.kia_tup (PySem.W.kitx_exc T.cl T.ga T.gg T.exC T.kls T.get T.tk T.obj) I.kIn (caughtAt hz hf I) ho e (fun z => nomatch z) fun tk => ⟨.bl b, H, I.tok tk, rfl, q⟩
end
/-- f(e, ..), f a local name that holds the def at f, which may raise -/
def tCallLS (i : Nat) (f : Addr) (sp : Sp) (E : L2.St → XK) (t : TA) : TE := fun σ H Q => σ[i]? = some (some (.ref f)) ∧ t σ H fun vs H1 => sp vs H1 Q (E σ)
theorem pe_callLS {X : Cx} {CX : CXT} {k i : Nat} {f : Addr} {fd : FuncData} {ps : List Str} {sp : Sp} {E : L2.St → XK} {x : Str} {p pos : Pos} {e : Expr} {es : List Expr} {t : TA} (F : FnOk X.prog X.w X.K X.mg X.base CX k f fd ps sp) (hr : Room k X.A) (hN : X.N[i]? = some x) (hv : Vis X.env.scope x)
    (hk : keepIn X.K (.ref f) = true) (hb : L2.Binds X.K fd ps []) (hx : ∀ σ, PassesAt CX X σ (E σ)) (ha : PA X (e :: es) t) (hdb : (x == ("__debug__" : Str)) = false := by decide) (hcd : (x == ("__classdict__" : Str)) = false := by decide)
    (he : starEach (e :: es) X.env = (false, eval e X.env) :: starEach es X.env := by rfl) (hpl : (backTo pos (starEach es X.env)).any (·.1) = false := by rfl) : PE X (.Call (.Name x p) (e :: es) [] pos) (tCallLS i f sp E t) := by
  refine ⟨fun pins s σ H Q I h => ?_⟩
  obtain ⟨hs, ht⟩ := h
  refine wpAny_Call_Name_kw (thn ((pe_var hN hv hdb hcd).run pins s σ H (fun v H1 => v = .ref f ∧ H1 = H) I ⟨_, hs, rfl, rfl⟩) ?_)
  rintro u s1 ⟨v, H1, I1, r1, rfl, rfl⟩
  cases (show u = Value.ref f from r1)
  refine PySem.W.callWith_K I.ok.mod.kin hk (thn (ha.run pos pins s1 σ H1 _ I1 ht) ?_) he hpl
  rintro us s2 ⟨vs, H2, I2, r, q⟩
  exact ⟨I2.kIn, run_fnS F hr hb (hx σ) I2 r q⟩
end Hn

set_option maxHeartbeats 4000000
/-! data whose tuples are short; data beside a bag -/
namespace Hn
open PySem PySem.Spec PyProof.Rows L2 EF
open PySem.W (Frag keepIn)
mutual
/-- no tuple within has more than b items (what stands in lists is not asked) -/
def Wide (b : Nat) : PyData → Prop
  | .tuple ds => ds.length ≤ b ∧ WideL b ds
  | _ => True
def WideL (b : Nat) : List PyData → Prop
  | [] => True
  | d :: ds => Wide b d ∧ WideL b ds
end
theorem wideL_iff {b : Nat} : ∀ {ds : List PyData}, WideL b ds ↔ ∀ d ∈ ds, Wide b d
  | [] => ⟨fun _ d h => absurd h List.not_mem_nil, fun _ => trivial⟩
  | d :: ds => by
    rw [WideL, wideL_iff, List.forall_mem_cons]
mutual
theorem Wide.mono {b c : Nat} (h : b ≤ c) : ∀ {d : PyData}, Wide b d → Wide c d
  | .tuple ds, w => ⟨Nat.le_trans w.1 h, WideL.mono h w.2⟩
  | .none, _ => trivial
  | .bool _, _ => trivial
  | .int _, _ => trivial
  | .str _, _ => trivial
  | .list _, _ => trivial
  | .dict _, _ => trivial
theorem WideL.mono {b c : Nat} (h : b ≤ c) : ∀ {ds : List PyData}, WideL b ds → WideL c ds
  | [], _ => trivial
  | d :: ds, w => ⟨Wide.mono h w.1, WideL.mono h w.2⟩
end
theorem Wide.at {b : Nat} {ds : List PyData} (w : Wide b (.tuple ds)) {d : PyData} (h : d ∈ ds) : Wide b d := wideL_iff.mp w.2 d h
theorem Wide.of {b : Nat} {ds : List PyData} (h : ds.length ≤ b) (w : ∀ d ∈ ds, Wide b d) : Wide b (.tuple ds) := ⟨h, wideL_iff.mpr w⟩
theorem Rep.but {N M : Addr → Prop} {b g : Addr} {H H' : Hp} {d : PyData} {x : V} (h : Rep N H d x) (hb : BagAt H b g) (t : But b g H H') (hN : ∀ a, N a → a ≠ b ∧ a ≠ g) (hM : ∀ a, N a → M a) : Rep M H' d x :=
  h.keep (fun a kvs e => t.keep hb e fun _ z => by cases z) (fun a xs e => t.keep hb e fun _ z => by cases z) fun a xs na e => ⟨hM a na, t a _ (hN a na).1 (hN a na).2 e⟩
theorem RepL.but {N M : Addr → Prop} {b g : Addr} {H H' : Hp} {ds : List PyData} {xs : List V} (h : RepL N H ds xs) (hb : BagAt H b g) (t : But b g H H') (hN : ∀ a, N a → a ≠ b ∧ a ≠ g) (hM : ∀ a, N a → M a) : RepL M H' ds xs :=
  h.keep (fun a kvs e => t.keep hb e fun _ z => by cases z) (fun a xs e => t.keep hb e fun _ z => by cases z) fun a xs na e => ⟨hM a na, t a _ (hN a na).1 (hN a na).2 e⟩
theorem Rep.all {N M : Addr → Prop} {H : Hp} {d : PyData} {x : V} (h : Rep N H d x) (hM : ∀ a, N a → M a) : Rep M H d x := h.keep (fun _ _ e => e) (fun _ _ e => e) fun _ _ na e => ⟨hM _ na, e⟩
end Hn

set_option maxHeartbeats 4000000
/-! t[::-1] of a tuple -/
namespace Hn
open PySem PySem.Spec PyProof.Rows L2 EF
open PySem.W (Frag keepIn)
section
variable {P : Program} {w : World} {A : Around} {E : Value → Shared → Prop} {z : Shared}
/-- the places of [::-1]: from the last one down -/
theorem places_back (n : Nat) : Builtin.Slice.slicePlaces ((n : Int) - 1) (-1) (-1) = n := by
  unfold Builtin.Slice.slicePlaces
  rw [if_neg (show ¬ (-1 : Int) > 0 by decide), show (- -1 : Int) = 1 by decide]
  split
  · rw [Int.ediv_one]
    omega
  · omega
theorem applied_back {sl : Addr} {a b c : Value} {n : Nat} {Q : Int × Int × Nat → Shared → Prop} (hs : z.heap.IsSliceOf sl a b c) (ha : IsPart a none) (hb : IsPart b none) (hc : IsPart c (some (-1)))
    (h : Q ((n : Int) - 1, -1, n) z) : wpAny (model P w) A (Builtin.Slice.sliceApplied (.ref sl) (pure (n : Int))) Q E z := by
  obtain ⟨_, g, _, d⟩ := hs
  rw [← places_back n] at h
  unfold Builtin.Slice.sliceApplied Builtin.Slice.sliceFields
  have tail : wpAny (model P w) A (pure ((n : Int) - 1, (-1 : Int), Builtin.Slice.slicePlaces ((n : Int) - 1) (-1) (-1))) Q E z := wpAny_pure (by
    rw [places_back n] at h ⊢
    exact h)
  refine wpAny_bind (wpAny_bind (wpAny_field g d (x := a) rfl (wpAny_bind (wpAny_field g d (x := b) rfl (wpAny_bind (wpAny_field g d (x := c) rfl (wpAny_pure (wpAny_bind (HT.slicePart_ hc ?_)))))))))
  show wpAny _ _ (if ((-1 : Int) == 0) = true then _ else _) _ _ z
  rw [if_neg (by decide)]
  exact wpAny_bind (HT.slicePart_ ha (wpAny_bind (HT.slicePart_ hb (wpAny_bind (wpAny_pure tail)))))
theorem picked_back (xs : Array Value) : ((List.range xs.size).filterMap fun (k : Nat) => xs[(((xs.size : Int) - 1) + (k : Int) * (-1)).toNat]?).toArray = xs.toList.reverse.toArray := by
  have one : ∀ k : Nat, (((xs.size : Int) - 1) + (k : Int) * (-1)).toNat = xs.size - 1 - k := fun k => by omega
  simp only [one]
  rw [← PySem.W.krv_all xs, ← List.filterMap_reverse, ← PySem.W.krv_range, List.filterMap_map]
  rfl
theorem got_back {t sl : Addr} {its : Array Value} {a b c : Value} {Q : Value → Shared → Prop} (ht : IsTup z.heap t its) (hs : z.heap.IsSliceOf sl a b c) (ha : IsPart a none) (hb : IsPart b none) (hc : IsPart c (some (-1))) (lt : its.size ≤ sizeLine)
    (h : Q (.ref z.heap.objs.size) { z with heap := z.heap.push { cls := .type "tuple", data := .seq its.toList.reverse.toArray } }) : wpAny (model P w) A (getItem (.ref t) (.ref sl)) Q E z := by
  have room : sizeOk (.seq its.toList.reverse.toArray) := (show its.toList.reverse.toArray.size ≤ sizeLine by simpa using lt)
  have isS : z.TypeIs (.ref sl) "slice" := by
    obtain ⟨o, g, k, _⟩ := hs
    exact ⟨o, g, k⟩
  have none' : ¬ ((((its.size : Int) - 1) == 0 && (-1 : Int) == 1 && its.size == its.size) = true) := by simp
  unfold getItem
  with_reducible refine wpAny_holding ?_
  first | refine wpAny_bind (wpAny_pure (wpAny_bind (wpAny_sequenceKey ht.typeIs (by decide) ?_))) | refine wpAny_bind (wpAny_sequenceKey ht.typeIs (by decide) ?_)
  refine wpAny_bind (wpAny_callSpecial?_slot (name := Str.ofString "__getitem__") ht.typeIs slot_tuple_getitem (wpAny_call_entry slot_tuple_getitem ht.typeIs entry_tuple_getitem ?_ (args_tuple_getitem _ _)))
  show wpAny _ _ (Builtin.Tuple.tupleItemsOf (.ref t) >>= _) _ _ z
  refine wpAny_bind (tupleItemsOf_ ht (wpAny_bind (wpAny_typeOf isS ?_)))
  rw [if_pos (by decide)]
  refine wpAny_bind (applied_back hs ha hb hc ?_)
  show wpAny _ _ (if (((its.size : Int) - 1) == 0 && (-1 : Int) == 1 && its.size == its.size) = true then _ else _) _ _ z
  rw [if_neg none', picked_back]
  first
    | exact wpAny_bind (m := Builtin.Tuple.tupleExact _) (wpAny_newObj_type (wpAny_pure ⟨_, rfl, wpAny_pure h⟩) room)
    | exact wpAny_bind (wpAny_bind (m := Builtin.Tuple.tupleExact _) (wpAny_newObj_type (wpAny_pure (wpAny_pure ⟨_, rfl, wpAny_pure h⟩)) room))
    | exact wpAny_bind (wpAny_bind (m := Builtin.Tuple.tupleExact _) (wpAny_newObj_type (wpAny_pure ⟨_, rfl, wpAny_pure h⟩) room))
    | exact wpAny_bind (m := Builtin.Tuple.tupleExact _) (wpAny_newObj_type (wpAny_bind (wpAny_pure (wpAny_pure ⟨_, rfl, wpAny_pure h⟩))) room)
end
def tRevT (K : PySem.W.Frag) (te : TE) : TE := fun σ H Q => te σ H fun x H1 => ∃ a xs, x = .ref a ∧ SqT K H1 a xs ∧ ∀ p, H1 p = none → Q (.ref p) (upd H1 p (.tup xs.reverse))
theorem pe_revT {X : Cx} {e : Expr} {te : TE} {k : Nat} {p1 p2 p3 pos : Pos} (he : PE X e te) : PE X (.Subscript e (.Slice none none (some (.UnaryOp .USub (.Constant (.int 1) k p1) p2)) p3) pos) (tRevT X.K te) := by
  have less : PO X (some (.UnaryOp .USub (.Constant (.int 1) k p1) p2)) (tPart (tUn (rU fun i => .int (-i)) (tC (.int 1)))) := po_some (pe_un un_neg pe_int)
  constructor
  intro pins s σ H Q I h
  refine Subscript_ (thn (he.run pins s σ H _ I h) ?_)
  rintro v s1 ⟨_, H1, I1, r1, a, xs, rfl, hx, q⟩
  cases r1
  refine wpAny_Slice (thn (po_none.run pins s1 σ H1 (fun o G => o = none ∧ G = H1) I1 ⟨rfl, rfl⟩) ?_)
  rintro va s2 ⟨_, G1, I2, pa, rfl, rfl⟩
  refine thn (po_none.run pins s2 σ _ (fun o G => o = none ∧ G = G1) I2 ⟨rfl, rfl⟩) ?_
  rintro vb s3 ⟨_, G2, I3, pb, rfl, rfl⟩
  refine thn (less.run pins s3 σ _ (fun o G => o = some (-1) ∧ G = G2) I3 ⟨1, rfl, -1, rfl, rfl, rfl⟩) ?_
  rintro vc s4 ⟨_, G3, I4, pc, rfl, rfl⟩
  have I5 : Inv X pins σ G3 { s4 with heap := s4.heap.push { cls := .type "slice", data := .fields #[va, vb, vc] } } := I4.kept (t' := s4.toks) fun _ _ g => Heap.get?_push_of_some _ g
  obtain ⟨its, r, ht, hz⟩ := I5.tuple hx
  have le : its.toArray.size ≤ sizeLine := by
    rw [List.size_toArray, ← r.length]
    exact hz
  show wpAny (model X.prog X.w) X.A (subscriptTail e (.Slice none none (some (.UnaryOp .USub (.Constant (.int 1) k p1) p2)) p3) (.ref a) (.ref s4.heap.objs.size)) (EP X pins σ Q) X.xe { s4 with heap := s4.heap.push { cls := .type "slice", data := .fields #[va, vb, vc] } }
  refine tail_any (ops := [.ref a, .ref s4.heap.objs.size]) ht.typeIs slot_tuple_getitem.lookup (got_back ht (Heap.IsSliceOf.new _ va vb vc) pa pb pc le ?_) (by with_unfolding_all rfl)
  have fit : xs.reverse.length ≤ sizeLine := by
    rw [List.length_reverse]
    exact hz
  exact ⟨.ref _, _, I5.laid (t' := s4.toks) (o := .tup xs.reverse) (fun _ _ g => Heap.get?_push_of_some _ g) (Nat.le_refl _) ⟨fit, _, r.reverse, IsTup.new _ _⟩, rfl, q _ (I5.hok.fresh (Nat.le_refl _))⟩
end Hn

set_option maxHeartbeats 4000000
/-! cutting a block behind a statement; enumerate(list) in a comprehension; a list of own lists beside a bag -/
namespace Hn
open PySem PySem.Spec PyProof.Rows L2 EF
open PySem.W (Frag keepIn)
/-- what follows a statement is shown once, from what P tells -/
theorem cutS {a b : TS} {D : Ends} {σ : L2.St} {H : Hp} (P : L2.St → Hp → Prop) (hb : ∀ σ H, P σ H → b D σ H) (ha : (∀ σ H, P σ H → b D σ H) → tSeq a b D σ H) : tSeq a b D σ H := ha hb
theorem lc_enumL {K : Frag} {a : Addr} {xs : List V} {g : TG} {tt : TT} {te : TE} {vs : List Nat} {σ : L2.St} {H1 : Hp} {D : Addr} {Qd : Hp → Prop} (Pv : Nat → Hp → Prop) (h0 : Pv 0 (upd H1 D (.lst [])))
    (hq : ∀ i H, Pv i H → SqL K H a xs)
    (hs : ∀ i x T H, xs[i]? = some x → Pv i H → H T = none → g (.ref T) (wipe σ vs) (upd H T (.tup [.int (i : Nat), x])) fun σ2 H2 => wipe σ2 vs = wipe σ vs ∧ tt σ2 H2 fun c H3 =>
      if c = true then te σ2 H3 fun z H4 => ∃ acc, H4 D = some (.lst acc) ∧ acc.length < sizeLine ∧ Pv (i + 1) (upd H4 D (.lst (acc ++ [z]))) else Pv (i + 1) H3) (hd : ∀ H, Pv xs.length H → Qd H) :
    ∃ W : Nat → Nat → Hp → Prop, (∃ m, W 0 m (upd H1 D (.lst []))) ∧ ∀ i m H, W i m H →
      ((Ite K a).stop i H ∧ Qd H) ∨ ((Ite K a).go i H ∧ ∃ Nx : Hp → Prop, (∀ H', Nx H' → ∃ m', m' < m ∧ W (i + 1) m' H') ∧ ∀ x H', (Ite K a).yld i H x H' → g x (wipe σ vs) H' fun σ2 H2 => wipe σ2 vs = wipe σ vs ∧ tt σ2 H2 fun c H3 =>
        if c = true then te σ2 H3 fun y H4 => ∃ acc, H4 D = some (.lst acc) ∧ acc.length < sizeLine ∧ Nx (upd H4 D (.lst (acc ++ [y]))) else Nx H3) := by
  refine ⟨fun i m H => m = xs.length - i ∧ i ≤ xs.length ∧ Pv i H, ⟨xs.length, rfl, Nat.zero_le _, h0⟩, ?_⟩
  rintro i m H ⟨rfl, hi, p⟩
  have q1 := hq i H p
  rcases Nat.lt_or_ge i xs.length with h | h
  · have e1 : xs[i]? = some xs[i] := List.getElem?_eq_getElem h
    refine .inr ⟨⟨xs, _, q1, e1⟩, Pv (i + 1), fun H' z => ⟨xs.length - (i + 1), by omega, rfl, h, z⟩, ?_⟩
    rintro x H' hy
    obtain ⟨T, x1, rfl, nT, rfl, f1⟩ := hy
    exact hs i x1 T H (f1 _ q1) p nT
  · obtain rfl : i = xs.length := by omega
    exact .inl ⟨⟨xs, q1, Nat.le_refl _⟩, hd H p⟩
theorem But.new {b g p : Addr} {H : Hp} {o : HO} (n : H p = none) : But b g H (upd H p o) := .of (same_new n)
theorem But.mut {b g p : Addr} {H H' : Hp} {o : HO} (t : But b g H H') (n : H p = none) : But b g H (upd H' p o) := fun a x h1 h2 e => by
  rw [upd_ne (ne_of_none e n)]
  exact t a x h1 h2 e
theorem But.none {b g a : Addr} {H H' : Hp} (t : But b g H H') (h : BagAt H' b g) (n : H' a = none) : H a = none := by
  obtain ⟨n1, n2⟩ := h.ne n
  cases z : H a with
  | none => rfl
  | some o =>
    rw [t a o n1 n2 z] at n
    cases n
theorem BagAt.mut {b g p : Addr} {H : Hp} {o : HO} (h : BagAt H b g) (n1 : p ≠ b) (n2 : p ≠ g) : BagAt (upd H p o) b g := by
  obtain ⟨n, s, c, gs, al, h1, h2, r⟩ := h
  exact ⟨n, s, c, gs, al, by rw [upd_ne (Ne.symm n1)]; exact h1, by rw [upd_ne (Ne.symm n2)]; exact h2, r⟩
theorem lst_ne {H : Hp} {a p : Addr} {o : HO} (h : H a = some o) (n : H p = Option.none) : a ≠ p := fun z => by
  rw [z, n] at h
  cases h
/-- c is a new list of new lists of ints, beside the bag -/
structure Cards (H0 H : Hp) (b g c : Addr) (rows : List (List Int)) : Prop where
  bt : But b g H0 H
  bag : BagAt H b g
  nc : H0 c = none
  cb : c ≠ b
  cg : c ≠ g
  qs : ∃ qs : List Addr, H c = some (.lst (qs.map V.ref)) ∧ qs.length = rows.length ∧ (∀ q ∈ qs, H0 q = none ∧ q ≠ c ∧ q ≠ b ∧ q ≠ g) ∧
    ∀ (i : Nat) (q : Addr) (r : List Int), qs[i]? = some q → rows[i]? = some r → H q = some (.lst (r.map V.int))
section
variable {H0 H H' : Hp} {b g c p : Addr} {rows : List (List Int)}
theorem Cards.nil (bt : But b g H0 H) (h : BagAt H b g) (n : H c = none) : Cards H0 (upd H c (.lst [])) b g c [] :=
  ⟨bt.trans (.new n), h.same (same_new n), bt.none h n, (h.ne n).1, (h.ne n).2, [], upd_same, rfl, fun q h => absurd h List.not_mem_nil, fun i q r e => by simp at e⟩
theorem Cards.but (k : Cards H0 H b g c rows) (t : But b g H H') (h : BagAt H' b g) : Cards H0 H' b g c rows := by
  obtain ⟨bt, bag, nc, cb, cg, qs, h1, h2, h3, h4⟩ := k
  refine ⟨bt.trans t, h, nc, cb, cg, qs, t _ _ cb cg h1, h2, h3, fun i q r e1 e2 => ?_⟩
  obtain ⟨_, _, n1, n2⟩ := h3 q (List.mem_of_getElem? e1)
  exact t _ _ n1 n2 (h4 i q r e1 e2)
theorem Cards.same (k : Cards H0 H b g c rows) (t : Same H H') : Cards H0 H' b g c rows := k.but (.of t) (k.bag.same t)
/-- what is not within may be changed -/
theorem Cards.mut (k : Cards H0 H b g c rows) {o : HO} (hp : H0 p = none) (n1 : p ≠ b) (n2 : p ≠ g) (n3 : p ≠ c) (n4 : ∀ qs : List Addr, H c = some (.lst (qs.map V.ref)) → p ∉ qs) : Cards H0 (upd H p o) b g c rows := by
  obtain ⟨bt, bag, nc, cb, cg, qs, h1, h2, h3, h4⟩ := k
  refine ⟨bt.mut hp, bag.mut n1 n2, nc, cb, cg, qs, by rw [upd_ne (Ne.symm n3)]; exact h1, h2, h3, fun i q r e1 e2 => ?_⟩
  have nq : q ≠ p := fun z => n4 qs h1 (by rw [← z]; exact List.mem_of_getElem? e1)
  rw [upd_ne nq]
  exact h4 i q r e1 e2
/-- one more row, a list at p -/
theorem Cards.push (k : Cards H0 H b g c rows) {r : List Int} (hp : H p = some (.lst (r.map V.int))) (n0 : H0 p = none) (n1 : p ≠ b) (n2 : p ≠ g) (n3 : p ≠ c) : ∃ acc, H c = some (.lst acc) ∧ acc.length = rows.length ∧ Cards H0 (upd H c (.lst (acc ++ [.ref p]))) b g c (rows ++ [r]) := by
  obtain ⟨bt, bag, nc, cb, cg, qs, h1, h2, h3, h4⟩ := k
  refine ⟨_, h1, by rw [List.length_map]; exact h2, bt.mut nc, bag.mut cb cg, nc, cb, cg, qs ++ [p], by rw [upd_same, List.map_append]; rfl, by rw [List.length_append, List.length_append, h2]; rfl, fun q hq => ?_, fun i q r' e1 e2 => ?_⟩
  · rcases List.mem_append.mp hq with z | z
    · exact h3 q z
    · rw [List.mem_singleton.mp z]
      exact ⟨n0, n3, n1, n2⟩
  · rw [List.getElem?_append] at e1 e2
    rw [h2] at e1
    split at e1
    · rename_i hi
      rw [if_pos hi] at e2
      have := (h3 q (List.mem_of_getElem? e1)).2.1
      rw [upd_ne this]
      exact h4 i q r' e1 e2
    · rename_i hi
      rw [if_neg hi] at e2
      have e3 := List.mem_singleton.mp (List.mem_of_getElem? e1)
      have e4 := List.mem_singleton.mp (List.mem_of_getElem? e2)
      rw [e3, e4, upd_ne n3]
      exact hp
theorem Cards.row (k : Cards H0 H b g c rows) {i : Nat} {r : List Int} (e : rows[i]? = some r) : ∃ xs q, H c = some (.lst xs) ∧ xs.length = rows.length ∧ xs[i]? = some (.ref q) ∧ H q = some (.lst (r.map V.int)) ∧ H0 q = none ∧ q ≠ c ∧ q ≠ b ∧ q ≠ g := by
  obtain ⟨bt, bag, nc, cb, cg, qs, h1, h2, h3, h4⟩ := k
  have hi : i < rows.length := (List.getElem?_eq_some_iff.mp e).1
  have e1 : qs[i]? = some (qs[i]'(by omega)) := List.getElem?_eq_getElem (by omega)
  have z := h3 _ (List.mem_of_getElem? e1)
  exact ⟨_, _, h1, by rw [List.length_map]; exact h2, by rw [List.getElem?_map, e1]; rfl, h4 i _ r e1 e, z.1, z.2.1, z.2.2.1, z.2.2.2⟩
theorem Cards.list (k : Cards H0 H b g c rows) : ∃ qs : List Addr, H c = some (.lst (qs.map V.ref)) ∧ qs.length = rows.length := by
  obtain ⟨bt, bag, nc, cb, cg, qs, h1, h2, h3, h4⟩ := k
  exact ⟨qs, h1, h2⟩
end
/-- beside the cards stands something at p -/
structure Side (H0 H : Hp) (b g c : Addr) (rows : List (List Int)) (p : Addr) : Prop where
  k : Cards H0 H b g c rows
  n0 : H0 p = none
  pb : p ≠ b
  pg : p ≠ g
  pc : p ≠ c
  off : ∀ qs : List Addr, H c = some (.lst (qs.map V.ref)) → p ∉ qs
section
variable {H0 H H' : Hp} {b g c p : Addr} {rows : List (List Int)}
theorem Cards.off (k : Cards H0 H b g c rows) (n : H p = none) : p ≠ b ∧ p ≠ g ∧ p ≠ c ∧ ∀ qs : List Addr, H c = some (.lst (qs.map V.ref)) → p ∉ qs := by
  obtain ⟨bt, bag, nc, cb, cg, qs, h1, h2, h3, h4⟩ := k
  refine ⟨(bag.ne n).1, (bag.ne n).2, Ne.symm (lst_ne h1 n), fun qs' e hp => ?_⟩
  have e2 := HO.lst.inj (Option.some.inj (e.symm.trans h1))
  have e3 : qs' = qs := (List.map_inj_right (fun _ _ z => V.ref.inj z)).mp e2
  rw [e3] at hp
  obtain ⟨j, hj, e4⟩ := List.getElem_of_mem hp
  have e5 := h4 j p (rows[j]'(by omega)) (by rw [← e4]; exact List.getElem?_eq_getElem hj) (List.getElem?_eq_getElem (by omega))
  rw [n] at e5
  cases e5
theorem Side.new {o : HO} (k : Cards H0 H b g c rows) (n : H p = none) : Side H0 (upd H p o) b g c rows p := by
  obtain ⟨h1, h2, h3, h4⟩ := k.off n
  exact ⟨k.same (same_new n), k.bt.none k.bag n, h1, h2, h3, fun qs e => h4 qs (by rw [upd_ne (Ne.symm h3)] at e; exact e)⟩
theorem Side.but (s : Side H0 H b g c rows p) (t : But b g H H') (h : BagAt H' b g) : Side H0 H' b g c rows p := by
  refine ⟨s.k.but t h, s.n0, s.pb, s.pg, s.pc, fun qs e => ?_⟩
  obtain ⟨qs', h1, _⟩ := s.k.list
  have e2 := HO.lst.inj (Option.some.inj (e.symm.trans (t _ _ s.k.cb s.k.cg h1)))
  have e3 : qs = qs' := (List.map_inj_right (fun _ _ z => V.ref.inj z)).mp e2
  rw [e3]
  exact s.off qs' h1
theorem Side.same (s : Side H0 H b g c rows p) (t : Same H H') : Side H0 H' b g c rows p := s.but (.of t) (s.k.bag.same t)
theorem Side.set {o : HO} (s : Side H0 H b g c rows p) : Side H0 (upd H p o) b g c rows p :=
  ⟨s.k.mut s.n0 s.pb s.pg s.pc s.off, s.n0, s.pb, s.pg, s.pc, fun qs e => s.off qs (by rw [upd_ne (Ne.symm s.pc)] at e; exact e)⟩
theorem Side.push (s : Side H0 H b g c rows p) {r : List Int} (hp : H p = some (.lst (r.map V.int))) : ∃ acc, H c = some (.lst acc) ∧ acc.length = rows.length ∧ Cards H0 (upd H c (.lst (acc ++ [.ref p]))) b g c (rows ++ [r]) := s.k.push hp s.n0 s.pb s.pg s.pc
end
/-- a row of a web's: of person i of n -/
def GoodRow (n i : Nat) (r : List Int) : Prop := r.Pairwise (· < ·) ∧ (∀ w ∈ r, 0 ≤ w ∧ w < (n : Int)) ∧ (i : Int) ∉ r
def GoodRows (n : Nat) (rows : List (List Int)) : Prop := ∀ (i : Nat) (r : List Int), rows[i]? = some r → GoodRow n i r
theorem GoodRow.nil {n i : Nat} : GoodRow n i [] := ⟨.nil, fun _ h => absurd h List.not_mem_nil, List.not_mem_nil⟩
theorem GoodRows.snoc {n : Nat} {rows : List (List Int)} {r : List Int} (h : GoodRows n rows) (k : GoodRow n rows.length r) : GoodRows n (rows ++ [r]) := fun i r' e => by
  rw [List.getElem?_append] at e
  split at e
  · exact h i r' e
  · rename_i hi
    have e4 := List.mem_singleton.mp (List.mem_of_getElem? e)
    have e5 : i - rows.length < 1 := (List.getElem?_eq_some_iff.mp e).1
    have e6 : i = rows.length := by omega
    rw [e4, e6]
    exact k
theorem GoodRow.few {n i : Nat} {r : List Int} (h : GoodRow n i r) : r.length ≤ n := few_below (h.1.imp fun z => Int.ne_of_lt z) h.2.1
end Hn

set_option maxHeartbeats 4000000
/-! things of any kind beside a bag -/
namespace Hn
open PySem PySem.Spec PyProof.Rows L2 EF
open PySem.W (Frag keepIn)
/-- x is some datum beside the bag, none of its tuples long -/
def Odd (b g : Addr) (H : Hp) (x : V) : Prop := ∃ d, Rep (fun a => a ≠ b ∧ a ≠ g) H d x ∧ Wide 10 d
def Odds (b g : Addr) (H : Hp) (xs : List V) : Prop := ∀ x ∈ xs, Odd b g H x
section
variable {b g : Addr} {H H' : Hp}
theorem Odd.same {x : V} (o : Odd b g H x) (s : Same H H') : Odd b g H' x := by
  obtain ⟨d, r, w⟩ := o
  exact ⟨d, r.same s, w⟩
theorem Odd.but {x : V} (o : Odd b g H x) (hb : BagAt H b g) (t : But b g H H') : Odd b g H' x := by
  obtain ⟨d, r, w⟩ := o
  exact ⟨d, r.but hb t (fun _ h => h) (fun _ h => h), w⟩
theorem Odd.int (i : Int) : Odd b g H (.int i) := ⟨.int i, rfl, trivial⟩
theorem Odd.bl (k : Bool) : Odd b g H (.bl k) := ⟨.bool k, rfl, trivial⟩
theorem Odd.non : Odd b g H .non := ⟨.none, rfl, trivial⟩
theorem Odd.str (x : Str) : Odd b g H (.str x) := ⟨.str x, rfl, trivial⟩
theorem Odds.nil : Odds b g H [] := fun x h => absurd h List.not_mem_nil
theorem Odds.cons {x : V} {xs : List V} (o : Odd b g H x) (os : Odds b g H xs) : Odds b g H (x :: xs) := fun y h => by
  rcases List.mem_cons.mp h with rfl | h
  · exact o
  · exact os y h
theorem Odds.same {xs : List V} (o : Odds b g H xs) (s : Same H H') : Odds b g H' xs := fun x h => (o x h).same s
theorem Odds.but {xs : List V} (o : Odds b g H xs) (hb : BagAt H b g) (t : But b g H H') : Odds b g H' xs := fun x h => (o x h).but hb t
theorem Odds.app {xs ys : List V} (o : Odds b g H xs) (p : Odds b g H ys) : Odds b g H (xs ++ ys) := fun x h => (List.mem_append.mp h).elim (o x) (p x)
theorem Odds.one {x : V} (o : Odd b g H x) : Odds b g H [x] := .cons o .nil
theorem Odds.reps : ∀ {xs : List V}, Odds b g H xs → ∃ ds, RepL (fun a => a ≠ b ∧ a ≠ g) H ds xs ∧ ∀ d ∈ ds, Wide 10 d
  | [], _ => ⟨[], rfl, fun d h => absurd h List.not_mem_nil⟩
  | x :: xs, o => by
    obtain ⟨d, r, w⟩ := o x List.mem_cons_self
    obtain ⟨ds, rs, ws⟩ := Odds.reps (xs := xs) fun y h => o y (List.mem_cons_of_mem _ h)
    refine ⟨d :: ds, ⟨x, xs, rfl, r, rs⟩, fun e h => ?_⟩
    rcases List.mem_cons.mp h with rfl | h
    · exact w
    · exact ws e h
theorem Odd.tup {p : Addr} {xs : List V} (h : H p = some (.tup xs)) (l : xs.length ≤ 10) (os : Odds b g H xs) : Odd b g H (.ref p) := by
  obtain ⟨ds, rs, ws⟩ := os.reps
  exact ⟨.tuple ds, ⟨p, xs, rfl, h, rs⟩, .of (by rw [← rs.length]; exact l) ws⟩
theorem Odd.lst {p : Addr} {xs : List V} (h : H p = some (.lst xs)) (n : p ≠ b ∧ p ≠ g) (os : Odds b g H xs) : Odd b g H (.ref p) := by
  obtain ⟨ds, rs, ws⟩ := os.reps
  exact ⟨.list ds, ⟨p, xs, rfl, n, h, rs⟩, trivial⟩
theorem Odd.dic {p : Addr} {kvs : List (Key × V)} (h : H p = some (.dK kvs)) : Odd b g H (.ref p) := ⟨.dict [], ⟨p, kvs, rfl, h⟩, trivial⟩
/-- each list or tuple that is made adds to what there is -/
theorem Odds.addT {p : Addr} {xs acc : List V} (hb : BagAt H b g) (n : H p = none) (l : xs.length ≤ 10) (os : Odds b g H xs) (a : Odds b g H acc) : Same H (upd H p (.tup xs)) ∧ BagAt (upd H p (.tup xs)) b g ∧ Odds b g (upd H p (.tup xs)) (.ref p :: acc) :=
  have s := same_new (o := .tup xs) n
  ⟨s, hb.same s, .cons (.tup upd_same l (os.same s)) (a.same s)⟩
theorem Odds.addL {p : Addr} {xs acc : List V} (hb : BagAt H b g) (n : H p = none) (os : Odds b g H xs) (a : Odds b g H acc) : Same H (upd H p (.lst xs)) ∧ BagAt (upd H p (.lst xs)) b g ∧ Odds b g (upd H p (.lst xs)) (.ref p :: acc) :=
  have s := same_new (o := .lst xs) n
  ⟨s, hb.same s, .cons (.lst upd_same (hb.ne n) (os.same s)) (a.same s)⟩
theorem Odds.addD {p : Addr} {kvs : List (Key × V)} {acc : List V} (hb : BagAt H b g) (n : H p = none) (a : Odds b g H acc) : Same H (upd H p (.dK kvs)) ∧ BagAt (upd H p (.dK kvs)) b g ∧ Odds b g (upd H p (.dK kvs)) (.ref p :: acc) :=
  have s := same_new (o := .dK kvs) n
  ⟨s, hb.same s, .cons (.dic upd_same) (a.same s)⟩
end
theorem Wide.fit {n : Nat} {d : PyData} (w : Wide n d) (h : n ≤ 1000) : match d with | .tuple ps => ps.length ≤ 1000 ∧ ∀ p ∈ ps, (match p with | .tuple ds => ds.length ≤ 1000 | _ => True) | _ => True := by
  cases d with
  | tuple ps =>
    refine ⟨Nat.le_trans w.1 h, fun p hp => ?_⟩
    have z := w.at hp
    cases p with
    | tuple es => exact Nat.le_trans z.1 h
    | _ => trivial
  | _ => trivial
theorem flat_rep {x : V} : ∀ n : Nat, (List.replicate n [x]).flatten = List.replicate n x
  | 0 => rfl
  | n + 1 => by rw [List.replicate_succ, List.flatten_cons, flat_rep n]; rfl
end Hn

set_option maxHeartbeats 4000000
/-! sorted of a list of data of any kind -/
namespace Hn
open PySem PySem.Spec PyProof.Rows L2 EF
open PySem.W (Frag keepIn)
theorem each_vals {P : List (V × PyData)} : ∀ {vs : List Value}, Vals (P.map (·.1)) vs → W.EachIs (fun v p => RelV p.1 v) vs P := by
  induction P with
  | nil =>
    intro vs h
    cases h
    exact .nil
  | cons p P ih =>
    intro vs h
    cases h with
    | cons r t => exact .cons r (ih t)
theorem vals_each {P : List (V × PyData)} : ∀ {vs : List Value}, W.EachIs (fun v p => RelV p.1 v) vs P → Vals (P.map (·.1)) vs := by
  induction P with
  | nil =>
    intro vs h
    cases h
    exact .nil
  | cons p P ih =>
    intro vs h
    cases h with
    | cons r t => exact .cons r (ih t)
def rSortLD (K : Frag) : List V → Hp → VK → Prop := fun vs H Q => ∃ (a : Addr) (L : List (V × PyData)), vs = [.ref a] ∧ SqL K H a (L.map (·.1)) ∧ (∀ p ∈ L, Dp K H p.1 p.2) ∧ W.AllAlike (L.map (·.2)) ∧ W.Sortable (L.map (·.2)) ∧ (∀ p ∈ L, p.2.depth ≤ 7) ∧
  ∀ (L' : List (V × PyData)) (p : Addr), L'.Perm L → L'.Pairwise (fun p q => W.dataLe false (fun p : V × PyData => p.2) p q = true) → H p = none → Q (.ref p) (upd H p (.lst (L'.map (·.1))))
theorem sortLD {X : Cx} {K : Frag} (e1 : X.K = K) (hu : X.A.units + 10 < cLine) : CallR X (.builtin "sorted") (rSortLD K) := by
  subst e1
  rintro pins s σ H vs us Q I r ⟨a, L, rfl, hs, hd, al, so, dp, q⟩
  obtain ⟨its, rv, hl, hz⟩ := I.list hs
  rw [Vals.ref1 r]
  have e := each_vals rv
  rw [List.length_map] at hz
  have er : W.EachIs (fun v p => ∃ as, Reads s.heap v ((fun p : V × PyData => p.2) p) as) its L := by
    clear q hl hs al so dp hz r
    have z : ∀ p ∈ L, ∀ u, RelV p.1 u → ∃ as, Reads s.heap u p.2 as := fun p hp u ru => Dp.reads I p.2 p.1 u (hd p hp) ru
    clear hd rv
    induction e with
    | nil => exact .nil
    | cons r t ih => exact .cons (z _ List.mem_cons_self _ r) (ih fun p hp => z p (List.mem_cons_of_mem _ hp))
  refine W.sorted_data (R := fun v p => RelV p.1 v) (enc := fun p : V × PyData => p.2) hl.isList e er al so hz (fun p hp => ?_) fun out ho hE => ?_
  · have := dp p hp
    omega
  · obtain ⟨c, hc⟩ := PyProof.Rows.sortedAll_at s.heap its out.toArray
    have pm : (L.mergeSort (W.dataLe false fun p : V × PyData => p.2)).Perm L := List.mergeSort_perm _ _
    have hlen : ((L.mergeSort (W.dataLe false fun p : V × PyData => p.2)).map (·.1)).length ≤ sizeLine := by
      rw [List.length_map, pm.length_eq]
      exact hz
    refine ⟨.ref _, upd H (s.heap.objs.size + 1) (.lst ((L.mergeSort (W.dataLe false fun p : V × PyData => p.2)).map (·.1))), I.laid (t' := s.toks) (fun _ _ => PyProof.Rows.sortedAll_old) (Nat.le_succ _) ⟨hlen, out, c, vals_each hE, hc⟩, rfl, q _ _ pm (W.sort_pairwise (W.sortLe_total _ _ _) L) (I.hok.fresh (Nat.le_succ _))⟩
/-- of int tuples, none of them empty -/
theorem alike_tups {L : List (V × PyData)} (h : ∀ p ∈ L, ∃ ns : List Int, p.2 = .tuple (ns.map .int)) : W.AllAlike (L.map (·.2)) := by
  intro d hd d' hd'
  obtain ⟨p, hp, rfl⟩ := List.mem_map.mp hd
  obtain ⟨q, hq, rfl⟩ := List.mem_map.mp hd'
  obtain ⟨ns, e⟩ := h p hp
  obtain ⟨ms, e'⟩ := h q hq
  rw [e, e']
  exact W.alike_ints ns ms
theorem sortable_tups {L : List (V × PyData)} (h : ∀ p ∈ L, ∃ ns : List Int, p.2 = .tuple (ns.map .int) ∧ ns ≠ []) : W.Sortable (L.map (·.2)) := by
  refine .inl fun d hd => ?_
  obtain ⟨p, hp, rfl⟩ := List.mem_map.mp hd
  obtain ⟨ns, e, ne⟩ := h p hp
  cases ns with
  | nil => exact absurd rfl ne
  | cons x r => exact ⟨.int x, r.map .int, by rw [e]; rfl⟩
theorem le_tups {p q : V × PyData} {ns ms : List Int} (e : p.2 = .tuple (ns.map .int)) (e' : q.2 = .tuple (ms.map .int)) : W.dataLe false (fun p : V × PyData => p.2) p q = !decide (ms < ns) := by
  show (!W.dataLt q.2 p.2) = _
  rw [e, e', W.dataLt_tuple]
  congr 1
  exact W.dataLt_ints ms ns
def rSortLT (K : Frag) : List V → Hp → VK → Prop := fun vs H Q => ∃ (a : Addr) (L : List (Addr × List Int)), vs = [.ref a] ∧ SqL K H a (L.map fun p => V.ref p.1) ∧ (∀ p ∈ L, SqT K H p.1 (p.2.map V.int)) ∧ (∀ p ∈ L, p.2 ≠ []) ∧
  ∀ (L' : List (Addr × List Int)) (p : Addr), L'.Perm L → L'.Pairwise notAfter → H p = none → Q (.ref p) (upd H p (.lst (L'.map fun q => V.ref q.1)))
theorem dp_ints {K : Frag} {H : Hp} : ∀ ns : List Int, DpAll K H (ns.map V.int) (ns.map PyData.int)
  | [] => .nil
  | n :: ns => .cons (.int n) (dp_ints ns)
theorem dp_tup {K : Frag} {H : Hp} {a : Addr} {ns : List Int} (h : SqT K H a (ns.map V.int)) : Dp K H (.ref a) (.tuple (ns.map .int)) := .tup h (dp_ints ns)
theorem sortLT {X : Cx} {K : Frag} (e1 : X.K = K) (hu : X.A.units + 10 < cLine) : CallR X (.builtin "sorted") (rSortLT K) := by
  rintro pins s σ H vs us Q I r ⟨a, L, rfl, hs, hk, ne, q⟩
  have el : (L.map fun p => ((V.ref p.1, PyData.tuple (p.2.map .int)) : V × PyData)).map (·.1) = L.map fun p => V.ref p.1 := by rw [List.map_map]; rfl
  have tp : ∀ p ∈ L.map fun p => ((V.ref p.1, PyData.tuple (p.2.map .int)) : V × PyData), ∃ ns : List Int, p.2 = .tuple (ns.map .int) ∧ ns ≠ [] := fun p hp => by
    obtain ⟨z, hz, rfl⟩ := List.mem_map.mp hp
    exact ⟨z.2, rfl, ne z hz⟩
  refine sortLD e1 hu pins s σ H _ us Q I r ⟨a, L.map fun p => (V.ref p.1, .tuple (p.2.map .int)), rfl, by rw [el]; exact hs, fun p hp => ?_, alike_tups fun p hp => (tp p hp).imp fun _ z => z.1, sortable_tups tp, fun p hp => ?_, fun L1 p pm pw np => ?_⟩
  · obtain ⟨z, hz, rfl⟩ := List.mem_map.mp hp
    exact dp_tup (hk z hz)
  · obtain ⟨z, hz, rfl⟩ := List.mem_map.mp hp
    show PyData.depthAll (z.2.map PyData.int) + 1 ≤ 7
    rw [W.depth_ints]
    decide
  · let dec : V × PyData → Addr × List Int := fun p => (match p.1 with | .ref a => a | _ => 0, match p.2 with | .tuple ds => ds.map (fun d => match d with | .int i => i | _ => 0) | _ => [])
    have de : ∀ z : Addr × List Int, dec (V.ref z.1, PyData.tuple (z.2.map .int)) = z := fun z => by
      show (z.1, (z.2.map PyData.int).map _) = z
      rw [List.map_map]
      exact Prod.ext rfl (List.map_id _)
    have e2 : L1 = (L1.map dec).map fun p => ((V.ref p.1, PyData.tuple (p.2.map .int)) : V × PyData) := by
      rw [List.map_map]
      refine (List.map_id L1).symm.trans (List.map_congr_left fun p hp => ?_)
      obtain ⟨z, hz, rfl⟩ := List.mem_map.mp (pm.mem_iff.mp hp)
      show _ = (V.ref (dec (V.ref z.1, PyData.tuple (z.2.map .int))).1, PyData.tuple ((dec (V.ref z.1, PyData.tuple (z.2.map .int))).2.map .int))
      rw [de]
      rfl
    have pm2 : (L1.map dec).Perm L := by
      have z := pm.map dec
      rw [List.map_map, show (dec ∘ fun p : Addr × List Int => ((V.ref p.1, PyData.tuple (p.2.map .int)) : V × PyData)) = id from funext de, List.map_id] at z
      exact z
    have e3 : L1.map (·.1) = (L1.map dec).map fun p => V.ref p.1 := by
      conv => lhs; rw [e2]
      simp only [List.map_map]
      rfl
    rw [e3]
    refine q (L1.map dec) p pm2 ?_ np
    rw [e2] at pw
    refine (List.pairwise_map.mp pw).imp fun {a b} h => ?_
    have z := le_tups (p := (V.ref a.1, PyData.tuple (a.2.map .int))) (q := (V.ref b.1, PyData.tuple (b.2.map .int))) rfl rfl
    rw [show W.dataLe false (fun p : V × PyData => p.2) (V.ref a.1, PyData.tuple (a.2.map .int)) (V.ref b.1, PyData.tuple (b.2.map .int)) = true from h] at z
    intro lt
    rw [decide_eq_true lt] at z
    cases z
end Hn

set_option maxHeartbeats 4000000
/-! data on the heap as the library tells them, kept; tuples only -/
namespace Hn
open PySem PySem.Spec PyProof.Rows L2 EF
open PySem.W (Frag keepIn)
section
variable {K : Frag} {H H' : Hp}
theorem seqL_same' {a : Addr} {xs : List V} (e : Same H H') (h : SqL K H a xs) : SqL K H' a xs := by
  rcases h with (h | ⟨o, h⟩) | h
  · exact .inl (.inl (e _ _ h))
  · exact .inl (.inr ⟨o, e _ _ h⟩)
  · exact .inr h
mutual
theorem dp_same (s : Same H H') : ∀ {x : V} {d : PyData}, Dp K H x d → Dp K H' x d
  | _, _, .non => .non
  | _, _, .bl b => .bl b
  | _, _, .int i => .int i
  | _, _, .str x => .str x
  | _, _, .lst h k => .lst (seqL_same' s h) (dps_same s k)
  | _, _, .tup h k => .tup (s.seqT h) (dps_same s k)
theorem dps_same (s : Same H H') : ∀ {xs : List V} {ds : List PyData}, DpAll K H xs ds → DpAll K H' xs ds
  | _, _, .nil => .nil
  | _, _, .cons h k => .cons (dp_same s h) (dps_same s k)
end
theorem dps_len : ∀ {xs : List V} {ds : List PyData}, DpAll K H xs ds → xs.length = ds.length
  | _, _, .nil => rfl
  | _, _, .cons _ k => by rw [List.length_cons, List.length_cons, dps_len k]
theorem dps_get : ∀ {xs : List V} {ds : List PyData} {i : Nat} {x : V}, DpAll K H xs ds → xs[i]? = some x → ∃ d, ds[i]? = some d ∧ Dp K H x d
  | _, _, i, x, .nil, e => by cases e
  | _, _, 0, x, .cons h _, e => by
    cases e
    exact ⟨_, rfl, h⟩
  | _, _, i + 1, x, .cons _ k, e => dps_get (i := i) k e
theorem dps_of : ∀ {xs : List V} {ds : List PyData}, xs.length = ds.length → (∀ (i : Nat) (x : V) (d : PyData), xs[i]? = some x → ds[i]? = some d → Dp K H x d) → DpAll K H xs ds
  | [], [], _, _ => .nil
  | x :: xs, d :: ds, l, h => .cons (h 0 x d rfl rfl) (dps_of (by simpa using l) fun i x' d' e1 e2 => h (i + 1) x' d' e1 e2)
theorem tyT {a : Addr} {xs : List V} (h : SqT K H a xs) : TyX K H (.ref a) (.type "tuple") := by
  rcases h with (h | ⟨o, h⟩) | ⟨o, its, n, h, c, _⟩
  · exact .base (.tup h)
  · exact .fTuple h
  · exact .kTuple h c
end
/-- no list, no dict, not too deep, not too long -/
def Sml : Nat → PyData → Prop
  | 0, _ => False
  | n + 1, .tuple ds => ds.length ≤ 100 ∧ ∀ d ∈ ds, Sml n d
  | _ + 1, .list _ => False
  | _ + 1, .dict _ => False
  | _ + 1, _ => True
def spIsD (K : Frag) (n : Nat) : Sp := fun vs H Q _ => ∃ (x y : V) (d : PyData), vs = [x, y] ∧ Dp K H x d ∧ Dp K H y d ∧ Sml n d ∧ ∀ H', Same H H' → Q (.bl true) H'
/-- rows of ints as a datum -/
def rowD (r : List Int) : PyData := .tuple (r.map .int)
def gridD (rows : List (List Int)) : PyData := .tuple (rows.map rowD)
theorem sml_row {r : List Int} (h : r.length ≤ 100) (n : Nat) : Sml (n + 2) (rowD r) := ⟨by rw [List.length_map]; exact h, fun d hd => by
  obtain ⟨i, _, rfl⟩ := List.mem_map.mp hd
  trivial⟩
theorem sml_grid {rows : List (List Int)} (h : rows.length ≤ 100) (k : ∀ r ∈ rows, r.length ≤ 100) (n : Nat) : Sml (n + 3) (gridD rows) := ⟨by rw [List.length_map]; exact h, fun d hd => by
  obtain ⟨r, hr, rfl⟩ := List.mem_map.mp hd
  exact sml_row (k r hr) n⟩
end Hn

set_option maxHeartbeats 4000000
namespace Lw
open PySem PySem.Spec PyProof.Rows L2 EF Hn
open PySem.W (Frag keepIn)
def top (i : Nat) : Stmt := PySem.Challenge.pw_stillfound_k02_whole_finds_pieces_knots.main.body.getD i (.Pass ⟨0, 0, 0, 0⟩)
abbrev s_law_bag : Stmt := top 24
abbrev N_law_bag : List Str := ["script", "seed", "cell", "great", "always"]
theorem sc_law_bag : FnScope N_law_bag ["script"] (defScope s_law_bag) := ⟨rfl, rfl, rfl, by decide +kernel, rfl, by decide +kernel, by decide +kernel⟩
abbrev s_law_pick : Stmt := top 25
abbrev N_law_pick : List Str := ["bag", "many", "great", "digit", "number"]
theorem sc_law_pick : FnScope N_law_pick ["bag", "many"] (defScope s_law_pick) := ⟨rfl, rfl, rfl, by decide +kernel, rfl, by decide +kernel, by decide +kernel⟩
abbrev s_law_some : Stmt := top 26
abbrev N_law_some : List Str := ["bag", "things"]
theorem sc_law_some : FnScope N_law_some ["bag", "things"] (defScope s_law_some) := ⟨rfl, rfl, rfl, by decide +kernel, rfl, by decide +kernel, by decide +kernel⟩
section
variable {P : Program} {w : World} {K : Frag} {mg : Str → Option Value} {base : Heap}
theorem k_pick (B : Bl mg) (D : Dfn K mg "_law_pick" s_law_pick ["bag", "many"]) : Kept P w K mg base 1 "_law_pick" ["bag", "many"] spPick := by
  refine D.kept (N := N_law_pick) sc_law_pick (fun vs H Q E h => ?_) (fun f cdv A outer s H vs Q E hr h => ?_)
  · obtain ⟨b, g, m, rfl, _⟩ := h
    rfl
  obtain ⟨b, g, m, rfl, ⟨nbg, z, c, gs, al, hb, hg, hl, ha⟩, m0, m1, q⟩ := h
  refine ⟨_, (pss_cons (ps_if (pt_cmpR op_notN (pe_ix ix_list (pv 0) pe_int (fun _ _ => rfl)) pe_non (nomark _)) (pss_one (ps_ret (pe_op op_mod (pe_callTy call_int1 (by rfl) B.b_int (by decide +kernel) (pa_cons (pe_ix ix_list (pv 0) pe_int (fun _ _ => rfl)) pa_nil)) (pv 1)))) pss_nil)
      (pss_cons (ps_asg (pe_op op_add (pe_ix ix_list (pv 0) pe_int (fun _ _ => rfl)) pe_int) (pg_sub (pv 0) pe_int set_list))
      (pss_cons (ps_set (i := 2) sc_law_pick.nd rfl (Or.inl rfl) (pe_ix ix_list (pv 0) pe_int (fun _ _ => rfl)))
      (pss_cons (ps_if (pt_cmpR op_gt (pe_callB call_len_seq (by rfl) B.b_len PySem.boot_len (pa_cons (pv 2) pa_nil)) pe_int (nomark _)) (pss_cons (ps_set (i := 3) sc_law_pick.nd rfl (Or.inl rfl) (pe_op op_mod (pe_callTy call_int1 (by rfl) B.b_int (by decide +kernel) (pa_cons (pe_ix ix_list (pv 2) pe_int (fun _ _ => rfl)) pa_nil)) (pv 1)))
      (pss_cons (ps_asg (pe_op op_fdiv (pe_callTy call_int1 (by rfl) B.b_int (by decide +kernel) (pa_cons (pe_ix ix_list (pv 2) pe_int (fun _ _ => rfl)) pa_nil)) (pv 1)) (pg_sub (pv 2) pe_int set_list))
      (pss_cons (ps_if (pt_cmpR op_eq (pe_ix ix_list (pv 2) pe_int (fun _ _ => rfl)) pe_int (nomark _)) (pss_one (ps_expr (pe_bm PySem.F.plainAttrs_list PySem.F.slot_list_pop PySem.F.type_list_pop mt_popAt (pv 2) (pa_cons pe_int pa_nil)))) pss_nil)
      (pss_one (ps_ret (pv 3)))))) pss_nil)
      (pss_cons (ps_set (i := 4) sc_law_pick.nd rfl (Or.inl rfl) (pe_op op_mod (pe_callTy call_int1 (by rfl) B.b_int (by decide +kernel) (pa_cons (pe_op op_mul (pe_op op_add (pe_ix ix_list (pv 0) pe_int (fun _ _ => rfl)) (pe_op op_mul pe_int (pe_ix ix_list (pv 0) pe_int (fun _ _ => rfl)))) pe_int) pa_nil)) pe_int))
      (pss_cons (ps_set (i := 4) sc_law_pick.nd rfl (Or.inl rfl) (pe_op op_mod (pe_callTy call_int1 (by rfl) B.b_int (by decide +kernel) (pa_cons (pe_op op_mul (pv 4) (pe_op op_add (pe_op op_fdiv (pv 4) pe_int) pe_int)) pa_nil)) pe_int))
      (pss_cons (ps_set (i := 4) sc_law_pick.nd rfl (Or.inl rfl) (pe_op op_mod (pe_callTy call_int1 (by rfl) B.b_int (by decide +kernel) (pa_cons (pe_op op_mul (pv 4) (pe_op op_add (pe_op op_fdiv (pv 4) pe_int) pe_int)) pa_nil)) pe_int))
      (pss_one (ps_ret (pe_op op_mod (pe_callTy call_int1 (by rfl) B.b_int (by decide +kernel) (pa_cons (pe_op op_fdiv (pv 4) pe_int) pa_nil)) (pv 1))))))))))), ?_⟩
  have nbg' : g ≠ b := fun e => nbg e.symm
  -- if bag[3] is not None
  refine ⟨_, rfl, b, _, 3, al, rfl, rfl, SqL.of hb, rfl, rfl, _, rfl, ite2 (fun e => ?_) (fun e => ?_)⟩
  · obtain ⟨i, rfl⟩ : ∃ i, al = .int i := by
      rcases ha with rfl | ha
      · cases e
      · exact ha
    refine ⟨_, rfl, b, _, 3, .int i, rfl, rfl, SqL.of hb, rfl, .inl ⟨i, rfl, _, rfl, i, m, rfl, rfl, m0, ?_⟩⟩
    exact q _ H .refl ⟨nbg, z, c, gs, _, hb, hg, hl, .inr ⟨i, rfl⟩⟩ (Int.emod_nonneg _ (by omega)) (Int.emod_lt_of_pos _ m0)
  -- bag[1] = bag[1] + 1
  refine ⟨_, rfl, b, _, 1, .int c, rfl, rfl, SqL.of hb, rfl, c, 1, rfl, rfl, _, rfl, b, _, 1, 1, rfl, rfl, hb, rfl, ?_⟩
  have hb1 : upd H b (.lst [.int z, .int (c + 1), .ref g, al]) b = some (.lst [.int z, .int (c + 1), .ref g, al]) := upd_same
  have hg1 : upd H b (.lst [.int z, .int (c + 1), .ref g, al]) g = some (.lst (gs.map V.int)) := by rw [upd_ne nbg']; exact hg
  have bt1 : But b g H (upd H b (.lst [.int z, .int (c + 1), .ref g, al])) := fun a o n1 n2 e => by rw [upd_ne n1]; exact e
  show tSeq _ _ _ _ (upd H b (.lst [.int z, .int (c + 1), .ref g, al]))
  generalize upd H b (.lst [.int z, .int (c + 1), .ref g, al]) = H1 at hb1 hg1 bt1 ⊢
  -- great = bag[2]
  refine ⟨_, rfl, b, _, 2, .ref g, rfl, rfl, SqL.of hb1, rfl, ?_⟩
  -- if len(great) > 0
  refine ⟨_, rfl, g, _, rfl, .inl (SqL.of hg1), _, 0, rfl, rfl, _, rfl, ite2 (fun e1 => ?_) (fun e1 => ?_)⟩
  · obtain ⟨x, r, rfl⟩ : ∃ x r, gs = x :: r := by
      cases gs with
      | nil => exact absurd (of_decide_eq_true e1) (by decide)
      | cons x r => exact ⟨x, r, rfl⟩
    have hg1 : H1 g = some (.lst (.int x :: r.map V.int)) := hg1
    -- digit = int(great[0]) % many
    refine ⟨_, rfl, g, _, 0, .int x, rfl, rfl, SqL.of hg1, at0, .inl ⟨x, rfl, _, rfl, x, m, rfl, rfl, m0, ?_⟩⟩
    -- great[0] = int(great[0]) // many
    refine ⟨_, rfl, g, _, 0, .int x, rfl, rfl, SqL.of hg1, at0, .inl ⟨x, rfl, _, rfl, x, m, rfl, rfl, ⟨m0, m1⟩, _, rfl, g, _, 0, 0, rfl, rfl, hg1, ix0, ?_⟩⟩
    have hb2 : upd H1 g (.lst (.int (x / m) :: r.map V.int)) b = some (.lst [.int z, .int (c + 1), .ref g, al]) := by rw [upd_ne nbg]; exact hb1
    have hg2 : upd H1 g (.lst (.int (x / m) :: r.map V.int)) g = some (.lst (.int (x / m) :: r.map V.int)) := upd_same
    have bt2 : But b g H (upd H1 g (.lst (.int (x / m) :: r.map V.int))) := bt1.trans fun a o n1 n2 e => by rw [upd_ne n2]; exact e
    show tSeq _ _ _ _ (upd H1 g (.lst (.int (x / m) :: r.map V.int)))
    generalize upd H1 g (.lst (.int (x / m) :: r.map V.int)) = H2 at hb2 hg2 bt2 ⊢
    have lo : 0 ≤ x % m := Int.emod_nonneg _ (by omega)
    have hi : x % m < m := Int.emod_lt_of_pos _ m0
    rw [List.length_cons] at hl
    -- if great[0] == 0: great.pop(0)
    refine ⟨_, rfl, g, _, 0, .int (x / m), rfl, rfl, SqL.of hg2, at0, rfl, _, rfl, ite2 (fun e2 => ?_) (fun e2 => ?_)⟩
    · refine ⟨_, rfl, .inl ⟨rfl, _, SqL.of hg2⟩, g, _, 0, 0, .int (x / m), rfl, rfl, hg2, by decide, by decide, sx0, rfl, ?_⟩
      refine ⟨_, rfl, q _ _ (bt2.trans fun a o n1 n2 e => by rw [upd_ne n2]; exact e) ⟨nbg, z, c + 1, r, al, by rw [upd_ne nbg]; exact hb2, upd_same, by omega, ha⟩ lo hi⟩
    · exact ⟨_, rfl, q _ _ bt2 ⟨nbg, z, c + 1, (x / m) :: r, al, hb2, hg2, by rw [List.length_cons]; omega, ha⟩ lo hi⟩
  · -- the three numbers
    refine ⟨_, rfl, b, _, 0, .int z, rfl, rfl, SqL.of hb1, rfl, _, rfl, b, _, 1, .int (c + 1), rfl, rfl, SqL.of hb1, rfl, 7919, c + 1, rfl, rfl, .inl ⟨by decide, by decide⟩, z, _, rfl, rfl, _, _, rfl, rfl, .inr ⟨by decide, by decide⟩, .inl ⟨_, rfl, _, 2147483647, rfl, rfl, (show (0 : Int) < 2147483647 by decide), ?_⟩⟩
    refine ⟨_, rfl, _, rfl, _, 1009, rfl, rfl, ⟨by decide, by decide⟩, _, 69621, rfl, rfl, _, _, rfl, rfl, cmulL (by decide) (by decide), .inl ⟨_, rfl, _, 2147483647, rfl, rfl, (show (0 : Int) < 2147483647 by decide), ?_⟩⟩
    refine ⟨_, rfl, _, rfl, _, 2003, rfl, rfl, ⟨by decide, by decide⟩, _, 40692, rfl, rfl, _, _, rfl, rfl, cmulL (by decide) (by decide), .inl ⟨_, rfl, _, 2147483399, rfl, rfl, (show (0 : Int) < 2147483399 by decide), ?_⟩⟩
    refine ⟨_, rfl, _, 16, rfl, rfl, ⟨by decide, by decide⟩, .inl ⟨_, rfl, _, rfl, _, m, rfl, rfl, m0, ?_⟩⟩
    exact q _ _ bt1 ⟨nbg, z, c + 1, gs, al, hb1, hg1, hl, ha⟩ (Int.emod_nonneg _ (by omega)) (Int.emod_lt_of_pos _ m0)
theorem k_some (B : Bl mg) (D : Dfn K mg "_law_some" s_law_some ["bag", "things"]) (G_law_pick : Kept P w K mg base 1 "_law_pick" ["bag", "many"] spPick) : Kept P w K mg base 2 "_law_some" ["bag", "things"] (spSome K) := by
  refine D.kept (N := N_law_some) sc_law_some (fun vs H Q E h => ?_) (fun f cdv A outer s H vs Q E hr h => ?_)
  · obtain ⟨b, g, l, xs, rfl, _⟩ := h
    rfl
  obtain ⟨b, g, l, xs, rfl, hb, n1, n2, hl, h0, h1, q⟩ := h
  have fin : ∀ (r : Int) (H' : Hp), But b g H H' → BagAt H' b g → 0 ≤ r → r < (xs.length : Int) → ∃ x, atI xs r = some x ∧ Q x H' := fun r H' bt hb' r0 r1 => by
    obtain ⟨k, rfl⟩ : ∃ k : Nat, r = (k : Int) := ⟨r.toNat, by omega⟩
    have hk : k < xs.length := by omega
    refine ⟨xs[k], ?_, q _ H' bt hb' (List.getElem_mem hk)⟩
    exact atI_nat (List.getElem?_eq_getElem hk)
  have keepL : ∀ H', But b g H H' → SqL K H l xs → SqL K H' l xs := fun H' bt h => by
    rcases h with (h | ⟨o, h⟩) | h
    · exact .inl (.inl (bt _ _ n1 n2 h))
    · exact .inl (.inr ⟨o, bt _ _ n1 n2 h⟩)
    · exact .inr h
  have keepT : ∀ H', But b g H H' → SqT K H l xs → SqT K H' l xs := fun H' bt h => by
    rcases h with (h | ⟨o, h⟩) | h
    · exact .inl (.inl (bt _ _ n1 n2 h))
    · exact .inl (.inr ⟨o, bt _ _ n1 n2 h⟩)
    · exact .inr h
  rcases hl with hl | hl
  · refine ⟨_, (pss_one (ps_ret (pe_ix ix_list (pv 1) (pe_k G_law_pick (hr.mono (by first | decide | omega)) (by rfl) (pa_cons (pv 0) (pa_cons (pe_callB call_len_seq (by rfl) B.b_len PySem.boot_len (pa_cons (pv 1) pa_nil)) pa_nil))) (fun _ _ => rfl)))), ?_⟩
    refine ⟨_, rfl, _, rfl, _, rfl, l, xs, rfl, .inl hl, b, g, _, rfl, hb, by omega, by omega, fun r H' bt hb' r0 r1 => ?_⟩
    obtain ⟨x, e, qx⟩ := fin r H' bt hb' r0 r1
    exact ⟨l, xs, r, x, rfl, rfl, keepL H' bt hl, e, qx⟩
  · refine ⟨_, (pss_one (ps_ret (pe_ix ix_tup (pv 1) (pe_k G_law_pick (hr.mono (by first | decide | omega)) (by rfl) (pa_cons (pv 0) (pa_cons (pe_callB call_len_seq (by rfl) B.b_len PySem.boot_len (pa_cons (pv 1) pa_nil)) pa_nil))) (fun _ _ => rfl)))), ?_⟩
    refine ⟨_, rfl, _, rfl, _, rfl, l, xs, rfl, .inr hl, b, g, _, rfl, hb, by omega, by omega, fun r H' bt hb' r0 r1 => ?_⟩
    obtain ⟨x, e, qx⟩ := fin r H' bt hb' r0 r1
    exact ⟨l, xs, r, x, rfl, rfl, keepT H' bt hl, e, qx⟩
theorem k_bag (B : Bl mg) (D : Dfn K mg "_law_bag" s_law_bag ["script"]) : Kept P w K mg base 1 "_law_bag" ["script"] (spBag K) := by
  refine D.kept (N := N_law_bag) sc_law_bag (fun vs H Q E h => ?_) (fun f cdv A outer s H vs Q E hr h => ?_)
  · obtain ⟨a, ns, rfl, _⟩ := h
    rfl
  obtain ⟨a, ns, rfl, hS, h63, q⟩ := h
  refine ⟨_, (pss_cons (ps_set (i := 1) sc_law_bag.nd rfl (Or.inl rfl) (pe_op op_add pe_int (pe_callB call_len_seq (by rfl) B.b_len PySem.boot_len (pa_cons (pv 0) pa_nil))))
      (pss_cons (ps_for PassesOwn.never rfl (pi_list (pe_slice sl_list (pv 0) po_none (po_some pe_int))) (pg_name (i := 2) sc_law_bag.nd rfl (Or.inl rfl)) (pss_one (ps_set (i := 1) sc_law_bag.nd rfl (Or.inl rfl) (pe_op op_mod (pe_callTy call_int1 (by rfl) B.b_int (by decide +kernel) (pa_cons (pe_op op_add (pe_op op_add (pe_op op_mul (pv 1) pe_int) (pe_op op_mod (pe_callTy call_int1 (by rfl) B.b_int (by decide +kernel) (pa_cons (pv 2) pa_nil)) pe_int)) pe_int) pa_nil)) pe_int))))
      (pss_cons (ps_setLc (i := 3) (own := [("cell", 2)]) (g := gName 2) (by rfl) sc_law_bag.nd rfl rfl (sw_true rfl rfl rfl (by decide +kernel)) (pi_list (pe_slice sl_list (pv 0) po_none (po_some pe_int))) (blkOk_by (own := [("cell", 2)]) (N := N_law_bag) (sc := defScope s_law_bag) (by decide +kernel)) (fun _ _ _ _ _ => (pg_name (i := 2) sc_law_bag.nd rfl (Or.inl rfl))) (fun _ _ _ _ _ => (pts_one (pt_cmpR op_ge (pe_callB call_abs (by rfl) B.b_abs (by decide +kernel) (pa_cons (pe_callTy call_int1 (by rfl) B.b_int (by decide +kernel) (pa_cons (pv 2) pa_nil)) pa_nil)) (pe_op op_pow pe_int pe_int) (nomark _)))) (fun _ _ _ _ _ => (pe_callB call_abs (by rfl) B.b_abs (by decide +kernel) (pa_cons (pe_callTy call_int1 (by rfl) B.b_int (by decide +kernel) (pa_cons (pv 2) pa_nil)) pa_nil))))
      (pss_cons (ps_set (i := 4) sc_law_bag.nd rfl (Or.inl rfl) pe_non)
      (pss_cons (ps_if (pw_and (pt_cmpR op_lt (pe_callB call_len_seq (by rfl) B.b_len PySem.boot_len (pa_cons (pv 0) pa_nil)) pe_int (nomark _)) (pw_and1 (pt_cmpR op_eq (pe_callB call_len_seq (by rfl) B.b_len PySem.boot_len (pa_cons (pv 3) pa_nil)) pe_int (nomark _)))).pt (pss_one (ps_set (i := 4) sc_law_bag.nd rfl (Or.inl rfl) (pe_callB call_abs (by rfl) B.b_abs (by decide +kernel) (pa_cons (pe_callB (cr_sum rfl) (by rfl) B.b_sum (by decide +kernel) (pa_cons (pe_lc (own := [("cell", 2)]) (g := gName 2) (by rfl) sc_law_bag.nd (pi_list (pv 0)) (blkOk_by (own := [("cell", 2)]) (N := N_law_bag) (sc := defScope s_law_bag) (by decide +kernel)) (fun _ _ _ _ _ => (pg_name (i := 2) sc_law_bag.nd rfl (Or.inl rfl))) (fun _ _ _ _ _ => pts_nil) (fun _ _ _ _ _ => (pe_callTy call_int1 (by rfl) B.b_int (by decide +kernel) (pa_cons (pv 2) pa_nil)))) pa_nil)) pa_nil)))) pss_nil)
      (pss_one (ps_ret (pe_lst (pa_cons (pv 1) (pa_cons pe_int (pa_cons (pv 3) (pa_cons (pv 4) pa_nil)))))))))))), ?_⟩
  -- seed = 41 + len(script)
  refine ⟨_, rfl, a, _, rfl, .inl hS, 41, _, rfl, rfl, ?_⟩
  have hl : (ns.map V.int).length = ns.length := List.length_map _
  -- for cell in script[:63]
  have cut : cutV (ns.map V.int) none (some 63) = ns.map V.int := cut63 (by rw [hl]; exact h63)
  refine ⟨_, rfl, _, rfl, a, _, rfl, hS, fun p hp => ?_⟩
  rw [cut]
  have s1 : Same H (upd H p (.lst (ns.map V.int))) := same_new hp
  have hp1 : upd H p (.lst (ns.map V.int)) p = some (.lst (ns.map V.int)) := upd_same
  generalize upd H p (.lst (ns.map V.int)) = H1 at s1 hp1 ⊢
  refine ⟨p, rfl, ⟨_, SqL.of hp1⟩, for_list (K := K) (a := p) (xs := ns.map V.int) (fun i σ H' => H' = H1 ∧ ∃ (sd : Int) (y : Option V), σ = [some (.ref a), some (.int sd), y, none, none])
    ⟨rfl, _, none, rfl⟩ (fun i σ H' _ ⟨e, _⟩ => by rw [e]; exact SqL.of hp1) ?_ ?_⟩
  · rintro i x σ H' hi ⟨rfl, sd, y, rfl⟩
    obtain ⟨n, rfl, _⟩ := int_at hi
    refine ⟨_, rfl, _, _, rfl, rfl, .inr ⟨by decide, by decide⟩, _, rfl, .inl ⟨_, rfl, _, _, rfl, rfl, (show (0 : Int) < 1000003 by decide), _, _, rfl, rfl, _, _, rfl, rfl, .inl ⟨_, rfl, _, _, rfl, rfl, (show (0 : Int) < 2147483647 by decide), ?_⟩⟩⟩
    exact ⟨rfl, _, _, rfl⟩
  rintro σ H' ⟨rfl, sd, y, rfl⟩
  -- great = [..]
  refine ⟨_, rfl, _, rfl, a, _, rfl, s1.seq hS, fun p2 hp2 => ?_⟩
  rw [cut]
  have s2 : Same H (upd H' p2 (.lst (ns.map V.int))) := s1.trans (same_new hp2)
  have hq2 : upd H' p2 (.lst (ns.map V.int)) p2 = some (.lst (ns.map V.int)) := upd_same
  generalize upd H' p2 (.lst (ns.map V.int)) = H2 at s2 hq2 ⊢
  refine ⟨p2, rfl, ⟨_, SqL.of hq2⟩, fun D hD => lc_list (K := K) (a := p2) (xs := ns.map V.int) (fun i H' => ∃ acc : List Int, acc.length ≤ i ∧ H' = upd H2 D (.lst (acc.map V.int)))
    ⟨[], Nat.le_refl _, rfl⟩ (fun i H' _ ⟨acc, _, e⟩ => by rw [e]; exact (same_new hD).seq (SqL.of hq2)) ?_ ?_⟩
  · rintro i x H'' hi ⟨acc, hacc, rfl⟩
    obtain ⟨n, rfl, hin⟩ := int_at hi
    refine ⟨rfl, _, rfl, .inl ⟨n, rfl, n, rfl, 10, 18, rfl, rfl, ⟨by decide, by decide, by decide⟩, _, _, rfl, rfl, _, rfl, ite2 (fun e => ?_) (fun e => ?_)⟩⟩
    · refine ⟨_, rfl, .inl ⟨n, rfl, n, rfl, _, upd_same, ?_, acc ++ [if n < 0 then -n else n], ?_, ?_⟩⟩
      · rw [List.length_map]
        exact len_lt (by omega)
      · rw [List.length_append, List.length_singleton]
        omega
      · rw [upd_upd, List.map_append]
        rfl
    · exact ⟨acc, by omega, rfl⟩
  rintro H3 ⟨gs, hgs, rfl⟩
  have hgs63 : gs.length ≤ 63 := by omega
  have hD0 : H D = none := s2.free hD
  have s3 : Same H (upd H2 D (.lst (gs.map V.int))) := same_mut s2 hD0
  have hDD : upd H2 D (.lst (gs.map V.int)) D = some (.lst (gs.map V.int)) := upd_same
  generalize upd H2 D (.lst (gs.map V.int)) = H3 at s3 hDD ⊢
  -- the test
  have fin : ∀ (H4 : Hp) (al : V), Same H H4 → H4 D = some (.lst (gs.map V.int)) → (al = .non ∨ ∃ i, al = .int i) → ∀ b, H4 b = none → Q (.ref b) (upd H4 b (.lst [.int sd, .int 1, .ref D, al])) := fun H4 al s4 h4 hal b hb4 =>
    q b D _ (s4.trans (same_new hb4)) (s4.free hb4) hD0 ⟨(ne_of_none h4 hb4).symm, sd, 1, gs, al, upd_same, by rw [upd_ne (ne_of_none h4 hb4)]; exact h4, hgs63, hal⟩
  refine ⟨_, rfl, a, _, rfl, .inl (s3.seq hS), _, 2, rfl, rfl, _, rfl, ite2 (fun e1 => ?_) (fun e1 => ?_)⟩
  · refine ⟨_, rfl, D, _, rfl, .inl (SqL.of hDD), rfl, _, rfl, ite2 (fun e2 => ?_) (fun e2 => ?_)⟩
    · refine ⟨_, rfl, a, rfl, ⟨_, s3.seq hS⟩, fun D2 hD2 => lc_list (K := K) (a := a) (xs := ns.map V.int) (fun i H' => ∃ acc : List Int, acc.length ≤ i ∧ H' = upd H3 D2 (.lst (acc.map V.int)))
        ⟨[], Nat.le_refl _, rfl⟩ (fun i H' _ ⟨acc, _, e⟩ => by rw [e]; exact (same_new hD2).seq (s3.seq hS)) ?_ ?_⟩
      · rintro i x H'' hi ⟨acc, hacc, rfl⟩
        obtain ⟨n, rfl, hin⟩ := int_at hi
        refine ⟨rfl, ?_⟩
        refine ⟨_, rfl, .inl ⟨n, rfl, _, upd_same, ?_, acc ++ [n], ?_, ?_⟩⟩
        · rw [List.length_map]
          exact len_lt (by omega)
        · rw [List.length_append, List.length_singleton]
          omega
        · rw [upd_upd, List.map_append]
          rfl
      · rintro H5 ⟨acc, _, rfl⟩
        refine ⟨D2, acc, rfl, SqL.of upd_same, _, rfl, ?_⟩
        refine ⟨_, rfl, _, rfl, _, rfl, (len_le (by show 4 ≤ 1000; decide)), fun b hb => ?_⟩
        exact fin _ _ (s3.trans (same_new hD2)) (by rw [upd_ne (ne_of_none hDD hD2)]; exact hDD) (.inr ⟨_, rfl⟩) b hb
    · refine ⟨_, rfl, _, rfl, _, rfl, (len_le (by show 4 ≤ 1000; decide)), fun b hb => ?_⟩
      exact fin _ _ s3 hDD (.inl rfl) b hb
  · refine ⟨_, rfl, _, rfl, _, rfl, (len_le (by show 4 ≤ 1000; decide)), fun b hb => ?_⟩
    exact fin _ _ s3 hDD (.inl rfl) b hb
end
end Lw

set_option maxHeartbeats 4000000
namespace Lw
open PySem PySem.Spec PyProof.Rows L2 EF Hn
open PySem.W (Frag keepIn)
abbrev s_law_is : Stmt := top 27
abbrev N_law_is : List Str := ["thing", "due", "one", "other"]
theorem sc_law_is : FnScope N_law_is ["thing", "due"] (defScope s_law_is) := ⟨rfl, rfl, rfl, by decide +kernel, rfl, by decide +kernel, by decide +kernel⟩
section
variable {P : Program} {w : World} {K : Frag} {mg : Str → Option Value} {base : Heap}
theorem k_isD (B : Bl mg) (D : Dfn K mg "_law_is" s_law_is ["thing", "due"]) : ∀ n, Kept P w K mg base n "_law_is" ["thing", "due"] (spIsD K n)
  | 0 => kept_zero D fun vs H Q E ⟨_, _, _, _, _, _, h, _⟩ => h
  | n + 1 => by
    have G_law_is := k_isD B D n
    refine D.kept (N := N_law_is) sc_law_is (fun vs H Q E h => ?_) (fun f cdv A outer s H vs Q E hr h => ?_)
    · obtain ⟨x, y, d, rfl, _⟩ := h
      rfl
    obtain ⟨x, y, d, rfl, dx, dy, sm, q⟩ := h
    refine ⟨_, (pss_cons (ps_if (pt_val (pe_callB call_isiT (by rfl) B.b_isinstance (by decide +kernel) (pa_cons (pv 1) (pa_cons (pe_tup (pa_cons (pe_bltn (v := .ty "tuple") (by rfl) B.b_tuple (by decide +kernel) rfl) (pa_cons (pe_bltn (v := .ty "list") (by rfl) B.b_list (by decide +kernel) rfl) pa_nil))) pa_nil)))) (pss_cons (ps_if (pw_or (pt_cmpR op_ne (pe_callB call_isi (by rfl) B.b_isinstance (by decide +kernel) (pa_cons (pv 0) (pa_cons (pe_bltn (v := .ty "tuple") (by rfl) B.b_tuple (by decide +kernel) rfl) pa_nil))) (pe_callB call_isi (by rfl) B.b_isinstance (by decide +kernel) (pa_cons (pv 1) (pa_cons (pe_bltn (v := .ty "tuple") (by rfl) B.b_tuple (by decide +kernel) rfl) pa_nil))) (nomark _)) (pw_or1 (pt_cmpR op_ne (pe_callB call_isi (by rfl) B.b_isinstance (by decide +kernel) (pa_cons (pv 0) (pa_cons (pe_bltn (v := .ty "list") (by rfl) B.b_list (by decide +kernel) rfl) pa_nil))) (pe_callB call_isi (by rfl) B.b_isinstance (by decide +kernel) (pa_cons (pv 1) (pa_cons (pe_bltn (v := .ty "list") (by rfl) B.b_list (by decide +kernel) rfl) pa_nil))) (nomark _)))).pt (pss_one (ps_ret pe_bl)) pss_nil)
      (pss_one (ps_ret (pe_and (pe_cmpR op_eq (pe_callB call_len_seq (by rfl) B.b_len PySem.boot_len (pa_cons (pv 0) pa_nil)) (pe_callB call_len_seq (by rfl) B.b_len PySem.boot_len (pa_cons (pv 1) pa_nil)) (nomark _)) (pe_one (pe_callB (cr_all rfl) (by rfl) B.b_all (by decide +kernel) (pa_cons (pe_lc (own := [("one", 2), ("other", 3)]) (g := gTup K 2 (gCons (gName 2) (gCons (gName 3) (gNil)))) (by rfl) sc_law_is.nd (RZ.pi_zipA (by rfl) B.b_zip (pa_cons (pv 0) (pa_cons (pv 1) pa_nil))) (blkOk_by (own := [("one", 2), ("other", 3)]) (N := N_law_is) (sc := defScope s_law_is) (by decide +kernel)) (fun _ _ _ _ _ => (pg_tup rfl (pgs_cons (pg_name (i := 2) sc_law_is.nd rfl (Or.inl rfl)) (pgs_cons (pg_name (i := 3) sc_law_is.nd rfl (Or.inl rfl)) pgs_nil)))) (fun _ _ _ _ _ => pts_nil) (fun _ _ _ _ _ => (pe_k G_law_is (hr.mono (by first | decide | omega)) (by rfl) (pa_cons (pv 2) (pa_cons (pv 3) pa_nil))))) pa_nil))))))) pss_nil)
      (pss_one (ps_ret (pe_and (pe_cmpR op_eq (pe_callB call_isi (by rfl) B.b_isinstance (by decide +kernel) (pa_cons (pv 0) (pa_cons (pe_bltn (v := .ty "bool") (by rfl) B.b_bool (by decide +kernel) rfl) pa_nil))) (pe_callB call_isi (by rfl) B.b_isinstance (by decide +kernel) (pa_cons (pv 1) (pa_cons (pe_bltn (v := .ty "bool") (by rfl) B.b_bool (by decide +kernel) rfl) pa_nil))) (nomark _)) (pe_one (pe_cmpR op_eq (pv 0) (pv 1) (nomark _))))))), ?_⟩
    refine ⟨y, rfl, len_le (by show 2 ≤ 1000; decide), fun tp htp => ?_⟩
    have s1 : Same H (upd H tp (.tup [.ty "tuple", .ty "list"])) := same_new htp
    have htp1 : upd H tp (.tup [.ty "tuple", .ty "list"]) tp = some (.tup [.ty "tuple", .ty "list"]) := upd_same
    generalize upd H tp (.tup [.ty "tuple", .ty "list"]) = H1 at s1 htp1 ⊢
    have key : (∃ (T : String) (bb : Bool), x = y ∧ TyX K H1 x (.type T) ∧ kitB T "tuple" = some false ∧ kitB T "list" = some false ∧ kitB T "bool" = some bb ∧ scal x x = true) ∨
        ∃ (a b : Addr) (xs ys : List V) (ds : List PyData), x = .ref a ∧ y = .ref b ∧ d = .tuple ds ∧ SqT K H a xs ∧ SqT K H b ys ∧ DpAll K H xs ds ∧ DpAll K H ys ds := by
      cases dx with
      | non =>
        cases dy
        exact .inl ⟨_, false, rfl, .base .non, by decide +kernel, by decide +kernel, by decide +kernel, rfl⟩
      | bl b =>
        cases dy
        exact .inl ⟨_, true, rfl, .base (.bl b), by decide +kernel, by decide +kernel, by decide +kernel, rfl⟩
      | int i =>
        cases dy
        exact .inl ⟨_, false, rfl, .base (.int i), by decide +kernel, by decide +kernel, by decide +kernel, rfl⟩
      | str z =>
        cases dy
        exact .inl ⟨_, false, rfl, .base (.str z), by decide +kernel, by decide +kernel, by decide +kernel, rfl⟩
      | lst _ _ => exact sm.elim
      | @tup a xs ds ha da =>
        cases dy with
        | @tup b ys _ hb db => exact .inr ⟨a, b, xs, ys, ds, rfl, rfl, rfl, ha, hb, da, db⟩
    rcases key with ⟨T, bb, rfl, ty1, k1, k2, k3, hx⟩ | ⟨a, b, xs, ys, ds, rfl, rfl, rfl, ha, hb, da, db⟩
    · refine ⟨x, tp, _, .type T, _, false, rfl, htp1, twoTys, ty1, kitTL k1 k2, false, rfl, ?_⟩
      refine ⟨x, rfl, x, _, .type T, _, bb, rfl, .ty _, ty1, kit_ty k3, x, rfl, x, _, .type T, _, bb, rfl, .ty _, ty1, kit_ty k3, rfl, _, rfl, ?_⟩
      rw [decide_eq_true rfl]
      refine iteT ?_
      refine ⟨x, rfl, x, rfl, hx, ?_⟩
      rw [decide_eq_true rfl]
      exact q H1 s1
    · clear dx dy
      have ha1 := s1.seqT ha
      have hb1 := s1.seqT hb
      have da1 := dps_same s1 da
      have db1 := dps_same s1 db
      have la := dps_len da
      have lb := dps_len db
      have l100 : ds.length ≤ 100 := sm.1
      have k1 : kitB "tuple" "tuple" = some true := by decide +kernel
      have k2 : kitB "tuple" "list" = some false := by decide +kernel
      refine ⟨_, tp, _, .type "tuple", _, _, rfl, htp1, twoTys, tyT hb1, kitTL k1 k2, _, rfl, ?_⟩
      refine ⟨_, rfl, _, _, .type "tuple", _, true, rfl, .ty _, tyT ha1, kit_ty k1, _, rfl, _, _, .type "tuple", _, true, rfl, .ty _, tyT hb1, kit_ty k1, rfl, _, rfl, ?_⟩
      rw [decide_eq_true rfl]
      refine ⟨_, rfl, _, _, .type "tuple", _, false, rfl, .ty _, tyT ha1, kit_ty k2, _, rfl, _, _, .type "tuple", _, false, rfl, .ty _, tyT hb1, kit_ty k2, rfl, _, rfl, ?_⟩
      rw [decide_eq_true rfl]
      refine ⟨_, rfl, a, xs, rfl, .inr ha1, _, rfl, b, ys, rfl, .inr hb1, rfl, _, rfl, ?_⟩
      rw [decide_eq_true (show V.int (xs.length : Nat) = V.int (ys.length : Nat) by rw [la, lb])]
      refine ⟨_, rfl, _, rfl, a, b, xs, ys, rfl, .inr ⟨ha1, hb1, fun D hD => lc_zipT (by omega) (fun i H' => ∃ bs : List Bool, bs.all id = true ∧ bs.length = i ∧ Same H1 H' ∧ H' D = some (.lst (bs.map V.bl))) ⟨[], rfl, rfl, same_new hD, upd_same⟩
          (fun i H' ⟨_, _, _, sm, _⟩ => ⟨sm.seqT ha1, sm.seqT hb1⟩) ?_ ?_⟩⟩
      · rintro i y z Tt H2 hy hz ⟨bs, ball, blen, sm2, hD2⟩ nT
        obtain ⟨d1, e1, g1⟩ := dps_get da1 hy
        obtain ⟨d2, e2, g2⟩ := dps_get db1 hz
        obtain rfl := Option.some.inj (e1.symm.trans e2)
        have hi := (List.getElem?_eq_some_iff.mp e1).1
        have s2 := sm2.trans (same_new (o := .tup [y, z]) nT)
        refine ⟨Tt, _, rfl, SqT.of upd_same, rfl, _, _, rfl, _, _, rfl, rfl, rfl, ?_⟩
        refine ⟨_, rfl, _, rfl, y, z, d1, rfl, dp_same s2 g1, dp_same s2 g2, sm.2 d1 (List.mem_of_getElem? e1), fun H3 s3 => ?_⟩
        have e3 : H3 D = some (.lst (bs.map V.bl)) := s3 _ _ ((same_new nT) _ _ hD2)
        refine ⟨bs.map V.bl, e3, by rw [List.length_map]; exact len_lt (by omega), bs ++ [true], by rw [List.all_append, ball]; rfl, by rw [List.length_append, blen]; rfl, same_mut (s2.trans s3) hD, by rw [upd_same, List.map_append]; rfl⟩
      · rintro H2 ⟨bs, ball, blen, sm2, hD2⟩
        refine ⟨D, bs, rfl, SqL.of hD2, ?_⟩
        rw [ball]
        exact q H2 (s1.trans sm2)
end
end Lw

set_option maxHeartbeats 4000000
namespace Lw
open PySem PySem.Spec PyProof.Rows L2 EF Hn
open PySem.W (Frag keepIn)
abbrev sis_integer : Stmt := top 4
abbrev Nis_integer : List Str := ["thing"]
theorem scis_integer : FnScope Nis_integer ["thing"] (defScope sis_integer) := ⟨rfl, rfl, rfl, by decide +kernel, rfl, by decide +kernel, by decide +kernel⟩
abbrev sis_between : Stmt := top 5
abbrev Nis_between : List Str := ["thing", "least", "most"]
theorem scis_between : FnScope Nis_between ["thing", "least", "most"] (defScope sis_between) := ⟨rfl, rfl, rfl, by decide +kernel, rfl, by decide +kernel, by decide +kernel⟩
abbrev sis_person : Stmt := top 6
abbrev Nis_person : List Str := ["thing", "many"]
theorem scis_person : FnScope Nis_person ["thing", "many"] (defScope sis_person) := ⟨rfl, rfl, rfl, by decide +kernel, rfl, by decide +kernel, by decide +kernel⟩
abbrev sis_ascending : Stmt := top 7
abbrev Nis_ascending : List Str := ["row", "k"]
theorem scis_ascending : FnScope Nis_ascending ["row"] (defScope sis_ascending) := ⟨rfl, rfl, rfl, by decide +kernel, rfl, by decide +kernel, by decide +kernel⟩
abbrev sis_web : Stmt := top 10
abbrev Nis_web : List Str := ["thing", "u"]
theorem scis_web : FnScope Nis_web ["thing"] (defScope sis_web) := ⟨rfl, rfl, rfl, by decide +kernel, rfl, by decide +kernel, by decide +kernel⟩
abbrev sis_pocket : Stmt := top 11
abbrev Nis_pocket : List Str := ["thing", "u", "many", "w"]
theorem scis_pocket : FnScope Nis_pocket ["thing", "u", "many"] (defScope sis_pocket) := ⟨rfl, rfl, rfl, by decide +kernel, rfl, by decide +kernel, by decide +kernel⟩
/-- what is told of a datum is a flag by it -/
def spFlag1 (f : PyData → Bool) : Sp := fun vs H Q _ => ∃ (N : Addr → Prop) (d : PyData) (x : V), vs = [x] ∧ Rep N H d x ∧ ∀ H', Same H H' → Q (.bl (f d)) H'
def intB : PyData → Bool
  | .int _ => true
  | _ => false
def betB (l m : Int) : PyData → Bool
  | .int i => decide (l ≤ i) && decide (i ≤ m)
  | _ => false
def spBet : Sp := fun vs H Q _ => ∃ (N : Addr → Prop) (d : PyData) (x : V) (l m : Int), vs = [x, .int l, .int m] ∧ Rep N H d x ∧ ∀ H', Same H H' → Q (.bl (betB l m d)) H'
theorem per_bet (m : Int) (d : PyData) : betB 0 (m - 1) d = perB m d := by
  cases d with
  | int i =>
    show (decide (0 ≤ i) && decide (i ≤ m - 1)) = (decide (0 ≤ i) && decide (i < m))
    congr 1
    exact decide_eq_decide.mpr ⟨fun h => by omega, fun h => by omega⟩
  | _ => rfl
def spPerson : Sp := fun vs H Q _ => ∃ (N : Addr → Prop) (d : PyData) (x : V) (m : Int), vs = [x, .int m] ∧ Rep N H d x ∧ ∀ H', Same H H' → Q (.bl (perB m d)) H'
def spAsc (K : Frag) : Sp := fun vs H Q _ => ∃ (a : Addr) (ns : List Int), vs = [.ref a] ∧ SqT K H a (ns.map V.int) ∧ ns.length ≤ 1000 ∧ ∀ H', Same H H' → Q (.bl (asc ns)) H'
/-- a tuple that is not too long -/
def short : PyData → Prop
  | .tuple ds => ds.length ≤ 1000
  | _ => True
/-- short throughout -/
def fit : PyData → Prop
  | .tuple ps => ps.length ≤ 1000 ∧ ∀ p ∈ ps, short p
  | _ => True
def spWeb : Sp := fun vs H Q _ => ∃ (N : Addr → Prop) (d : PyData) (x : V), vs = [x] ∧ Rep N H d x ∧ fit d ∧ ∀ H', Same H H' → Q (.bl (webB d)) H'

def spPocket : Sp := fun vs H Q _ => ∃ (N : Addr → Prop) (d : PyData) (x : V) (u m : Int), vs = [x, .int u, .int m] ∧ Rep N H d x ∧ short d ∧ ∀ H', Same H H' → Q (.bl (pocketB u m d)) H'
section
variable {P : Program} {w : World} {K : Frag} {mg : Str → Option Value} {base : Heap}
theorem k_integer (B : Bl mg) (D : Dfn K mg "is_integer" sis_integer ["thing"]) : Kept P w K mg base 1 "is_integer" ["thing"] (spFlag1 intB) := by
  refine D.kept (N := Nis_integer) scis_integer (fun vs H Q E h => ?_) (fun f cdv A outer s H vs Q E hr h => ?_)
  · obtain ⟨N, d, x, rfl, _⟩ := h
    rfl
  obtain ⟨N, d, x, rfl, r, q⟩ := h
  refine ⟨_, (pss_one (ps_ret (pe_and (pe_callB call_isi (by rfl) B.b_isinstance (by decide +kernel) (pa_cons (pv 0) (pa_cons (pe_bltn (v := .ty "int") (by rfl) B.b_int (by decide +kernel) rfl) pa_nil))) (pe_one (pe_not (pe_callB call_isi (by rfl) B.b_isinstance (by decide +kernel) (pa_cons (pv 0) (pa_cons (pe_bltn (v := .ty "bool") (by rfl) B.b_bool (by decide +kernel) rfl) pa_nil)))))))), ?_⟩
  refine ⟨x, rfl, x, _, _, _, isIntD d, rfl, .ty _, r.ty, kit_ty (kit_int d), _, rfl, ite2 (fun e => ?_) (fun e => ?_)⟩
  · refine ⟨x, rfl, x, _, _, _, isBoolD d, rfl, .ty _, r.ty, kit_ty (kit_bool d), _, rfl, ?_⟩
    have z := q H (Same.refl H)
    cases d with
    | int i => exact z
    | bool b => exact z
    | _ => cases e
  · have z := q H (Same.refl H)
    cases d with
    | int i => exact absurd rfl e
    | bool b => exact absurd rfl e
    | _ => exact z
theorem k_between (B : Bl mg) (D : Dfn K mg "is_between" sis_between ["thing", "least", "most"]) (Gis_integer : Kept P w K mg base 1 "is_integer" ["thing"] (spFlag1 intB)) : Kept P w K mg base 2 "is_between" ["thing", "least", "most"] spBet := by
  refine D.kept (N := Nis_between) scis_between (fun vs H Q E h => ?_) (fun f cdv A outer s H vs Q E hr h => ?_)
  · obtain ⟨N, d, x, l, m, rfl, _⟩ := h
    rfl
  obtain ⟨N, d, x, l, m, rfl, r, q⟩ := h
  refine ⟨_, (pss_one (ps_ret (pe_and (pe_k Gis_integer (hr.mono (by first | decide | omega)) (by rfl) (pa_cons (pv 0) pa_nil)) (pe_one (pe_chain op_le op_le (pv 1) (pv 0) (pv 2)))))), ?_⟩
  refine ⟨x, rfl, N, d, x, rfl, r, fun H' sm => ⟨_, rfl, ite2 (fun e => ?_) (fun e => ?_)⟩⟩
  · have z := q H' sm
    cases d with
    | int i =>
      rw [show x = V.int i from r]
      refine ⟨_, rfl, _, rfl, _, _, rfl, rfl, _, rfl, ite2 (fun e1 => ?_) (fun e1 => ?_)⟩
      · refine ⟨_, rfl, _, _, rfl, rfl, ?_⟩
        have y : betB l m (.int i) = decide (i ≤ m) := by
          show (decide (l ≤ i) && decide (i ≤ m)) = _
          rw [show decide (l ≤ i) = true from e1, Bool.true_and]
        rw [y] at z
        exact z
      · have y : betB l m (.int i) = false := by
          show (decide (l ≤ i) && decide (i ≤ m)) = _
          rw [show decide (l ≤ i) = false from Bool.eq_false_iff.mpr e1, Bool.false_and]
        rw [y] at z
        exact z
    | _ => cases e
  · have z := q H' sm
    cases d with
    | int i => exact absurd rfl e
    | _ => exact z
theorem k_person (B : Bl mg) (D : Dfn K mg "is_person" sis_person ["thing", "many"]) (Gis_between : Kept P w K mg base 2 "is_between" ["thing", "least", "most"] spBet) : Kept P w K mg base 3 "is_person" ["thing", "many"] spPerson := by
  refine D.kept (N := Nis_person) scis_person (fun vs H Q E h => ?_) (fun f cdv A outer s H vs Q E hr h => ?_)
  · obtain ⟨N, d, x, m, rfl, _⟩ := h
    rfl
  obtain ⟨N, d, x, m, rfl, r, q⟩ := h
  refine ⟨_, (pss_one (ps_ret (pe_k Gis_between (hr.mono (by first | decide | omega)) (by rfl) (pa_cons (pv 0) (pa_cons pe_int (pa_cons (pe_op op_sub (pv 1) pe_int) pa_nil)))))), ?_⟩
  refine ⟨x, rfl, _, rfl, _, _, rfl, rfl, N, d, x, _, _, rfl, r, fun H' sm => ?_⟩
  have z := q H' sm
  rw [← per_bet] at z
  exact z
theorem k_ascending (B : Bl mg) (D : Dfn K mg "is_ascending" sis_ascending ["row"]) : Kept P w K mg base 1 "is_ascending" ["row"] (spAsc K) := by
  refine D.kept (N := Nis_ascending) scis_ascending (fun vs H Q E h => ?_) (fun f cdv A outer s H vs Q E hr h => ?_)
  · obtain ⟨a, ns, rfl, _⟩ := h
    rfl
  obtain ⟨a, ns, rfl, hS, hl, q⟩ := h
  refine ⟨_, (pss_one (ps_ret (pe_callB (cr_all rfl) (by rfl) B.b_all (by decide +kernel) (pa_cons (pe_lc (own := [("k", 1)]) (g := gName 1) (by rfl) scis_ascending.nd (pi_range1 (by rfl) B.b_range (pa_cons (pe_op op_sub (pe_callB call_len_seq (by rfl) B.b_len PySem.boot_len (pa_cons (pv 0) pa_nil)) pe_int) pa_nil)) (blkOk_by (own := [("k", 1)]) (N := Nis_ascending) (sc := defScope sis_ascending) (by decide +kernel)) (fun _ _ _ _ _ => (pg_name (i := 1) scis_ascending.nd rfl (Or.inl rfl))) (fun _ _ _ _ _ => pts_nil) (fun _ _ _ _ _ => (pe_cmpR op_lt (pe_ix (ix_tupK (K := K) rfl) (pv 0) (pv 1) (fun _ _ => rfl)) (pe_ix (ix_tupK (K := K) rfl) (pv 0) (pe_op op_add (pv 1) pe_int) (fun _ _ => rfl)) (nomark _)))) pa_nil)))), ?_⟩
  have hlm : (ns.map V.int).length = ns.length := List.length_map _
  have itm : ∀ k : Nat, k < ns.length → (ns.map V.int)[k]? = some (.int (ns.getD k 0)) := fun k hk => by
    rw [List.getElem?_map, List.getElem?_eq_getElem hk, List.getD_eq_getElem?_getD, List.getElem?_eq_getElem hk]
    rfl
  refine ⟨_, rfl, a, _, rfl, .inr hS, _, _, rfl, rfl, _, rfl, by rw [hlm]; omega, by rw [hlm]; omega, fun D nD => ?_⟩
  refine lc_range (lo := 0) (n := (((ns.map V.int).length : Int) - 1).toNat) (fun i H' => Same H H' ∧ H' D = some (.lst (((List.range i).map fun k => decide (ns.getD k 0 < ns.getD (k + 1) 0)).map V.bl))) ⟨same_new nD, upd_same⟩ ?_ ?_
  · rintro i H' hi ⟨sm, hD⟩
    have h1 : i + 1 < ns.length := by omega
    refine ⟨rfl, ?_⟩
    refine ⟨_, rfl, _, rfl, a, _, _, .int (ns.getD i 0), rfl, rfl, sm.seqT hS, ?_, _, rfl, _, rfl, _, _, rfl, rfl, a, _, _, .int (ns.getD (i + 1) 0), rfl, rfl, sm.seqT hS, ?_, _, _, rfl, rfl, _, hD, ?_, same_mut sm nD, ?_⟩
    · rw [Int.zero_add]
      exact atI_nat (itm i (by omega))
    · have e : (0 : Int) + (i : Int) + 1 = ((i + 1 : Nat) : Int) := by omega
      show atI _ ((0 : Int) + (i : Int) + 1) = _
      rw [e]
      exact atI_nat (itm (i + 1) h1)
    · rw [List.length_map, List.length_map, List.length_range]
      exact len_lt (by omega)
    · rw [upd_same, List.range_succ, List.map_append, List.map_append]
      rfl
  · rintro H' ⟨sm, hD⟩
    refine ⟨D, _, rfl, SqL.of hD, ?_⟩
    have e : (((ns.map V.int).length : Int) - 1).toNat = ns.length - 1 := by omega
    rw [e, ← asc_range]
    exact q H' sm
theorem k_pocket (B : Bl mg) (D : Dfn K mg "is_pocket" sis_pocket ["thing", "u", "many"]) (Gis_person : Kept P w K mg base 3 "is_person" ["thing", "many"] spPerson) (Gis_ascending : Kept P w K mg base 1 "is_ascending" ["row"] (spAsc K)) : Kept P w K mg base 4 "is_pocket" ["thing", "u", "many"] spPocket := by
  refine D.kept (N := Nis_pocket) scis_pocket (fun vs H Q E h => ?_) (fun f cdv A outer s H vs Q E hr h => ?_)
  · obtain ⟨N, d, x, u, m, rfl, _⟩ := h
    rfl
  obtain ⟨N, d, x, u, m, rfl, r, sh, q⟩ := h
  refine ⟨_, (pss_cons (ps_if (pt_not (pt_val (pe_callB call_isi (by rfl) B.b_isinstance (by decide +kernel) (pa_cons (pv 0) (pa_cons (pe_bltn (v := .ty "tuple") (by rfl) B.b_tuple (by decide +kernel) rfl) pa_nil))))) (pss_one (ps_ret pe_bl)) pss_nil)
      (pss_one (ps_ret (pe_and (pe_callB (cr_all rfl) (by rfl) B.b_all (by decide +kernel) (pa_cons (pe_lc (own := [("w", 3)]) (g := gName 3) (by rfl) scis_pocket.nd (pi_tup (pv 0)) (blkOk_by (own := [("w", 3)]) (N := Nis_pocket) (sc := defScope sis_pocket) (by decide +kernel)) (fun _ _ _ _ _ => (pg_name (i := 3) scis_pocket.nd rfl (Or.inl rfl))) (fun _ _ _ _ _ => pts_nil) (fun _ _ _ _ _ => (pe_and (pe_k Gis_person (hr.mono (by first | decide | omega)) (by rfl) (pa_cons (pv 3) (pa_cons (pv 2) pa_nil))) (pe_one (pe_cmpR op_ne (pv 3) (pv 1) (nomark _)))))) pa_nil)) (pe_one (pe_k Gis_ascending (hr.mono (by first | decide | omega)) (by rfl) (pa_cons (pv 0) pa_nil))))))), ?_⟩
  refine ⟨x, rfl, x, _, _, _, isTupD d, rfl, .ty _, r.ty, kit_ty (kit_tup d), _, rfl, ite2 (fun e => ?_) (fun e => ?_)⟩
  · have z := q H (Same.refl H)
    cases d with
    | tuple ds => cases e
    | _ => exact z
  · cases d with
    | tuple ds =>
      obtain ⟨a, xs, rfl, ha, rl⟩ := r
      have hl := rl.length
      refine ⟨.ref a, rfl, a, rfl, ⟨xs, SqT.of ha⟩, fun D nD => ?_⟩
      refine lc_tup (xs := xs) (fun i H' => Same H H' ∧ H' D = some (.lst (((ds.take i).map fun d => perB m d && !decide (intOf d = u)).map V.bl))) ⟨same_new nD, upd_same⟩ (fun i H' _ p => SqT.of (p.1 _ _ ha)) ?_ ?_
      · rintro i x H' hx ⟨sm, hD⟩
        obtain ⟨d, hd, rx⟩ := rl.get hx
        have hi : i < ds.length := (List.getElem?_eq_some_iff.mp hd).1
        have tk : ds.take (i + 1) = ds.take i ++ [d] := by
          rw [List.take_succ, hd]
          rfl
        refine ⟨rfl, x, rfl, _, rfl, N, d, x, m, rfl, rx.same sm, fun H'' s2 => ?_⟩
        have hD2 := s2 _ _ hD
        have sz : (((ds.take i).map fun d => perB m d && !decide (intOf d = u)).map V.bl).length < sizeLine := by
          rw [List.length_map, List.length_map, List.length_take]
          refine len_lt ?_
          have : ds.length ≤ 1000 := sh
          omega
        refine ⟨_, rfl, ite2 (fun e1 => ?_) (fun e1 => ?_)⟩
        · cases d with
          | int k =>
            obtain rfl : x = V.int k := rx
            refine ⟨_, rfl, _, rfl, rfl, _, hD2, sz, same_mut (sm.trans s2) nD, ?_⟩
            rw [upd_same, tk, List.map_append, List.map_append]
            have y : (perB m (.int k) && !decide (intOf (.int k) = u)) = !decide (V.int k = V.int u) := by
              rw [show perB m (.int k) = true from e1, Bool.true_and]
              congr 1
              exact decide_eq_decide.mpr ⟨fun z => by rw [show k = u from z], fun z => V.int.inj z⟩
            show some (HO.lst (_ ++ [V.bl _])) = some (HO.lst (_ ++ [V.bl (perB m (.int k) && !decide (intOf (.int k) = u))]))
            rw [y]
          | _ => cases e1
        · refine ⟨_, hD2, sz, same_mut (sm.trans s2) nD, ?_⟩
          rw [upd_same, tk, List.map_append, List.map_append]
          have y : (perB m d && !decide (intOf d = u)) = false := by rw [show perB m d = false from Bool.eq_false_iff.mpr e1, Bool.false_and]
          show some (HO.lst (_ ++ [V.bl _])) = some (HO.lst (_ ++ [V.bl (perB m d && !decide (intOf d = u))]))
          rw [y]
      · rintro H' ⟨sm, hD⟩
        rw [hl, List.take_length] at hD
        refine ⟨D, _, rfl, SqL.of hD, ?_⟩
        have ea : ((ds.map fun d => perB m d && !decide (intOf d = u)).all id) = ds.all fun d => perB m d && !decide (intOf d = u) := by rw [List.all_map]; rfl
        rw [ea]
        refine ⟨_, rfl, ite2 (fun e1 => ?_) (fun e1 => ?_)⟩
        · have en := pers_ints e1
          have rn := rl.same sm
          rw [en] at rn
          have ex := rn.ints
          refine ⟨.ref a, rfl, a, ds.map intOf, rfl, ?_, ?_, fun H'' s2 => ?_⟩
          · rw [← ex]
            exact SqT.of (sm _ _ ha)
          · rw [List.length_map]
            exact sh
          · have z := q H'' (sm.trans s2)
            have y : pocketB u m (.tuple ds) = asc (ds.map intOf) := by
              show (ds.all _ && _) = _
              rw [e1, Bool.true_and]
            rw [y] at z
            exact z
        · have z := q H' sm
          have y : pocketB u m (.tuple ds) = false := by
            show (ds.all _ && _) = _
            rw [Bool.eq_false_iff.mpr e1, Bool.false_and]
          rw [y] at z
          exact z
    | _ => exact absurd rfl e
theorem k_is_web (B : Bl mg) {tk : Tok} (cMOST_PEOPLE : mg "MOST_PEOPLE" = some (.int 9 tk)) (D : Dfn K mg "is_web" sis_web ["thing"]) (Gis_pocket : Kept P w K mg base 4 "is_pocket" ["thing", "u", "many"] spPocket) : Kept P w K mg base 5 "is_web" ["thing"] spWeb := by
  refine D.kept (N := Nis_web) scis_web (fun vs H Q E h => ?_) (fun f cdv A outer s H vs Q E hr h => ?_)
  · obtain ⟨N, d, x, rfl, _⟩ := h
    rfl
  obtain ⟨N, d, x, rfl, r, sh, q⟩ := h
  refine ⟨_, (pss_cons (ps_if (pw_or (pt_not (pt_val (pe_callB call_isi (by rfl) B.b_isinstance (by decide +kernel) (pa_cons (pv 0) (pa_cons (pe_bltn (v := .ty "tuple") (by rfl) B.b_tuple (by decide +kernel) rfl) pa_nil))))) (pw_or1 (pt_not (pt_chain op_le op_le pe_int (pe_callB call_len_seq (by rfl) B.b_len PySem.boot_len (pa_cons (pv 0) pa_nil)) (pe_glob (v := .int 9) (by rfl) cMOST_PEOPLE ⟨_, rfl⟩))))).pt (pss_one (ps_ret pe_bl)) pss_nil)
      (pss_one (ps_ret (pe_callB (cr_all rfl) (by rfl) B.b_all (by decide +kernel) (pa_cons (pe_lc (own := [("u", 1)]) (g := gName 1) (by rfl) scis_web.nd (pi_range1 (by rfl) B.b_range (pa_cons (pe_callB call_len_seq (by rfl) B.b_len PySem.boot_len (pa_cons (pv 0) pa_nil)) pa_nil)) (blkOk_by (own := [("u", 1)]) (N := Nis_web) (sc := defScope sis_web) (by decide +kernel)) (fun _ _ _ _ _ => (pg_name (i := 1) scis_web.nd rfl (Or.inl rfl))) (fun _ _ _ _ _ => pts_nil) (fun _ _ _ _ _ => (pe_k Gis_pocket (hr.mono (by first | decide | omega)) (by rfl) (pa_cons (pe_ix (ix_tupK (K := K) rfl) (pv 0) (pv 1) (fun _ _ => rfl)) (pa_cons (pv 1) (pa_cons (pe_callB (lenK (K := K) rfl) (by rfl) B.b_len PySem.boot_len (pa_cons (pv 0) pa_nil)) pa_nil)))))) pa_nil))))), ?_⟩
  refine ⟨x, rfl, x, _, _, _, isTupD d, rfl, .ty _, r.ty, kit_ty (kit_tup d), _, rfl, ?_⟩
  have z := q H (Same.refl H)
  refine ite2 (fun e => ite2 (fun _ => ?_) (fun n => absurd rfl n)) (fun e => ?_)
  · cases d with
    | tuple ds => cases e
    | _ => exact z
  · cases d with
    | tuple ds =>
      obtain ⟨a, xs, rfl, ha, rl⟩ := r
      have hl := rl.length
      refine ⟨.ref a, rfl, a, xs, rfl, .inr (SqT.of ha), _, _, rfl, rfl, _, rfl, ?_⟩
      have webF : ¬ (1 ≤ ds.length ∧ ds.length ≤ 9) → webB (.tuple ds) = false := fun n => by
        show ((decide _ && decide _) && _) = false
        rw [← Bool.decide_and, decide_eq_false n, Bool.false_and]
      refine ite2 (fun e1 => ⟨_, _, rfl, rfl, _, rfl, ite2 (fun e2 => ?_) (fun e2 => ?_)⟩) (fun e1 => ⟨_, rfl, ite2 (fun _ => ?_) (fun n => absurd rfl n)⟩)
      · have n : ¬ ds.length ≤ 9 := fun z => by
          have : ((xs.length : Int) ≤ 9) := by omega
          rw [show decide ((xs.length : Int) ≤ 9) = true from decide_eq_true this] at e2
          cases e2
        rw [webF (fun z => n z.2)] at z
        exact z
      · have h1 : 1 ≤ ds.length := by
          have := of_decide_eq_true e1
          omega
        have h9 : ds.length ≤ 9 := by
          rcases Nat.lt_or_ge 9 ds.length with k | k
          · have : ¬ ((xs.length : Int) ≤ 9) := by omega
            rw [show decide ((xs.length : Int) ≤ 9) = false from decide_eq_false this] at e2
            exact absurd rfl e2
          · exact k
        refine ⟨.ref a, rfl, a, xs, rfl, .inr (SqT.of ha), _, rfl, by omega, by omega, fun D nD => ?_⟩
        refine lc_range (lo := 0) (n := (xs.length : Int).toNat) (fun i H' => Same H H' ∧ H' D = some (.lst (((List.range i).map fun k => pocketB ((0 + k : Nat) : Int) (ds.length : Int) (ds.getD k .none)).map V.bl))) ⟨same_new nD, upd_same⟩ ?_ ?_
        · rintro i H' hi ⟨sm, hD⟩
          have hi' : i < ds.length := by omega
          have hx : xs[i]? = some xs[i] := List.getElem?_eq_getElem (by omega)
          obtain ⟨p, hp, rp⟩ := rl.get hx
          refine ⟨rfl, ?_⟩
          have ei : (0 : Int) + (i : Int) = ((i : Nat) : Int) := by omega
          have h0 : atI xs ((0 : Int) + (i : Int)) = some xs[i] := by
            rw [ei]
            exact atI_nat hx
          have sp : short p := sh.2 p (List.mem_of_getElem? hp)
          refine ⟨_, rfl, _, rfl, a, xs, _, xs[i], rfl, rfl, SqT.of (sm _ _ ha), h0, _, rfl, _, rfl, a, xs, rfl, .inr (SqT.of (sm _ _ ha)), N, p, xs[i], _, _, rfl, rp.same sm, sp, fun H'' s2 => ?_⟩
          refine ⟨_, s2 _ _ hD, ?_, same_mut (sm.trans s2) nD, ?_⟩
          · rw [List.length_map, List.length_map, List.length_range]
            exact len_lt (by omega)
          · rw [upd_same, List.range_succ, List.map_append, List.map_append]
            show some (HO.lst (_ ++ [V.bl _])) = some (HO.lst (_ ++ [V.bl _]))
            have y : pocketB ((0 : Int) + (i : Int)) (xs.length : Int) p = pocketB ((0 + i : Nat) : Int) (ds.length : Int) (ds.getD i .none) := by
              rw [List.getD_eq_getElem?_getD, hp, hl, show (0 : Int) + (i : Int) = ((0 + i : Nat) : Int) by omega]
              rfl
            rw [y]
        · rintro H' ⟨sm, hD⟩
          refine ⟨D, _, rfl, SqL.of hD, ?_⟩
          have y : webB (.tuple ds) = ((List.range (xs.length : Int).toNat).map fun k => pocketB ((0 + k : Nat) : Int) (ds.length : Int) (ds.getD k .none)).all id := by
            rw [show (xs.length : Int).toNat = ds.length by omega, ← pocketsB_range]
            show ((decide _ && decide _) && _) = _
            rw [decide_eq_true h1, decide_eq_true h9]
            rfl
          rw [← y]
          exact q H' sm
      · have n : ¬ 1 ≤ ds.length := fun z => by
          have : (1 ≤ (xs.length : Int)) := by omega
          rw [show decide (1 ≤ (xs.length : Int)) = true from decide_eq_true this] at e1
          exact e1 rfl
        rw [webF (fun z => n z.1)] at z
        exact z
    | _ => exact absurd rfl e
end
end Lw

set_option maxHeartbeats 4000000
namespace Lw
open PySem PySem.Spec PyProof.Rows L2 EF Hn
open PySem.W (Frag keepIn)
abbrev ssteps_from : Stmt := top 16
abbrev Nsteps_from : List Str := ["pockets", "start", "steps", "last", "further", "u", "w"]
theorem scsteps_from : FnScope Nsteps_from ["pockets", "start"] (defScope ssteps_from) := ⟨rfl, rfl, rfl, by decide +kernel, rfl, by decide +kernel, by decide +kernel⟩
abbrev sfound_from : Stmt := top 17
abbrev Nfound_from : List Str := ["pockets", "start"]
theorem scfound_from : FnScope Nfound_from ["pockets", "start"] (defScope sfound_from) := ⟨rfl, rfl, rfl, by decide +kernel, rfl, by decide +kernel, by decide +kernel⟩
abbrev sall_found : Stmt := top 18
abbrev Nall_found : List Str := ["pockets", "u"]
theorem scall_found : FnScope Nall_found ["pockets"] (defScope sall_found) := ⟨rfl, rfl, rfl, by decide +kernel, rfl, by decide +kernel, by decide +kernel⟩
abbrev sboth_ways : Stmt := top 19
abbrev Nboth_ways : List Str := ["pockets", "linked", "pocket", "u", "w"]
theorem scboth_ways : FnScope Nboth_ways ["pockets"] (defScope sboth_ways) := ⟨rfl, rfl, rfl, by decide +kernel, rfl, by decide +kernel, by decide +kernel⟩
abbrev sknot_around : Stmt := top 22
abbrev Nknot_around : List Str := ["u", "found", "w"]
theorem scknot_around : FnScope Nknot_around ["u", "found"] (defScope sknot_around) := ⟨rfl, rfl, rfl, by decide +kernel, rfl, by decide +kernel, by decide +kernel⟩
abbrev sknots_among : Stmt := top 21
abbrev Nknots_among : List Str := ["found", "u"]
theorem scknots_among : FnScope Nknots_among ["found"] (defScope sknots_among) := ⟨rfl, rfl, rfl, by decide +kernel, rfl, by decide +kernel, by decide +kernel⟩
abbrev spieces_among : Stmt := top 20
abbrev Npieces_among : List Str := ["pockets"]
theorem scpieces_among : FnScope Npieces_among ["pockets"] (defScope spieces_among) := ⟨rfl, rfl, rfl, by decide +kernel, rfl, by decide +kernel, by decide +kernel⟩
abbrev scheck_web : Stmt := top 12
abbrev Ncheck_web : List Str := ["thing"]
theorem sccheck_web : FnScope Ncheck_web ["thing"] (defScope scheck_web) := ⟨rfl, rfl, rfl, by decide +kernel, rfl, by decide +kernel, by decide +kernel⟩
abbrev sfinds : Stmt := top 13
abbrev Nfinds : List Str := ["web"]
theorem scfinds : FnScope Nfinds ["web"] (defScope sfinds) := ⟨rfl, rfl, rfl, by decide +kernel, rfl, by decide +kernel, by decide +kernel⟩
abbrev spieces : Stmt := top 14
abbrev Npieces : List Str := ["web"]
theorem scpieces : FnScope Npieces ["web"] (defScope spieces) := ⟨rfl, rfl, rfl, by decide +kernel, rfl, by decide +kernel, by decide +kernel⟩
abbrev sknots : Stmt := top 15
abbrev Nknots : List Str := ["web"]
theorem scknots : FnScope Nknots ["web"] (defScope sknots) := ⟨rfl, rfl, rfl, by decide +kernel, rfl, by decide +kernel, by decide +kernel⟩
theorem seqL_same {K : Frag} {H H' : Hp} {a : Addr} {xs : List V} (e : Same H H') (h : SqL K H a xs) : SqL K H' a xs := by
  rcases h with (h | ⟨o, h⟩) | h
  · exact .inl (.inl (e _ _ h))
  · exact .inl (.inr ⟨o, e _ _ h⟩)
  · exact .inr h
/-- a is a tuple of tuples of ints, or a list of lists of ints -/
def Grid (K : Frag) (t : Bool) (H : Hp) (a : Addr) (rows : List (List Int)) : Prop :=
  ∃ as : List Addr, (bif t then SqT K H a (as.map V.ref) else SqL K H a (as.map V.ref)) ∧ as.length = rows.length ∧ ∀ (i : Nat) (p : Addr) (r : List Int), as[i]? = some p → rows[i]? = some r → (bif t then SqT K H p (r.map V.int) else SqL K H p (r.map V.int))
theorem Grid.same {K : Frag} {t : Bool} {H H' : Hp} {a : Addr} {rows : List (List Int)} (g : Grid K t H a rows) (s : Same H H') : Grid K t H' a rows := by
  obtain ⟨as, h1, h2, h3⟩ := g
  cases t with
  | true => exact ⟨as, s.seqT h1, h2, fun i p r e1 e2 => s.seqT (h3 i p r e1 e2)⟩
  | false => exact ⟨as, seqL_same s h1, h2, fun i p r e1 e2 => seqL_same s (h3 i p r e1 e2)⟩
/-- the people whom u finds, each with how far it is -/
def spSteps (K : Frag) : Sp := fun vs H Q _ => ∃ (t : Bool) (a : Addr) (rows : List (List Int)) (u : Int), vs = [.ref a, .int u] ∧ Grid K t H a rows ∧ rows.length ≤ 9 ∧ InRange rows ∧ (0 ≤ u ∧ u < (rows.length : Int)) ∧
  ∀ (p : Addr) (kvs : List (Int × Int)) (H' : Hp), Same H H' → H p = none → H' p = some (.dK (encI kvs)) → Dists rows u kvs → kvs.length ≤ 9 → Q (.ref p) H'
/-- the people whom u finds, ascending -/
def spFound (K : Frag) : Sp := fun vs H Q _ => ∃ (t : Bool) (a : Addr) (rows : List (List Int)) (u : Int), vs = [.ref a, .int u] ∧ Grid K t H a rows ∧ rows.length ≤ 9 ∧ InRange rows ∧ (0 ≤ u ∧ u < (rows.length : Int)) ∧
  ∀ (p : Addr) (ns : List Int) (H' : Hp), Same H H' → H p = none → H' p = some (.tup (ns.map V.int)) → ns.Pairwise (· < ·) → (∀ k, k ∈ ns ↔ Reach rows u k) → ns.length ≤ 9 → Q (.ref p) H'
/-- for each person the row of whom they find -/
def Finds (rows fs : List (List Int)) : Prop := fs.length = rows.length ∧ ∀ (i : Nat) (f : List Int), fs[i]? = some f → f.Pairwise (· < ·) ∧ (∀ k, k ∈ f ↔ Reach rows i k) ∧ f.length ≤ 9
def spAll (K : Frag) : Sp := fun vs H Q _ => ∃ (t : Bool) (a : Addr) (rows : List (List Int)), vs = [.ref a] ∧ Grid K t H a rows ∧ rows.length ≤ 9 ∧ InRange rows ∧
  ∀ (p : Addr) (fs : List (List Int)) (H' : Hp), Same H H' → H p = none → Grid K true H' p fs → Finds rows fs → Q (.ref p) H'
section
variable {P : Program} {w : World} {K : Frag} {mg : Str → Option Value} {base : Heap}
theorem get_snoc {α : Type} {xs : List α} {x y : α} {j : Nat} (h : (xs ++ [y])[j]? = some x) : xs[j]? = some x ∨ (j = xs.length ∧ x = y) := by
  rcases Nat.lt_or_ge j xs.length with k | k
  · rw [List.getElem?_append_left k] at h
    exact .inl h
  · rw [List.getElem?_append_right k] at h
    rcases Nat.eq_zero_or_pos (j - xs.length) with z | z
    · rw [z] at h
      exact .inr ⟨by omega, (Option.some.inj h).symm⟩
    · rw [List.getElem?_eq_none (by show 1 ≤ _; exact z)] at h
      cases h
theorem none_of {H H' : Hp} {a : Addr} (s : Same H H') (n : H' a = none) : H a = none := by
  cases z : H a with
  | none => rfl
  | some o =>
    rw [s _ _ z] at n
    cases n
/-- while the search from u goes on: D holds who is seen, L is a list of l -/
structure Way (H0 : Hp) (D L : Addr) (kvs : List (Int × Int)) (l : List Int) (H : Hp) : Prop where
  sm : Same H0 H
  nD : H0 D = none
  hD : H D = some (.dK (encI kvs))
  hL : H L = some (.lst (l.map V.int))
theorem Way.ne {H0 H : Hp} {D L : Addr} {kvs : List (Int × Int)} {l : List Int} (k : Way H0 D L kvs l H) : D ≠ L := fun z => by
  have h := k.hD
  rw [z, k.hL] at h
  cases h
theorem k_steps_from (B : Bl mg) (D : Dfn K mg "steps_from" ssteps_from ["pockets", "start"]) : Kept P w K mg base 1 "steps_from" ["pockets", "start"] (spSteps K) := by
  refine D.kept (N := Nsteps_from) scsteps_from (fun vs H Q E h => ?_) (fun f cdv A outer s H vs Q E hr h => ?_)
  · obtain ⟨t, a, rows, u, rfl, _⟩ := h
    rfl
  obtain ⟨t, a, rows, u, rfl, g, h9, hin, hu, q⟩ := h
  obtain ⟨as, g1, g2, g3⟩ := g
  cases t with
  | true =>
    refine ⟨_, (pss_cons (ps_set (i := 2) scsteps_from.nd rfl (Or.inl rfl) (pe_disp (pps_cons (pv 1) pe_int pps_nil) (by rfl) (by rfl) (fun z => by cases z) (by decide)))
      (pss_cons (ps_set (i := 3) scsteps_from.nd rfl (Or.inl rfl) (pe_lst (pa_cons (pv 1) pa_nil)))
      (pss_cons (ps_while PassesOwn.never (pt_truth (pv 3) (by intro _; rfl)) (pss_cons (ps_set (i := 4) scsteps_from.nd rfl (Or.inl rfl) (pe_lst pa_nil))
      (pss_cons (ps_for PassesOwn.never rfl (pi_list (pv 3)) (pg_name (i := 5) scsteps_from.nd rfl (Or.inl rfl)) (pss_one (ps_for PassesOwn.never rfl (pi_tup (pe_ix ix_tup (pv 0) (pv 5) (fun _ _ => rfl))) (pg_name (i := 6) scsteps_from.nd rfl (Or.inl rfl)) (pss_one (ps_if (pt_cmp (pc_dnotin (hu_of hr) (pv 6) (pv 2))) (pss_cons (ps_dput (hu_of hr) (pv 2) (pv 6) (pe_op op_add (pe_dget (hu_of hr) (pv 2) (pv 5) (fun _ _ => rfl)) pe_int) rfl)
      (pss_one (ps_expr (pe_bm PySem.F.plainAttrs_list PySem.F.slot_list_append PySem.F.type_list_append mt_append (pv 4) (pa_cons (pv 6) pa_nil))))) pss_nil)))))
      (pss_one (ps_set (i := 3) scsteps_from.nd rfl (Or.inl rfl) (pv 4))))))
      (pss_one (ps_ret (pv 2)))))), ?_⟩
    intro D nD
    refine ⟨_, rfl, upd_same, [(Sum.inl u, V.int 0)], rfl, (by decide : 1 ≤ 15), ?_⟩
    have hm : mergeK [] [((Sum.inl u : Key), V.int 0)] = encI [(u, 0)] := rfl
    rw [hm]
    generalize e1 : upd (upd H D _) D _ = H1
    have sm1 : Same H H1 := by
      rw [← e1]
      exact same_mut (same_new nD) nD
    have hD1 : H1 D = some (.dK (encI [(u, 0)])) := by
      rw [← e1]
      exact upd_same
    clear e1
    refine ⟨_, rfl, len_le (by decide : 1 ≤ 1000), fun L nL => ?_⟩
    have nLD : L ≠ D := fun z => by
      rw [z, hD1] at nL
      cases nL
    have way0 : Way H D L [(u, 0)] [u] (upd H1 L (.lst [.int u])) := by
      refine ⟨sm1.trans (same_new nL), nD, ?_, upd_same⟩
      rw [upd_ne (Ne.symm nLD)]
      exact hD1
    generalize upd H1 L (.lst [.int u]) = H2 at way0 ⊢
    have hu' : 0 ≤ u ∧ u < (rows.length : Int) := hu
    refine ⟨fun n σ H' => ∃ kvs l m L x4 x5 x6, σ = [some (.ref a), some (.int u), some (.ref D), some (.ref L), x4, x5, x6] ∧ Way H D L kvs l H' ∧ Lay rows u kvs l m ∧ l.length ≤ kvs.length ∧ n = 2 * (rows.length - kvs.length) + l.length, ⟨_, _, _, 0, _, _, _, _, rfl, way0, Lay.start, Nat.le_refl _, rfl⟩, ?_⟩
    rintro n σ H3 ⟨kvs, l, m, L, x4, x5, x6, rfl, way, ly, lk, rfl⟩
    refine ⟨_, rfl, !(l.map V.int).isEmpty, .inl ⟨_, SqL.of way.hL, rfl⟩, ?_⟩
    have c9 := ly.few hin hu'
    refine ite2 (fun e => ⟨_, fun _ _ z => z, ?_⟩) (fun e => ?_)
    · have l0 : l ≠ [] := fun z => by
        rw [z] at e
        cases e
      have l1 : 0 < l.length := List.length_pos_iff.mpr l0
      refine ⟨len_le (by decide : 0 ≤ 1000), fun F nF => ?_⟩
      have nFD : F ≠ D := fun z => by
        rw [z, way.hD] at nF
        cases nF
      have nFL : F ≠ L := fun z => by
        rw [z, way.hL] at nF
        cases nF
      have way1 : Way H D L kvs l (upd H3 F (.lst [])) := ⟨way.sm.trans (same_new nF), way.nD, by rw [upd_ne (Ne.symm nFD)]; exact way.hD, by rw [upd_ne (Ne.symm nFL)]; exact way.hL⟩
      have hF1 : upd H3 F (.lst []) F = some (.lst (([] : List Int).map V.int)) := upd_same
      have nF0 := none_of way.sm nF
      generalize upd H3 F (.lst []) = H4 at way1 hF1 ⊢
      refine ⟨_, rfl, L, rfl, ⟨_, SqL.of way1.hL⟩, ?_⟩
      refine for_list (xs := l.map V.int) (fun i σ H' => ∃ kvs' f y5 y6, σ = [some (.ref a), some (.int u), some (.ref D), some (.ref L), some (.ref F), y5, y6] ∧ Way H D L kvs' l H' ∧ H' F = some (.lst (f.map V.int)) ∧ Mid rows u l m (fun k x => k ∈ l.take i ∧ x ∈ rowAt rows k) kvs' f ∧ kvs'.length = kvs.length + f.length) ?_ ?_ ?_ ?_
      · refine ⟨kvs, [], _, _, rfl, way1, hF1, ?_, rfl⟩
        have z := ly.mid
        exact ⟨z.nd, z.re, z.st, z.low, z.lay, z.fu, z.dn, fun k x p => absurd p.1 List.not_mem_nil, z.m0⟩
      · rintro i σ H' _ ⟨kvs', f, y5, y6, rfl, way', _⟩
        exact SqL.of way'.hL
      · rintro i x σ H' hx ⟨kvs', f, y5, y6, rfl, way', hF, md, el⟩
        rw [List.getElem?_map] at hx
        obtain ⟨v, hv, rfl⟩ := Option.map_eq_some_iff.mp hx
        have vl : v ∈ l := List.mem_of_getElem? hv
        have dv := (ly.lay v).mp vl
        have hvr := (ly.re v m dv).range hin hu'
        have tks : l.take (i + 1) = l.take i ++ [v] := by
          rw [List.take_succ, hv]
          rfl
        obtain ⟨p, hp⟩ : ∃ p, as[v.toNat]? = some p := ⟨_, List.getElem?_eq_getElem (by omega)⟩
        obtain ⟨r, hr'⟩ : ∃ r, rows[v.toNat]? = some r := ⟨_, List.getElem?_eq_getElem (by omega)⟩
        have rv : rowAt rows v = r := by
          unfold rowAt
          rw [List.getD_eq_getElem?_getD, hr']
          rfl
        have hpr : SqT K H p (r.map V.int) := g3 _ _ _ hp hr'
        have hat : atI (as.map V.ref) v = some (V.ref p) := by
          have ev : v = ((v.toNat : Nat) : Int) := by omega
          rw [ev]
          refine atI_nat ?_
          rw [List.getElem?_map, hp]
          rfl
        refine ⟨_, rfl, _, rfl, a, _, _, .ref p, rfl, rfl, way'.sm.seqT g1, hat, p, rfl, ⟨_, way'.sm.seqT hpr⟩, ?_⟩
        refine for_tup (xs := r.map V.int) (fun j σ H' => ∃ kvs' f y6, σ = [some (.ref a), some (.int u), some (.ref D), some (.ref L), some (.ref F), some (.int v), y6] ∧ Way H D L kvs' l H' ∧ H' F = some (.lst (f.map V.int)) ∧ Mid rows u l m (fun k x => (k ∈ l.take i ∧ x ∈ rowAt rows k) ∨ (k = v ∧ x ∈ r.take j)) kvs' f ∧ kvs'.length = kvs.length + f.length) ?_ ?_ ?_ ?_
        · refine ⟨kvs', f, _, rfl, way', hF, ?_, el⟩
          exact ⟨md.nd, md.re, md.st, md.low, md.lay, md.fu, md.dn, fun k x p => p.elim (md.cur k x) fun z => absurd z.2 List.not_mem_nil, md.m0⟩
        · rintro j σ H5 _ ⟨kvs2, f2, z6, rfl, way2, _⟩
          exact way2.sm.seqT hpr
        · rintro j x σ H5 hx ⟨kvs2, f2, z6, rfl, way2, hF2, md2, el2⟩
          rw [List.getElem?_map] at hx
          obtain ⟨w0, hw0, rfl⟩ := Option.map_eq_some_iff.mp hx
          have hwr : w0 ∈ rowAt rows v := by
            rw [rv]
            exact List.mem_of_getElem? hw0
          have tkj : r.take (j + 1) = r.take j ++ [w0] := by
            rw [List.take_succ, hw0]
            rfl
          have pe : ∀ k x, ((k ∈ l.take i ∧ x ∈ rowAt rows k) ∨ (k = v ∧ x ∈ r.take (j + 1))) → ((k ∈ l.take i ∧ x ∈ rowAt rows k) ∨ (k = v ∧ x ∈ r.take j)) ∨ x = w0 := fun k x p => by
            rcases p with z | ⟨z1, z2⟩
            · exact .inl (.inl z)
            · rw [tkj] at z2
              rcases List.mem_append.mp z2 with y | y
              · exact .inl (.inr ⟨z1, y⟩)
              · exact .inr (List.mem_singleton.mp y)
          have c10 := md2.few hin hu'
          refine ⟨_, rfl, _, rfl, D, _, rfl, DGet.k (k := Sum.inl w0) way2.hD, _, rfl, ?_⟩
          rw [valV_enc]
          cases ew : dist kvs2 w0 with
          | some d =>
            refine ite2 (fun n => by cases n) (fun _ => ?_)
            exact ⟨kvs2, f2, _, rfl, way2, hF2, md2.skip ew pe, el2⟩
          | none =>
            refine ite2 (fun _ => ?_) (fun n => absurd rfl n)
            have dv2 := (md2.lay v).mp vl
            have eg : valV (encI kvs2) (Sum.inl v) = some (V.int m) := by rw [valV_enc, dv2]; rfl
            refine ⟨_, rfl, _, rfl, D, V.int m, rfl, ?_, m, 1, rfl, rfl, _, rfl, _, rfl, D, _, rfl, DPut.k (k := Sum.inl w0) way2.hD ?_, ?_⟩
            · rw [← eg]
              exact DGet.k (k := Sum.inl v) way2.hD
            · show (kvs2.map _).length < sizeLine
              rw [List.length_map]
              exact len_lt (by omega)
            · rw [enc_put ew]
              have nDF : D ≠ F := fun z => by
                have h := way2.hD
                rw [z, hF2] at h
                cases h
              have hF3 : upd H5 D (.dK (encI (kvs2 ++ [(w0, m + 1)]))) F = some (.lst (f2.map V.int)) := by
                rw [upd_ne (Ne.symm nDF)]
                exact hF2
              refine ⟨_, rfl, .inl ⟨rfl, _, SqL.of hF3⟩, _, rfl, F, _, _, rfl, rfl, hF3, by rw [List.length_map]; exact len_lt (by omega), ?_⟩
              refine ⟨kvs2 ++ [(w0, m + 1)], f2 ++ [w0], _, rfl, ⟨same_mut (same_mut way2.sm way2.nD) nF0, way2.nD, ?_, ?_⟩, ?_, md2.add vl hwr ew pe, ?_⟩
              · rw [upd_ne nDF]
                exact upd_same
              · rw [upd_ne (Ne.symm nFL), upd_ne (Ne.symm way2.ne)]
                exact way2.hL
              · rw [upd_same, List.map_append]
                rfl
              · rw [List.length_append, List.length_append, el2]
                rfl
        · rintro σ H5 ⟨kvs2, f2, z6, rfl, way2, hF2, md2, el2⟩
          rw [List.length_map, List.take_length] at md2
          refine ⟨kvs2, f2, _, _, rfl, way2, hF2, ?_, el2⟩
          refine ⟨md2.nd, md2.re, md2.st, md2.low, md2.lay, md2.fu, md2.dn, fun k x p => ?_, md2.m0⟩
          rw [tks] at p
          rcases List.mem_append.mp p.1 with z | z
          · exact md2.cur k x (.inl ⟨z, p.2⟩)
          · refine md2.cur k x (.inr ⟨List.mem_singleton.mp z, ?_⟩)
            rw [← rv, ← List.mem_singleton.mp z]
            exact p.2
      · rintro σ H5 ⟨kvs', f, y5, y6, rfl, way', hF, md, el⟩
        rw [List.length_map, List.take_length] at md
        have c10 := md.few hin hu'
        refine ⟨_, rfl, 2 * (rows.length - kvs'.length) + f.length, ?_, kvs', f, m + 1, F, _, _, _, rfl, ⟨way'.sm, way'.nD, way'.hD, hF⟩, md.lay_next fun k hk x hx => ⟨hk, hx⟩, by omega, rfl⟩
        omega
    · have l0 : l = [] := by
        cases l with
        | nil => rfl
        | cons x r => exact absurd rfl e
      subst l0
      exact ⟨_, rfl, q D kvs H3 way.sm way.nD way.hD ly.dists (by omega)⟩
  | false =>
    refine ⟨_, (pss_cons (ps_set (i := 2) scsteps_from.nd rfl (Or.inl rfl) (pe_disp (pps_cons (pv 1) pe_int pps_nil) (by rfl) (by rfl) (fun z => by cases z) (by decide)))
      (pss_cons (ps_set (i := 3) scsteps_from.nd rfl (Or.inl rfl) (pe_lst (pa_cons (pv 1) pa_nil)))
      (pss_cons (ps_while PassesOwn.never (pt_truth (pv 3) (by intro _; rfl)) (pss_cons (ps_set (i := 4) scsteps_from.nd rfl (Or.inl rfl) (pe_lst pa_nil))
      (pss_cons (ps_for PassesOwn.never rfl (pi_list (pv 3)) (pg_name (i := 5) scsteps_from.nd rfl (Or.inl rfl)) (pss_one (ps_for PassesOwn.never rfl (pi_list (pe_ix ix_list (pv 0) (pv 5) (fun _ _ => rfl))) (pg_name (i := 6) scsteps_from.nd rfl (Or.inl rfl)) (pss_one (ps_if (pt_cmp (pc_dnotin (hu_of hr) (pv 6) (pv 2))) (pss_cons (ps_dput (hu_of hr) (pv 2) (pv 6) (pe_op op_add (pe_dget (hu_of hr) (pv 2) (pv 5) (fun _ _ => rfl)) pe_int) rfl)
      (pss_one (ps_expr (pe_bm PySem.F.plainAttrs_list PySem.F.slot_list_append PySem.F.type_list_append mt_append (pv 4) (pa_cons (pv 6) pa_nil))))) pss_nil)))))
      (pss_one (ps_set (i := 3) scsteps_from.nd rfl (Or.inl rfl) (pv 4))))))
      (pss_one (ps_ret (pv 2)))))), ?_⟩
    intro D nD
    refine ⟨_, rfl, upd_same, [(Sum.inl u, V.int 0)], rfl, (by decide : 1 ≤ 15), ?_⟩
    have hm : mergeK [] [((Sum.inl u : Key), V.int 0)] = encI [(u, 0)] := rfl
    rw [hm]
    generalize e1 : upd (upd H D _) D _ = H1
    have sm1 : Same H H1 := by
      rw [← e1]
      exact same_mut (same_new nD) nD
    have hD1 : H1 D = some (.dK (encI [(u, 0)])) := by
      rw [← e1]
      exact upd_same
    clear e1
    refine ⟨_, rfl, len_le (by decide : 1 ≤ 1000), fun L nL => ?_⟩
    have nLD : L ≠ D := fun z => by
      rw [z, hD1] at nL
      cases nL
    have way0 : Way H D L [(u, 0)] [u] (upd H1 L (.lst [.int u])) := by
      refine ⟨sm1.trans (same_new nL), nD, ?_, upd_same⟩
      rw [upd_ne (Ne.symm nLD)]
      exact hD1
    generalize upd H1 L (.lst [.int u]) = H2 at way0 ⊢
    have hu' : 0 ≤ u ∧ u < (rows.length : Int) := hu
    refine ⟨fun n σ H' => ∃ kvs l m L x4 x5 x6, σ = [some (.ref a), some (.int u), some (.ref D), some (.ref L), x4, x5, x6] ∧ Way H D L kvs l H' ∧ Lay rows u kvs l m ∧ l.length ≤ kvs.length ∧ n = 2 * (rows.length - kvs.length) + l.length, ⟨_, _, _, 0, _, _, _, _, rfl, way0, Lay.start, Nat.le_refl _, rfl⟩, ?_⟩
    rintro n σ H3 ⟨kvs, l, m, L, x4, x5, x6, rfl, way, ly, lk, rfl⟩
    refine ⟨_, rfl, !(l.map V.int).isEmpty, .inl ⟨_, SqL.of way.hL, rfl⟩, ?_⟩
    have c9 := ly.few hin hu'
    refine ite2 (fun e => ⟨_, fun _ _ z => z, ?_⟩) (fun e => ?_)
    · have l0 : l ≠ [] := fun z => by
        rw [z] at e
        cases e
      have l1 : 0 < l.length := List.length_pos_iff.mpr l0
      refine ⟨len_le (by decide : 0 ≤ 1000), fun F nF => ?_⟩
      have nFD : F ≠ D := fun z => by
        rw [z, way.hD] at nF
        cases nF
      have nFL : F ≠ L := fun z => by
        rw [z, way.hL] at nF
        cases nF
      have way1 : Way H D L kvs l (upd H3 F (.lst [])) := ⟨way.sm.trans (same_new nF), way.nD, by rw [upd_ne (Ne.symm nFD)]; exact way.hD, by rw [upd_ne (Ne.symm nFL)]; exact way.hL⟩
      have hF1 : upd H3 F (.lst []) F = some (.lst (([] : List Int).map V.int)) := upd_same
      have nF0 := none_of way.sm nF
      generalize upd H3 F (.lst []) = H4 at way1 hF1 ⊢
      refine ⟨_, rfl, L, rfl, ⟨_, SqL.of way1.hL⟩, ?_⟩
      refine for_list (xs := l.map V.int) (fun i σ H' => ∃ kvs' f y5 y6, σ = [some (.ref a), some (.int u), some (.ref D), some (.ref L), some (.ref F), y5, y6] ∧ Way H D L kvs' l H' ∧ H' F = some (.lst (f.map V.int)) ∧ Mid rows u l m (fun k x => k ∈ l.take i ∧ x ∈ rowAt rows k) kvs' f ∧ kvs'.length = kvs.length + f.length) ?_ ?_ ?_ ?_
      · refine ⟨kvs, [], _, _, rfl, way1, hF1, ?_, rfl⟩
        have z := ly.mid
        exact ⟨z.nd, z.re, z.st, z.low, z.lay, z.fu, z.dn, fun k x p => absurd p.1 List.not_mem_nil, z.m0⟩
      · rintro i σ H' _ ⟨kvs', f, y5, y6, rfl, way', _⟩
        exact SqL.of way'.hL
      · rintro i x σ H' hx ⟨kvs', f, y5, y6, rfl, way', hF, md, el⟩
        rw [List.getElem?_map] at hx
        obtain ⟨v, hv, rfl⟩ := Option.map_eq_some_iff.mp hx
        have vl : v ∈ l := List.mem_of_getElem? hv
        have dv := (ly.lay v).mp vl
        have hvr := (ly.re v m dv).range hin hu'
        have tks : l.take (i + 1) = l.take i ++ [v] := by
          rw [List.take_succ, hv]
          rfl
        obtain ⟨p, hp⟩ : ∃ p, as[v.toNat]? = some p := ⟨_, List.getElem?_eq_getElem (by omega)⟩
        obtain ⟨r, hr'⟩ : ∃ r, rows[v.toNat]? = some r := ⟨_, List.getElem?_eq_getElem (by omega)⟩
        have rv : rowAt rows v = r := by
          unfold rowAt
          rw [List.getD_eq_getElem?_getD, hr']
          rfl
        have hpr : SqL K H p (r.map V.int) := g3 _ _ _ hp hr'
        have hat : atI (as.map V.ref) v = some (V.ref p) := by
          have ev : v = ((v.toNat : Nat) : Int) := by omega
          rw [ev]
          refine atI_nat ?_
          rw [List.getElem?_map, hp]
          rfl
        refine ⟨_, rfl, _, rfl, a, _, _, .ref p, rfl, rfl, seqL_same way'.sm g1, hat, p, rfl, ⟨_, seqL_same way'.sm hpr⟩, ?_⟩
        refine for_list (xs := r.map V.int) (fun j σ H' => ∃ kvs' f y6, σ = [some (.ref a), some (.int u), some (.ref D), some (.ref L), some (.ref F), some (.int v), y6] ∧ Way H D L kvs' l H' ∧ H' F = some (.lst (f.map V.int)) ∧ Mid rows u l m (fun k x => (k ∈ l.take i ∧ x ∈ rowAt rows k) ∨ (k = v ∧ x ∈ r.take j)) kvs' f ∧ kvs'.length = kvs.length + f.length) ?_ ?_ ?_ ?_
        · refine ⟨kvs', f, _, rfl, way', hF, ?_, el⟩
          exact ⟨md.nd, md.re, md.st, md.low, md.lay, md.fu, md.dn, fun k x p => p.elim (md.cur k x) fun z => absurd z.2 List.not_mem_nil, md.m0⟩
        · rintro j σ H5 _ ⟨kvs2, f2, z6, rfl, way2, _⟩
          exact seqL_same way2.sm hpr
        · rintro j x σ H5 hx ⟨kvs2, f2, z6, rfl, way2, hF2, md2, el2⟩
          rw [List.getElem?_map] at hx
          obtain ⟨w0, hw0, rfl⟩ := Option.map_eq_some_iff.mp hx
          have hwr : w0 ∈ rowAt rows v := by
            rw [rv]
            exact List.mem_of_getElem? hw0
          have tkj : r.take (j + 1) = r.take j ++ [w0] := by
            rw [List.take_succ, hw0]
            rfl
          have pe : ∀ k x, ((k ∈ l.take i ∧ x ∈ rowAt rows k) ∨ (k = v ∧ x ∈ r.take (j + 1))) → ((k ∈ l.take i ∧ x ∈ rowAt rows k) ∨ (k = v ∧ x ∈ r.take j)) ∨ x = w0 := fun k x p => by
            rcases p with z | ⟨z1, z2⟩
            · exact .inl (.inl z)
            · rw [tkj] at z2
              rcases List.mem_append.mp z2 with y | y
              · exact .inl (.inr ⟨z1, y⟩)
              · exact .inr (List.mem_singleton.mp y)
          have c10 := md2.few hin hu'
          refine ⟨_, rfl, _, rfl, D, _, rfl, DGet.k (k := Sum.inl w0) way2.hD, _, rfl, ?_⟩
          rw [valV_enc]
          cases ew : dist kvs2 w0 with
          | some d =>
            refine ite2 (fun n => by cases n) (fun _ => ?_)
            exact ⟨kvs2, f2, _, rfl, way2, hF2, md2.skip ew pe, el2⟩
          | none =>
            refine ite2 (fun _ => ?_) (fun n => absurd rfl n)
            have dv2 := (md2.lay v).mp vl
            have eg : valV (encI kvs2) (Sum.inl v) = some (V.int m) := by rw [valV_enc, dv2]; rfl
            refine ⟨_, rfl, _, rfl, D, V.int m, rfl, ?_, m, 1, rfl, rfl, _, rfl, _, rfl, D, _, rfl, DPut.k (k := Sum.inl w0) way2.hD ?_, ?_⟩
            · rw [← eg]
              exact DGet.k (k := Sum.inl v) way2.hD
            · show (kvs2.map _).length < sizeLine
              rw [List.length_map]
              exact len_lt (by omega)
            · rw [enc_put ew]
              have nDF : D ≠ F := fun z => by
                have h := way2.hD
                rw [z, hF2] at h
                cases h
              have hF3 : upd H5 D (.dK (encI (kvs2 ++ [(w0, m + 1)]))) F = some (.lst (f2.map V.int)) := by
                rw [upd_ne (Ne.symm nDF)]
                exact hF2
              refine ⟨_, rfl, .inl ⟨rfl, _, SqL.of hF3⟩, _, rfl, F, _, _, rfl, rfl, hF3, by rw [List.length_map]; exact len_lt (by omega), ?_⟩
              refine ⟨kvs2 ++ [(w0, m + 1)], f2 ++ [w0], _, rfl, ⟨same_mut (same_mut way2.sm way2.nD) nF0, way2.nD, ?_, ?_⟩, ?_, md2.add vl hwr ew pe, ?_⟩
              · rw [upd_ne nDF]
                exact upd_same
              · rw [upd_ne (Ne.symm nFL), upd_ne (Ne.symm way2.ne)]
                exact way2.hL
              · rw [upd_same, List.map_append]
                rfl
              · rw [List.length_append, List.length_append, el2]
                rfl
        · rintro σ H5 ⟨kvs2, f2, z6, rfl, way2, hF2, md2, el2⟩
          rw [List.length_map, List.take_length] at md2
          refine ⟨kvs2, f2, _, _, rfl, way2, hF2, ?_, el2⟩
          refine ⟨md2.nd, md2.re, md2.st, md2.low, md2.lay, md2.fu, md2.dn, fun k x p => ?_, md2.m0⟩
          rw [tks] at p
          rcases List.mem_append.mp p.1 with z | z
          · exact md2.cur k x (.inl ⟨z, p.2⟩)
          · refine md2.cur k x (.inr ⟨List.mem_singleton.mp z, ?_⟩)
            rw [← rv, ← List.mem_singleton.mp z]
            exact p.2
      · rintro σ H5 ⟨kvs', f, y5, y6, rfl, way', hF, md, el⟩
        rw [List.length_map, List.take_length] at md
        have c10 := md.few hin hu'
        refine ⟨_, rfl, 2 * (rows.length - kvs'.length) + f.length, ?_, kvs', f, m + 1, F, _, _, _, rfl, ⟨way'.sm, way'.nD, way'.hD, hF⟩, md.lay_next fun k hk x hx => ⟨hk, hx⟩, by omega, rfl⟩
        omega
    · have l0 : l = [] := by
        cases l with
        | nil => rfl
        | cons x r => exact absurd rfl e
      subst l0
      exact ⟨_, rfl, q D kvs H3 way.sm way.nD way.hD ly.dists (by omega)⟩
theorem k_found_from (B : Bl mg) (D : Dfn K mg "found_from" sfound_from ["pockets", "start"]) (Gsteps_from : Kept P w K mg base 1 "steps_from" ["pockets", "start"] (spSteps K)) : Kept P w K mg base 2 "found_from" ["pockets", "start"] (spFound K) := by
  refine D.keptC (N := Nfound_from) scfound_from (fun vs H Q E h => ?_) (fun f cdv A outer s H vs Q E hcd hr h => ?_)
  · obtain ⟨t, a, rows, u, rfl, _⟩ := h
    rfl
  obtain ⟨t, a, rows, u, rfl, g, h9, hin, hu, q⟩ := h
  refine ⟨_, (pss_one (ps_ret (pe_callTy call_tuple_of (by rfl) B.b_tuple (by decide +kernel) (pa_cons (pe_callB (call_sortedDI rfl) (by rfl) B.b_sorted (by decide +kernel) (pa_cons (pe_k Gsteps_from (hr.mono (by first | decide | omega)) (by rfl) (pa_cons (pv 0) (pa_cons (pv 1) pa_nil))) pa_nil)) pa_nil)))), ?_⟩
  refine ⟨_, rfl, _, rfl, t, a, rows, u, rfl, g, h9, hin, hu, fun D kvs H1 s1 nD hD ds l9 => ?_⟩
  refine ⟨D, _, kvs.map (·.1), rfl, .inl hD, by unfold encI; rw [List.map_map, List.map_map]; rfl, by rw [List.length_map]; omega, fun ys p pm pw np => ?_⟩
  refine ⟨p, _, rfl, .inl ⟨SqL.of upd_same, fun t nt => ?_⟩⟩
  have sp := s1.trans (same_new (o := .lst (ys.map V.int)) np)
  have nd : ys.Nodup := pm.nodup_iff.mpr ds.nd
  refine q t ys _ (sp.trans (same_new nt)) (none_of sp nt) upd_same ?_ (fun k => (pm.mem_iff).trans (ds.re k)) ?_
  · exact (pw.and nd).imp fun h => by
      have h1 := h.1
      have h2 := h.2
      omega
  · rw [pm.length_eq, List.length_map]
    exact l9
theorem k_all_found (B : Bl mg) (D : Dfn K mg "all_found" sall_found ["pockets"]) (Gfound_from : Kept P w K mg base 2 "found_from" ["pockets", "start"] (spFound K)) : Kept P w K mg base 3 "all_found" ["pockets"] (spAll K) := by
  refine D.kept (N := Nall_found) scall_found (fun vs H Q E h => ?_) (fun f cdv A outer s H vs Q E hr h => ?_)
  · obtain ⟨t, a, rows, rfl, _⟩ := h
    rfl
  obtain ⟨t, a, rows, rfl, g, h9, hin, q⟩ := h
  refine ⟨_, (pss_one (ps_ret (pe_callTy call_tuple_of (by rfl) B.b_tuple (by decide +kernel) (pa_cons (pe_lc (own := [("u", 1)]) (g := gName 1) (by rfl) scall_found.nd (pi_range1 (by rfl) B.b_range (pa_cons (pe_callB call_len_seq (by rfl) B.b_len PySem.boot_len (pa_cons (pv 0) pa_nil)) pa_nil)) (blkOk_by (own := [("u", 1)]) (N := Nall_found) (sc := defScope sall_found) (by decide +kernel)) (fun _ _ _ _ _ => (pg_name (i := 1) scall_found.nd rfl (Or.inl rfl))) (fun _ _ _ _ _ => pts_nil) (fun _ _ _ _ _ => (pe_k Gfound_from (hr.mono (by first | decide | omega)) (by rfl) (pa_cons (pv 0) (pa_cons (pv 1) pa_nil))))) pa_nil)))), ?_⟩
  have hlen : ∃ xs : List V, (SqL K H a xs ∨ SqT K H a xs) ∧ xs.length = rows.length := by
    obtain ⟨as, g1, g2, _⟩ := g
    refine ⟨as.map V.ref, ?_, by rw [List.length_map, g2]⟩
    cases t with
    | true => exact .inr g1
    | false => exact .inl g1
  obtain ⟨xs, hxs, hl⟩ := hlen
  refine ⟨.ref a, rfl, a, xs, rfl, hxs, _, rfl, by omega, by omega, fun D nD => ?_⟩
  refine lc_range (lo := 0) (n := (xs.length : Int).toNat) (fun i H' => Same H H' ∧ ∃ (as' : List Addr) (fs' : List (List Int)), H' D = some (.lst (as'.map V.ref)) ∧ as'.length = i ∧ fs'.length = i ∧
    (∀ (j : Nat) (p : Addr) (f : List Int), as'[j]? = some p → fs'[j]? = some f → SqT K H' p (f.map V.int)) ∧ ∀ (j : Nat) (f : List Int), fs'[j]? = some f → f.Pairwise (· < ·) ∧ (∀ k, k ∈ f ↔ Reach rows j k) ∧ f.length ≤ 9) ⟨same_new nD, [], [], upd_same, rfl, rfl, fun j p f e => by simp at e, fun j f e => by simp at e⟩ ?_ ?_
  · rintro i H' hi ⟨sm, as', fs', hD, rfl, el, h1, h2⟩
    refine ⟨rfl, ?_⟩
    refine ⟨_, rfl, _, rfl, t, a, rows, _, rfl, g.same sm, h9, hin, ⟨by omega, by omega⟩, fun p ns H'' s2 np hp pw mem l9 => ?_⟩
    refine ⟨_, s2 _ _ hD, by rw [List.length_map]; exact len_lt (by omega), same_mut (sm.trans s2) nD, as' ++ [p], fs' ++ [ns], ?_, ?_, ?_, ?_, ?_⟩
    · rw [upd_same, List.map_append]
      rfl
    · rw [List.length_append]
      rfl
    · rw [List.length_append, el]
      rfl
    · intro j p' f' e1 e2
      have sx : Same H' (upd H'' D (.lst (as'.map V.ref ++ [.ref p]))) → True := fun _ => trivial
      have keep : ∀ (x : Addr) (zs : List V), SqT K H'' x zs → H'' D = some (.lst (as'.map V.ref)) → SqT K (upd H'' D (.lst (as'.map V.ref ++ [.ref p]))) x zs := fun x zs hx hD' => by
        rcases hx with (hx | ⟨o, hx⟩) | hx
        · refine .inl (.inl ?_)
          rw [upd_ne (fun z => by rw [z, hD'] at hx; cases hx)]
          exact hx
        · refine .inl (.inr ⟨o, ?_⟩)
          rw [upd_ne (fun z => by rw [z, hD'] at hx; cases hx)]
          exact hx
        · exact .inr hx
      refine keep p' _ ?_ (s2 _ _ hD)
      rcases get_snoc e1 with z | ⟨z1, z2⟩
      · rcases get_snoc e2 with y | ⟨y1, _⟩
        · exact s2.seqT (h1 j p' f' z y)
        · have := (List.getElem?_eq_some_iff.mp z).1
          omega
      · rcases get_snoc e2 with y | ⟨_, y2⟩
        · have := (List.getElem?_eq_some_iff.mp y).1
          omega
        · rw [z2, y2]
          exact SqT.of hp
    · intro j f' e
      rcases get_snoc e with y | ⟨y1, y2⟩
      · exact h2 j f' y
      · rw [y1, y2, el]
        refine ⟨pw, fun k => ?_, l9⟩
        rw [mem k, show (0 : Int) + (as'.length : Int) = ((as'.length : Nat) : Int) by omega]
  · rintro H' ⟨sm, as', fs', hD, ea, el, h1, h2⟩
    refine ⟨D, _, rfl, .inl ⟨SqL.of hD, fun p np => ?_⟩⟩
    have npH := none_of sm np
    have sp := same_new (o := .tup (as'.map V.ref)) np
    refine q p fs' _ (sm.trans sp) npH ⟨as', SqT.of upd_same, by rw [ea, el], fun j p' f' e1 e2 => sp.seqT (h1 j p' f' e1 e2)⟩ ⟨by omega, h2⟩
end
end Lw

set_option maxHeartbeats 4000000
namespace Lw
open PySem PySem.Spec PyProof.Rows L2 EF Hn
open PySem.W (Frag keepIn)
/-- whom u finds and who find u -/
def knot (fs : List (List Int)) (u : Int) : List Int := (rowAt fs u).filter fun w => decide (u ∈ rowAt fs w)
def spKnot (K : Frag) : Sp := fun vs H Q _ => ∃ (a : Addr) (fs : List (List Int)) (u : Int), vs = [.int u, .ref a] ∧ Grid K true H a fs ∧ InRange fs ∧ (0 ≤ u ∧ u < (fs.length : Int)) ∧ (∀ f ∈ fs, f.length ≤ 9) ∧
  ∀ (p : Addr) (H' : Hp), Same H H' → H p = none → H' p = some (.tup ((knot fs u).map V.int)) → Q (.ref p) H'
theorem Grid.row {K : Frag} {H : Hp} {a : Addr} {fs : List (List Int)} (g : Grid K true H a fs) {u : Int} (hu : 0 ≤ u ∧ u < (fs.length : Int)) : ∃ (xs : List V) (p : Addr), SqT K H a xs ∧ atI xs u = some (.ref p) ∧ SqT K H p ((rowAt fs u).map V.int) := by
  obtain ⟨as, g1, g2, g3⟩ := g
  obtain ⟨p, hp⟩ : ∃ p, as[u.toNat]? = some p := ⟨_, List.getElem?_eq_getElem (by omega)⟩
  obtain ⟨r, hr⟩ : ∃ r, fs[u.toNat]? = some r := ⟨_, List.getElem?_eq_getElem (by omega)⟩
  refine ⟨_, p, g1, ?_, ?_⟩
  · have ev : u = ((u.toNat : Nat) : Int) := by omega
    rw [ev]
    refine atI_nat ?_
    rw [List.getElem?_map, hp]
    rfl
  · have e : rowAt fs u = r := by
      unfold rowAt
      rw [List.getD_eq_getElem?_getD, hr]
      rfl
    rw [e]
    exact g3 _ _ _ hp hr
theorem flat_ints (ns : List Int) : (ns.map V.int).all flatV = true := by
  rw [List.all_map]
  exact List.all_eq_true.mpr fun _ _ => rfl
theorem inV_ints (u : Int) : ∀ ns : List Int, inV (.int u) (ns.map V.int) = decide (u ∈ ns)
  | [] => by
    show false = _
    exact (decide_eq_false List.not_mem_nil).symm
  | n :: ns => by
    have ih := inV_ints u ns
    show ((n == u) || inV (.int u) (ns.map V.int)) = _
    rw [ih, Bool.eq_iff_iff, Bool.or_eq_true, beq_iff_eq, decide_eq_true_iff, decide_eq_true_iff, List.mem_cons, eq_comm]
theorem row_short {fs : List (List Int)} (h : ∀ f ∈ fs, f.length ≤ 9) (u : Int) : (rowAt fs u).length ≤ 9 := by
  unfold rowAt
  rw [List.getD_eq_getElem?_getD]
  cases e : fs[u.toNat]? with
  | none => exact Nat.zero_le _
  | some r => exact h r (List.mem_of_getElem? e)
section
variable {P : Program} {w : World} {K : Frag} {mg : Str → Option Value} {base : Heap}
theorem k_knot_around (B : Bl mg) (D : Dfn K mg "knot_around" sknot_around ["u", "found"]) : Kept P w K mg base 1 "knot_around" ["u", "found"] (spKnot K) := by
  refine D.kept (N := Nknot_around) scknot_around (fun vs H Q E h => ?_) (fun f cdv A outer s H vs Q E hr h => ?_)
  · obtain ⟨a, fs, u, rfl, _⟩ := h
    rfl
  obtain ⟨a, fs, u, rfl, g, hin, hu, h9, q⟩ := h
  refine ⟨_, (pss_one (ps_ret (pe_callTy call_tuple_of (by rfl) B.b_tuple (by decide +kernel) (pa_cons (pe_lc (own := [("w", 2)]) (g := gName 2) (by rfl) scknot_around.nd (pi_tup (pe_ix ix_tup (pv 1) (pv 0) (fun _ _ => rfl))) (blkOk_by (own := [("w", 2)]) (N := Nknot_around) (sc := defScope sknot_around) (by decide +kernel)) (fun _ _ _ _ _ => (pg_name (i := 2) scknot_around.nd rfl (Or.inl rfl))) (fun _ _ _ _ _ => (pts_one (pt_cmpR (in_seqK (K := K) rfl) (pv 0) (pe_ix (ix_tupK (K := K) rfl) (pv 1) (pv 2) (fun _ _ => rfl)) (by rfl)))) (fun _ _ _ _ _ => (pv 2))) pa_nil)))), ?_⟩
  obtain ⟨xs, p, hx, hat, hp⟩ := g.row hu
  refine ⟨_, rfl, _, rfl, a, _, _, .ref p, rfl, rfl, hx, hat, p, rfl, ⟨_, hp⟩, fun D nD => ?_⟩
  refine lc_tup (xs := (rowAt fs u).map V.int) (fun i H' => Same H H' ∧ H' D = some (.lst ((((rowAt fs u).take i).filter fun w => decide (u ∈ rowAt fs w)).map V.int))) ⟨same_new nD, upd_same⟩ (fun i H' _ p' => p'.1.seqT hp) ?_ ?_
  · rintro i x H' hx' ⟨sm, hD⟩
    rw [List.getElem?_map] at hx'
    obtain ⟨w0, hw0, rfl⟩ := Option.map_eq_some_iff.mp hx'
    have hwr : w0 ∈ rowAt fs u := List.mem_of_getElem? hw0
    obtain ⟨xs2, p2, hx2, hat2, hp2⟩ := (g.same sm).row (row_range hin hwr)
    have tk : (rowAt fs u).take (i + 1) = (rowAt fs u).take i ++ [w0] := by
      rw [List.take_succ, hw0]
      rfl
    refine ⟨rfl, ?_⟩
    refine ⟨_, rfl, _, rfl, _, rfl, a, _, _, .ref p2, rfl, rfl, hx2, hat2, p2, _, rfl, .inr hp2, rfl, flat_ints _, _, rfl, ?_⟩
    have sz : (((((rowAt fs u).take i).filter fun w => decide (u ∈ rowAt fs w))).map V.int).length < sizeLine := by
      rw [List.length_map]
      have h1 := List.length_filter_le (fun w => decide (u ∈ rowAt fs w)) ((rowAt fs u).take i)
      rw [List.length_take] at h1
      have h2 := row_short h9 u
      exact len_lt (by omega)
    refine ite2 (fun e1 => ?_) (fun e1 => ?_)
    · have y : decide (u ∈ rowAt fs w0) = true := by
        rw [← inV_ints]
        exact e1
      refine ⟨_, rfl, _, hD, sz, same_mut sm nD, ?_⟩
      rw [upd_same, tk, List.filter_append, List.map_append, List.filter_cons, if_pos y]
      rfl
    · have y : ¬ decide (u ∈ rowAt fs w0) = true := by
        rw [← inV_ints]
        exact e1
      refine ⟨sm, ?_⟩
      rw [tk, List.filter_append, List.filter_cons, if_neg y, List.filter_nil, List.append_nil]
      exact hD
  · rintro H' ⟨sm, hD⟩
    rw [List.length_map, List.take_length] at hD
    refine ⟨D, _, rfl, .inl ⟨SqL.of hD, fun t nt => ?_⟩⟩
    exact q t _ (sm.trans (same_new nt)) (none_of sm nt) upd_same
end
theorem seqT_ext {K : Frag} {H : Hp} {D x : Addr} {φ : Heap → Prop} {o : HO} {zs : List V} (hD : H D = some (.ext φ)) (hx : SqT K H x zs) : SqT K (upd H D o) x zs := by
  rcases hx with (hx | ⟨o, hx⟩) | hx
  · refine .inl (.inl ?_)
    rw [upd_ne (fun z => by rw [z, hD] at hx; cases hx)]
    exact hx
  · refine .inl (.inr ⟨o, ?_⟩)
    rw [upd_ne (fun z => by rw [z, hD] at hx; cases hx)]
    exact hx
  · exact .inr hx
/-- the knots: each a row, ascending -/
def KnotsOf (fs ks : List (List Int)) : Prop := ks.Pairwise (fun q r => ¬ r < q) ∧ ks.Nodup ∧ (∀ k, k ∈ ks ↔ ∃ u : Nat, u < fs.length ∧ k = knot fs u)
def spKnots (K : Frag) : Sp := fun vs H Q _ => ∃ (a : Addr) (fs : List (List Int)), vs = [.ref a] ∧ Grid K true H a fs ∧ fs.length ≤ 9 ∧ InRange fs ∧ (∀ f ∈ fs, f.length ≤ 9) ∧ (∀ u : Nat, u < fs.length → (u : Int) ∈ rowAt fs u) ∧
  ∀ (p : Addr) (ks : List (List Int)) (H' : Hp), Same H H' → H p = none → Grid K true H' p ks → KnotsOf fs ks → Q (.ref p) H'
section
variable {P : Program} {w : World} {K : Frag} {mg : Str → Option Value} {base : Heap}
theorem k_knots_among (B : Bl mg) (D : Dfn K mg "knots_among" sknots_among ["found"]) (Gknot_around : Kept P w K mg base 1 "knot_around" ["u", "found"] (spKnot K)) : Kept P w K mg base 2 "knots_among" ["found"] (spKnots K) := by
  refine D.kept (N := Nknots_among) scknots_among (fun vs H Q E h => ?_) (fun f cdv A outer s H vs Q E hr h => ?_)
  · obtain ⟨a, fs, rfl, _⟩ := h
    rfl
  obtain ⟨a, fs, rfl, g, n9, hin, h9, self, q⟩ := h
  refine ⟨_, (pss_one (ps_ret (pe_callTy call_tuple_of (by rfl) B.b_tuple (by decide +kernel) (pa_cons (pe_callB (sortSK (K := K) rfl rfl rfl rfl (room10 hr)) (by rfl) B.b_sorted (by decide +kernel) (pa_cons (pe_sg (wordT (hu_of hr)) (own := [("u", 1)]) (g := gName 1) (by rfl) scknots_among.nd (pi_range1 (by rfl) B.b_range (pa_cons (pe_callB call_len_seq (by rfl) B.b_len PySem.boot_len (pa_cons (pv 0) pa_nil)) pa_nil)) (blkOk_by (own := [("u", 1)]) (N := Nknots_among) (sc := defScope sknots_among) (by decide +kernel)) (fun _ _ _ _ _ => (pg_name (i := 1) scknots_among.nd rfl (Or.inl rfl))) (fun _ _ _ _ _ => pts_nil) (fun _ _ _ _ _ => (pe_k Gknot_around (hr.mono (by first | decide | omega)) (by rfl) (pa_cons (pv 1) (pa_cons (pv 0) pa_nil))))) pa_nil)) pa_nil)))), ?_⟩
  obtain ⟨xs, hx, hl⟩ : ∃ xs : List V, SqT K H a xs ∧ xs.length = fs.length := by
    obtain ⟨as, g1, g2, _⟩ := g
    exact ⟨_, g1, by rw [List.length_map, g2]⟩
  refine ⟨.ref a, rfl, a, xs, rfl, .inr hx, _, rfl, by omega, by omega, fun D nD => ?_⟩
  refine sg_range (lo := 0) (n := (xs.length : Int).toNat) (fun i H' => ∃ L : List (Addr × List Int), Same H H' ∧ H' D = some (SetTO P w D L) ∧ (∀ p ∈ L, SqT K H' p.1 (p.2.map V.int)) ∧ L.length ≤ i ∧ ∀ k, k ∈ L.map (·.2) ↔ ∃ u : Nat, u < i ∧ k = knot fs u) ⟨[], same_new nD, upd_same, fun p hp => absurd hp List.not_mem_nil, Nat.le_refl _, fun k => ⟨fun z => absurd z List.not_mem_nil, fun ⟨u, z, _⟩ => absurd z (Nat.not_lt_zero _)⟩⟩ ?_ ?_
  · rintro i H' hi ⟨L, sm, hD, hL, few, mem⟩
    refine ⟨rfl, ?_⟩
    refine ⟨_, rfl, _, rfl, a, fs, _, rfl, g.same sm, hin, ⟨by omega, by omega⟩, h9, fun p H'' s2 np hp => ?_⟩
    have hD2 := s2 _ _ hD
    refine ⟨p, knot fs i, L, rfl, ?_, hD2, fun p' hp' => s2.seqT (hL p' hp'), by omega, fun L' e1 e2 => ?_⟩
    · rw [show (0 : Int) + (i : Int) = ((i : Nat) : Int) by omega] at hp
      exact SqT.of hp
    rw [show (0 : Int) + (i : Int) = ((i : Nat) : Int) by omega] at hp
    rcases Classical.em (knot fs i ∈ L.map (·.2)) with z | z
    · obtain rfl := e1 z
      refine ⟨L', same_mut (sm.trans s2) nD, upd_same, fun p' hp' => seqT_ext hD2 (s2.seqT (hL p' hp')), by omega, fun k => (mem k).trans ⟨fun ⟨u, h1, h2⟩ => ⟨u, by omega, h2⟩, fun ⟨u, h1, h2⟩ => ?_⟩⟩
      rcases Nat.lt_or_ge u i with y | y
      · exact ⟨u, y, h2⟩
      · obtain rfl : u = i := by omega
        rw [h2]
        exact (mem _).mp z
    · have pm := e2 z
      refine ⟨L', same_mut (sm.trans s2) nD, upd_same, fun p' hp' => ?_, by rw [pm.length_eq]; show L.length + 1 ≤ i + 1; omega, fun k => ?_⟩
      · rcases List.mem_cons.mp (pm.mem_iff.mp hp') with y | y
        · rw [y]
          exact seqT_ext hD2 (SqT.of hp)
        · exact seqT_ext hD2 (s2.seqT (hL p' y))
      · rw [(pm.map (fun x => x.2)).mem_iff, List.map_cons, List.mem_cons, mem k]
        constructor
        · rintro (y | ⟨u, h1, h2⟩)
          · exact ⟨i, Nat.lt_succ_self _, y⟩
          · exact ⟨u, by omega, h2⟩
        · rintro ⟨u, h1, h2⟩
          rcases Nat.lt_or_ge u i with y | y
          · exact .inr ⟨u, y, h2⟩
          · obtain rfl : u = i := by omega
            exact .inl h2
  · rintro H' ⟨L, sm, hD, hL, few, mem⟩
    refine ⟨D, L, rfl, hD, hL, fun p hp => ?_, fun L' p pm nd l64 pw np => ?_⟩
    · obtain ⟨u, h1, h2⟩ := (mem p.2).mp (List.mem_map.mpr ⟨p, hp, rfl⟩)
      have su := self u (by omega)
      intro z
      have m : (u : Int) ∈ knot fs u := List.mem_filter.mpr ⟨su, decide_eq_true su⟩
      rw [← h2, z] at m
      cases m
    · refine ⟨p, _, rfl, .inl ⟨SqL.of upd_same, fun t nt => ?_⟩⟩
      have npH := none_of sm np
      have s1 : Same H' (upd H' p (.lst (L'.map fun q => V.ref q.1))) := same_new np
      have s2 := s1.trans (same_new (o := .tup (L'.map fun q => V.ref q.1)) nt)
      refine q t (L'.map (·.2)) _ (sm.trans s2) (none_of sm (none_of s1 nt)) ⟨L'.map (·.1), ?_, by rw [List.length_map, List.length_map], fun i p' r e1 e2 => ?_⟩ ⟨?_, nd, fun k => ?_⟩
      · rw [List.map_map]
        exact SqT.of upd_same
      · rw [List.getElem?_map] at e1 e2
        obtain ⟨q1, h1, rfl⟩ := Option.map_eq_some_iff.mp e1
        rw [h1] at e2
        obtain rfl := Option.some.inj e2
        exact s2.seqT (hL q1 (pm.mem_iff.mp (List.mem_of_getElem? h1)))
      · exact List.pairwise_map.mpr pw
      · rw [(pm.map (fun x => x.2)).mem_iff, mem k, show (xs.length : Int).toNat = fs.length by omega]
end
end Lw

set_option maxHeartbeats 4000000
namespace Lw
open PySem PySem.Spec PyProof.Rows L2 EF Hn
open PySem.W (Frag keepIn)
/-- L is a list of n own lists of ints -/
structure Links (H0 : Hp) (L : Addr) (qs : List Addr) (lk : List (List Int)) (b : Nat) (H : Hp) : Prop where
  sm : Same H0 H
  nL : H0 L = none
  hL : H L = some (.lst (qs.map V.ref))
  len : qs.length = lk.length
  nd : qs.Nodup
  new : ∀ q ∈ qs, H0 q = none
  off : L ∉ qs
  it : ∀ (i : Nat) (q : Addr) (r : List Int), qs[i]? = some q → lk[i]? = some r → H q = some (.lst (r.map V.int))
  few : ∀ r ∈ lk, r.length ≤ b
/-- lk holds each row, and who holds whom, of the people before u, and of u's first j cards -/
def Linked (rows lk : List (List Int)) (u j : Nat) : Prop := ∀ (i : Nat) (w : Int), w ∈ rowAt lk i ↔ w ∈ rowAt rows i ∨ (∃ u' : Nat, u' < u ∧ w = u' ∧ (i : Int) ∈ rowAt rows u') ∨ (w = u ∧ (i : Int) ∈ (rowAt rows u).take j)
theorem row_set {lk : List (List Int)} {i : Nat} {x : List Int} (h : i < lk.length) (v : Nat) : rowAt (lk.set i x) v = if v = i then x else rowAt lk v := by
  unfold rowAt
  rw [List.getD_eq_getElem?_getD, List.getD_eq_getElem?_getD, List.getElem?_set, Int.toNat_natCast]
  split
  · rename_i e
    rw [if_pos e.symm]
    rfl
  · rename_i e
    rw [if_neg (fun z => e z.symm)]
theorem nodup_at {α : Type} {xs : List α} (nd : xs.Nodup) {i j : Nat} (hi : i < xs.length) (hj : j < xs.length) (e : xs[i] = xs[j]) : i = j := by
  rcases Nat.lt_trichotomy i j with z | z | z
  · exact absurd e (List.pairwise_iff_getElem.mp nd i j hi hj z)
  · exact z
  · exact absurd e.symm (List.pairwise_iff_getElem.mp nd j i hj hi z)
theorem Links.put {H0 H : Hp} {L : Addr} {qs : List Addr} {lk : List (List Int)} {b : Nat} (k : Links H0 L qs lk b H) {i : Nat} {q : Addr} {r : List Int} {u : Int} (hq : qs[i]? = some q) (hr : lk[i]? = some r) : Links H0 L qs (lk.set i (r ++ [u])) (b + 1) (upd H q (.lst (r.map V.int ++ [.int u]))) := by
  have mq : q ∈ qs := List.mem_of_getElem? hq
  have hi : i < lk.length := (List.getElem?_eq_some_iff.mp hr).1
  have nq : L ≠ q := fun z => k.off (z ▸ mq)
  refine ⟨same_mut k.sm (k.new q mq), k.nL, by rw [upd_ne nq]; exact k.hL, by rw [List.length_set]; exact k.len, k.nd, k.new, k.off, fun j q' r' e1 e2 => ?_, fun r' hr' => ?_⟩
  · rw [List.getElem?_set] at e2
    split at e2
    · rename_i e
      subst e
      obtain rfl := Option.some.inj e2
      obtain rfl := Option.some.inj (hq.symm.trans e1)
      rw [upd_same, List.map_append]
      rfl
    · rename_i e
      have ne : q' ≠ q := fun z => by
        subst z
        obtain ⟨h1, z1⟩ := List.getElem?_eq_some_iff.mp hq
        obtain ⟨h2, z2⟩ := List.getElem?_eq_some_iff.mp e1
        exact e (nodup_at k.nd h1 h2 (z1.trans z2.symm))
      rw [upd_ne ne]
      exact k.it j q' r' e1 e2
  · rcases List.mem_or_eq_of_mem_set hr' with z | z
    · exact Nat.le_succ_of_le (k.few r' z)
    · rw [z, List.length_append]
      exact Nat.succ_le_succ (k.few r (List.mem_of_getElem? hr))
theorem Linked.put {rows lk : List (List Int)} {u j i : Nat} (k : Linked rows lk u j) (hi : i < lk.length) (hw : (rowAt rows u)[j]? = some (i : Int)) : Linked rows (lk.set i (rowAt lk i ++ [(u : Int)])) u (j + 1) := by
  intro v w
  have tk : (rowAt rows u).take (j + 1) = (rowAt rows u).take j ++ [(i : Int)] := by
    rw [List.take_succ, hw]
    rfl
  rw [row_set hi, tk, List.mem_append, List.mem_singleton]
  by_cases e : v = i
  · subst e
    rw [if_pos rfl, List.mem_append, List.mem_singleton, k v w]
    constructor
    · rintro ((z | z | ⟨z1, z2⟩) | z)
      · exact .inl z
      · exact .inr (.inl z)
      · exact .inr (.inr ⟨z1, .inl z2⟩)
      · exact .inr (.inr ⟨z, .inr rfl⟩)
    · rintro (z | z | ⟨z1, z2 | z2⟩)
      · exact .inl (.inl z)
      · exact .inl (.inr (.inl z))
      · exact .inl (.inr (.inr ⟨z1, z2⟩))
      · exact .inr z1
  · rw [if_neg e, k v w]
    constructor
    · rintro (z | z | ⟨z1, z2⟩)
      · exact .inl z
      · exact .inr (.inl z)
      · exact .inr (.inr ⟨z1, .inl z2⟩)
    · rintro (z | z | ⟨z1, z2 | z2⟩)
      · exact .inl z
      · exact .inr (.inl z)
      · exact .inr (.inr ⟨z1, z2⟩)
      · exact absurd (Int.ofNat.inj z2) e
theorem Linked.next {rows lk : List (List Int)} {u : Nat} (k : Linked rows lk u (rowAt rows u).length) : Linked rows lk (u + 1) 0 := by
  intro v w
  rw [k v w, List.take_length]
  constructor
  · rintro (z | ⟨u', h, z⟩ | ⟨z1, z2⟩)
    · exact .inl z
    · exact .inr (.inl ⟨u', by omega, z⟩)
    · exact .inr (.inl ⟨u, Nat.lt_succ_self _, z1, z2⟩)
  · rintro (z | ⟨u', h, z1, z2⟩ | ⟨z1, z2⟩)
    · exact .inl z
    · rcases Nat.lt_or_ge u' u with y | y
      · exact .inr (.inl ⟨u', y, z1, z2⟩)
      · obtain rfl : u' = u := by omega
        exact .inr (.inr ⟨z1, z2⟩)
    · exact absurd z2 List.not_mem_nil
theorem Linked.start (rows : List (List Int)) : Linked rows rows 0 0 := fun i w => ⟨.inl, fun z => by
  rcases z with z | ⟨u', h, _⟩ | ⟨_, z⟩
  · exact z
  · exact absurd h (Nat.not_lt_zero _)
  · exact absurd z List.not_mem_nil⟩
theorem Links.push {H0 H : Hp} {L q : Addr} {qs : List Addr} {lk : List (List Int)} {b : Nat} (k : Links H0 L qs lk b H) {r : List Int} (nq : H q = none) (hr : r.length ≤ b) : Links H0 L (qs ++ [q]) (lk ++ [r]) b (upd (upd H q (.lst (r.map V.int))) L (.lst (qs.map V.ref ++ [.ref q]))) := by
  have nLq : L ≠ q := fun z => by
    have := k.hL
    rw [z, nq] at this
    cases this
  have nq0 := none_of k.sm nq
  have off : ∀ q' ∈ qs, q' ≠ q := fun q' h z => by
    obtain ⟨i, hi, e⟩ := List.getElem_of_mem h
    have e1 : qs[i]? = some q' := by rw [← e]; exact List.getElem?_eq_getElem hi
    have e2 : lk[i]? = some (lk[i]'(k.len ▸ hi)) := List.getElem?_eq_getElem _
    have := k.it i q' _ e1 e2
    rw [z, nq] at this
    cases this
  refine ⟨same_mut (same_mut k.sm nq0) k.nL, k.nL, by rw [upd_same, List.map_append]; rfl, by rw [List.length_append, List.length_append, k.len]; rfl, ?_, fun q' h => ?_, fun h => ?_, fun i q' r' e1 e2 => ?_, fun r' h => ?_⟩
  · refine List.nodup_append.mpr ⟨k.nd, List.nodup_cons.mpr ⟨List.not_mem_nil, List.nodup_nil⟩, fun x hx y hy => ?_⟩
    rw [List.mem_singleton.mp hy]
    exact off x hx
  · rcases List.mem_append.mp h with z | z
    · exact k.new q' z
    · rw [List.mem_singleton.mp z]
      exact nq0
  · rcases List.mem_append.mp h with z | z
    · exact k.off z
    · exact nLq (List.mem_singleton.mp z)
  · rcases get_snoc e1 with z | ⟨z1, z2⟩
    · have m : q' ∈ qs := List.mem_of_getElem? z
      rw [upd_ne (fun y => k.off (by rw [← y]; exact m)), upd_ne (off q' m)]
      rcases get_snoc e2 with y | ⟨y1, _⟩
      · exact k.it i q' r' z y
      · have := (List.getElem?_eq_some_iff.mp z).1
        have := k.len
        omega
    · rcases get_snoc e2 with y | ⟨_, y2⟩
      · have := (List.getElem?_eq_some_iff.mp y).1
        have := k.len
        omega
      · rw [z2, y2, upd_ne (Ne.symm nLq), upd_same]
  · rcases List.mem_append.mp h with z | z
    · exact k.few r' z
    · rw [List.mem_singleton.mp z]
      exact hr
theorem Links.same {H0 H H' : Hp} {L : Addr} {qs : List Addr} {lk : List (List Int)} {b : Nat} (k : Links H0 L qs lk b H) (s : Same H H') : Links H0 L qs lk b H' :=
  ⟨k.sm.trans s, k.nL, s _ _ k.hL, k.len, k.nd, k.new, k.off, fun i q r e1 e2 => s _ _ (k.it i q r e1 e2), k.few⟩
theorem Links.more {H0 H : Hp} {L : Addr} {qs : List Addr} {lk : List (List Int)} {b c : Nat} (k : Links H0 L qs lk b H) (h : b ≤ c) : Links H0 L qs lk c H :=
  ⟨k.sm, k.nL, k.hL, k.len, k.nd, k.new, k.off, k.it, fun r hr => Nat.le_trans (k.few r hr) h⟩
/-- lk holds each row, and who holds whom -/
def Both (rows lk : List (List Int)) : Prop := lk.length = rows.length ∧ ∀ (i : Nat) (w : Int), w ∈ rowAt lk i ↔ w ∈ rowAt rows i ∨ ∃ u : Nat, u < rows.length ∧ w = u ∧ (i : Int) ∈ rowAt rows u
def spBoth (K : Frag) : Sp := fun vs H Q _ => ∃ (a : Addr) (rows : List (List Int)), vs = [.ref a] ∧ Grid K true H a rows ∧ rows.length ≤ 9 ∧ InRange rows ∧ (∀ r ∈ rows, r.length ≤ 9) ∧
  ∀ (L : Addr) (lk : List (List Int)) (H' : Hp), Same H H' → H L = none → Grid K false H' L lk → Both rows lk → InRange lk → Q (.ref L) H'
def spPieces (K : Frag) : Sp := fun vs H Q _ => ∃ (a : Addr) (rows : List (List Int)), vs = [.ref a] ∧ Grid K true H a rows ∧ rows.length ≤ 9 ∧ InRange rows ∧ (∀ r ∈ rows, r.length ≤ 9) ∧
  ∀ (p : Addr) (lk fs ks : List (List Int)) (H' : Hp), Same H H' → H p = none → Grid K true H' p ks → Both rows lk → Finds lk fs → KnotsOf fs ks → Q (.ref p) H'
section
variable {P : Program} {w : World} {K : Frag} {mg : Str → Option Value} {base : Heap}
theorem k_both_ways (B : Bl mg) (D : Dfn K mg "both_ways" sboth_ways ["pockets"]) : Kept P w K mg base 1 "both_ways" ["pockets"] (spBoth K) := by
  refine D.kept (N := Nboth_ways) scboth_ways (fun vs H Q E h => ?_) (fun f cdv A outer s H vs Q E hr h => ?_)
  · obtain ⟨a, rows, rfl, _⟩ := h
    rfl
  obtain ⟨a, rows, rfl, g, n9, hin, h9, q⟩ := h
  refine ⟨_, (pss_cons (ps_setLc (i := 1) (own := [("pocket", 2)]) (g := gName 2) (by rfl) scboth_ways.nd rfl rfl (sw_true rfl rfl rfl (by decide +kernel)) (pi_tup (pv 0)) (blkOk_by (own := [("pocket", 2)]) (N := Nboth_ways) (sc := defScope sboth_ways) (by decide +kernel)) (fun _ _ _ _ _ => (pg_name (i := 2) scboth_ways.nd rfl (Or.inl rfl))) (fun _ _ _ _ _ => pts_nil) (fun _ _ _ _ _ => (pe_callTy (listK (K := K) rfl) (by rfl) B.b_list (by decide +kernel) (pa_cons (pv 2) pa_nil))))
      (pss_cons (ps_for PassesOwn.never rfl (pi_enumT (K := K) rfl (by rfl) B.b_enumerate (pa_cons (pv 0) pa_nil)) (pg_tup rfl (pgs_cons (pg_name (i := 3) scboth_ways.nd rfl (Or.inl rfl)) (pgs_cons (pg_name (i := 2) scboth_ways.nd rfl (Or.inl rfl)) pgs_nil))) (pss_one (ps_for PassesOwn.never rfl (pi_tup (pv 2)) (pg_name (i := 4) scboth_ways.nd rfl (Or.inl rfl)) (pss_one (ps_expr (pe_bm PySem.F.plainAttrs_list PySem.F.slot_list_append PySem.F.type_list_append mt_append (pe_ix ix_list (pv 1) (pv 4) (fun _ _ => rfl)) (pa_cons (pv 3) pa_nil)))))))
      (pss_one (ps_ret (pv 1))))), ?_⟩
  obtain ⟨as, g1, g2, g3⟩ := g
  refine ⟨_, rfl, a, rfl, ⟨_, g1⟩, fun L nL => ?_⟩
  refine lc_tup (xs := as.map V.ref) (fun i H' => ∃ qs, Links H L qs (rows.take i) 9 H') ⟨[], same_new nL, nL, upd_same, rfl, List.nodup_nil, fun q h => absurd h List.not_mem_nil, List.not_mem_nil, fun i q r e => by simp at e, fun r h => absurd h List.not_mem_nil⟩ (fun i H' _ ⟨qs, k⟩ => k.sm.seqT g1) ?_ ?_
  · rintro i x H' hx ⟨qs, k⟩
    rw [List.getElem?_map] at hx
    obtain ⟨p, hp, rfl⟩ := Option.map_eq_some_iff.mp hx
    have hi := (List.getElem?_eq_some_iff.mp hp).1
    obtain ⟨r, hr'⟩ : ∃ r, rows[i]? = some r := ⟨_, List.getElem?_eq_getElem (by omega)⟩
    have tk : rows.take (i + 1) = rows.take i ++ [r] := by
      rw [List.take_succ, hr']
      rfl
    refine ⟨rfl, _, rfl, p, _, rfl, .inr (k.sm.seqT (g3 i p r hp hr')), fun t nt => ?_⟩
    have ne : L ≠ t := fun z => by
      have := k.hL
      rw [z, nt] at this
      cases this
    refine ⟨_, by rw [upd_ne ne]; exact k.hL, by rw [List.length_map, k.len, List.length_take]; exact len_lt (by omega), qs ++ [t], ?_⟩
    rw [tk]
    exact k.push nt (h9 r (List.mem_of_getElem? hr'))
  · rintro H1 ⟨qs, k⟩
    rw [List.length_map, g2, List.take_length] at k
    have hl := k.len
    refine ⟨_, rfl, a, _, rfl, k.sm.seqT g1, ?_⟩
    refine for_enumT (xs := as.map V.ref) (fun i σ H' => ∃ lk y2 y3 y4, σ = [some (.ref a), some (.ref L), y2, y3, y4] ∧ Links H L qs lk (9 + 9 * i) H' ∧ lk.length = rows.length ∧ Linked rows lk i 0) ⟨rows, none, none, none, rfl, k, rfl, Linked.start rows⟩ (fun i σ H' ⟨_, _, _, _, _, k', _⟩ => k'.sm.seqT g1) ?_ ?_
    · rintro i x T σ H' hx ⟨lk, y2, y3, y4, rfl, k', el, lm⟩ nT
      rw [List.getElem?_map] at hx
      obtain ⟨p, hp, rfl⟩ := Option.map_eq_some_iff.mp hx
      have hi := (List.getElem?_eq_some_iff.mp hp).1
      obtain ⟨r, hr'⟩ : ∃ r, rows[i]? = some r := ⟨_, List.getElem?_eq_getElem (by omega)⟩
      have er : rowAt rows (i : Nat) = r := by
        unfold rowAt
        rw [List.getD_eq_getElem?_getD, Int.toNat_natCast, hr']
        rfl
      have r9 := h9 r (List.mem_of_getElem? hr')
      have k2 := k'.same (same_new (o := .tup [.int (i : Nat), .ref p]) nT)
      refine ⟨T, _, rfl, SqT.of upd_same, rfl, _, _, rfl, _, _, rfl, rfl, ?_⟩
      generalize upd H' T (.tup [.int (i : Nat), .ref p]) = H2 at k2 ⊢
      have hpr := k2.sm.seqT (g3 i p r hp hr')
      refine ⟨_, rfl, p, rfl, ⟨_, hpr⟩, ?_⟩
      refine for_tup (xs := r.map V.int) (fun j σ H' => ∃ lk y4, σ = [some (.ref a), some (.ref L), some (.ref p), some (.int (i : Nat)), y4] ∧ Links H L qs lk (9 + 9 * i + j) H' ∧ lk.length = rows.length ∧ Linked rows lk i j) ⟨lk, y4, rfl, k2, el, lm⟩ (fun j σ H' _ ⟨_, _, _, k', _⟩ => k'.sm.seqT (g3 i p r hp hr')) ?_ ?_
      · rintro j x σ H3 hx ⟨lk2, z4, rfl, k3, el2, lm2⟩
        rw [List.getElem?_map] at hx
        obtain ⟨w0, hw0, rfl⟩ := Option.map_eq_some_iff.mp hx
        have hj := (List.getElem?_eq_some_iff.mp hw0).1
        have hwr := row_range hin (v := (i : Nat)) (w := w0) (by rw [er]; exact List.mem_of_getElem? hw0)
        obtain ⟨q1, hq1⟩ : ∃ q1, qs[w0.toNat]? = some q1 := ⟨_, List.getElem?_eq_getElem (by omega)⟩
        obtain ⟨r1, hr1⟩ : ∃ r1, lk2[w0.toNat]? = some r1 := ⟨_, List.getElem?_eq_getElem (by omega)⟩
        have ew : w0 = ((w0.toNat : Nat) : Int) := by omega
        have hat : atI (qs.map V.ref) w0 = some (V.ref q1) := by
          rw [ew]
          refine atI_nat ?_
          rw [List.getElem?_map, hq1]
          rfl
        have hq := k3.it _ _ _ hq1 hr1
        have few := k3.few r1 (List.mem_of_getElem? hr1)
        refine ⟨_, rfl, _, rfl, L, _, _, .ref q1, rfl, rfl, SqL.of k3.hL, hat, .inl ⟨rfl, _, SqL.of hq⟩, _, rfl, q1, _, _, rfl, rfl, hq, by rw [List.length_map]; exact len_lt (by omega), ?_⟩
        have e1 : rowAt lk2 (w0.toNat : Nat) = r1 := by
          unfold rowAt
          rw [List.getD_eq_getElem?_getD, Int.toNat_natCast, hr1]
          rfl
        refine ⟨lk2.set w0.toNat (r1 ++ [(i : Int)]), _, rfl, k3.put hq1 hr1, by rw [List.length_set]; exact el2, ?_⟩
        have z := lm2.put (i := w0.toNat) (by omega) (by rw [er, hw0]; exact congrArg some ew)
        rw [e1] at z
        exact z
      · rintro σ H3 ⟨lk2, z4, rfl, k3, el2, lm2⟩
        rw [List.length_map] at k3 lm2
        refine ⟨lk2, _, _, _, rfl, k3.more (by omega), el2, ?_⟩
        rw [← er] at lm2
        exact lm2.next
    · rintro σ H2 ⟨lk, y2, y3, y4, rfl, k', el, lm⟩
      rw [List.length_map, g2] at lm
      have both : Both rows lk := ⟨el, fun i w => by
        rw [lm i w]
        constructor
        · rintro (z | z | ⟨_, z⟩)
          · exact .inl z
          · exact .inr z
          · exact absurd z List.not_mem_nil
        · rintro (z | z)
          · exact .inl z
          · exact .inr (.inl z)⟩
      have hin2 : InRange lk := fun r hr w hw => by
        obtain ⟨i, hi, e⟩ := List.getElem_of_mem hr
        have e1 : rowAt lk (i : Nat) = r := by
          unfold rowAt
          rw [List.getD_eq_getElem?_getD, Int.toNat_natCast, List.getElem?_eq_getElem hi, e]
          rfl
        rw [el]
        rw [← e1] at hw
        rcases (both.2 i w).mp hw with z | ⟨u, hu, rfl, _⟩
        · exact row_range hin z
        · exact ⟨by omega, by omega⟩
      exact ⟨_, rfl, q L lk H2 k'.sm k'.nL ⟨qs, SqL.of k'.hL, k'.len, fun i q r e1 e2 => SqL.of (k'.it i q r e1 e2)⟩ both hin2⟩
theorem k_pieces_among (B : Bl mg) (D : Dfn K mg "pieces_among" spieces_among ["pockets"]) (Gboth_ways : Kept P w K mg base 1 "both_ways" ["pockets"] (spBoth K)) (Gall_found : Kept P w K mg base 3 "all_found" ["pockets"] (spAll K)) (Gknots_among : Kept P w K mg base 2 "knots_among" ["found"] (spKnots K)) : Kept P w K mg base 4 "pieces_among" ["pockets"] (spPieces K) := by
  refine D.kept (N := Npieces_among) scpieces_among (fun vs H Q E h => ?_) (fun f cdv A outer s H vs Q E hr h => ?_)
  · obtain ⟨a, rows, rfl, _⟩ := h
    rfl
  obtain ⟨a, rows, rfl, g, n9, hin, h9, q⟩ := h
  refine ⟨_, (pss_one (ps_ret (pe_k Gknots_among (hr.mono (by first | decide | omega)) (by rfl) (pa_cons (pe_k Gall_found (hr.mono (by first | decide | omega)) (by rfl) (pa_cons (pe_k Gboth_ways (hr.mono (by first | decide | omega)) (by rfl) (pa_cons (pv 0) pa_nil)) pa_nil)) pa_nil)))), ?_⟩
  refine ⟨_, rfl, a, rows, rfl, g, n9, hin, h9, fun L lk H2 s2 nL gL both hin2 => ?_⟩
  have el := both.1
  refine ⟨false, L, lk, rfl, gL, by omega, hin2, fun p fs H3 s3 np gf ff => ?_⟩
  have rowf : ∀ i : Nat, i < fs.length → fs[i]? = some (rowAt fs (i : Nat)) := fun i hi => by
    unfold rowAt
    rw [List.getD_eq_getElem?_getD, Int.toNat_natCast, List.getElem?_eq_getElem hi]
    rfl
  refine ⟨p, fs, rfl, gf, by rw [ff.1]; omega, fun f hf w hw => ?_, fun f hf => ?_, fun u hu => ?_, fun p2 ks H4 s4 np2 gk kk => ?_⟩
  · obtain ⟨i, hi, e⟩ := List.getElem_of_mem hf
    have z := ff.2 i f (by rw [← e]; exact List.getElem?_eq_getElem hi)
    have y := ((z.2.1 w).mp hw).range hin2 ⟨by omega, by have := ff.1; omega⟩
    rw [ff.1]
    exact y
  · obtain ⟨i, hi, e⟩ := List.getElem_of_mem hf
    exact (ff.2 i f (by rw [← e]; exact List.getElem?_eq_getElem hi)).2.2
  · exact ((ff.2 u _ (rowf u hu)).2.1 u).mpr .refl
  · exact q p2 lk fs ks H4 (s2.trans (s3.trans s4)) (none_of s2 (none_of s3 np2)) gk both ff kk
end
end Lw

set_option maxHeartbeats 4000000
namespace Lw
open PySem PySem.Spec PyProof.Rows L2 EF Hn
open PySem.W (Frag keepIn)
/-- the cards of a pocket; the pockets of a web -/
def cardsOf : PyData → List Int
  | .tuple es => es.map intOf
  | _ => []
def webRows : PyData → List (List Int)
  | .tuple ps => ps.map cardsOf
  | _ => []
theorem asc_pairwise : ∀ {ns : List Int}, asc ns = true → ns.Pairwise (· < ·)
  | [], _ => .nil
  | [_], _ => List.pairwise_singleton _ _
  | x :: y :: r, h => by
    obtain ⟨h1, h2⟩ := (Bool.and_eq_true _ _).mp (show (decide (x < y) && asc (y :: r)) = true from h)
    have ih := asc_pairwise h2
    have hxy := of_decide_eq_true h1
    refine List.pairwise_cons.mpr ⟨fun z hz => ?_, ih⟩
    rcases List.mem_cons.mp hz with rfl | hz
    · exact hxy
    · exact Int.lt_trans hxy ((List.pairwise_cons.mp ih).1 z hz)
/-- a web, as rows of ints -/
structure WebRows (rows : List (List Int)) : Prop where
  one : 1 ≤ rows.length
  nine : rows.length ≤ 9
  rng : InRange rows
  up : ∀ r ∈ rows, r.Pairwise (· < ·)
  own : ∀ (i : Nat) (r : List Int), rows[i]? = some r → (i : Int) ∉ r
  few : ∀ r ∈ rows, r.length ≤ 9
theorem pocket_rows {N : Addr → Prop} {H : Hp} {K : Frag} {u m : Int} {d : PyData} {x : V} (h : pocketB u m d = true) (r : Rep N H d x) : ∃ p, x = .ref p ∧ SqT K H p ((cardsOf d).map V.int) ∧ (cardsOf d).Pairwise (· < ·) ∧ u ∉ cardsOf d ∧ ∀ w ∈ cardsOf d, 0 ≤ w ∧ w < m := by
  cases d with
  | tuple ds =>
    obtain ⟨h1, h2⟩ := (Bool.and_eq_true _ _).mp (show ((ds.all fun d => perB m d && !decide (intOf d = u)) && asc (ds.map intOf)) = true from h)
    obtain ⟨p, xs, rfl, hp, rl⟩ := r
    have e := pers_ints h1
    rw [e] at rl
    have ex := rl.ints
    refine ⟨p, rfl, ?_, asc_pairwise h2, fun hu => ?_, fun w hw => ?_⟩
    · show SqT K H p ((ds.map intOf).map V.int)
      rw [← ex]
      exact SqT.of hp
    · obtain ⟨d, hd, ed⟩ := List.mem_map.mp hu
      have z := List.all_eq_true.mp h1 d hd
      rw [ed, decide_eq_true rfl, Bool.not_true, Bool.and_false] at z
      cases z
    · obtain ⟨d, hd, ed⟩ := List.mem_map.mp hw
      have z := ((Bool.and_eq_true _ _).mp (List.all_eq_true.mp h1 d hd)).1
      cases d with
      | int i =>
        obtain ⟨z1, z2⟩ := (Bool.and_eq_true _ _).mp (show (decide (0 ≤ i) && decide (i < m)) = true from z)
        rw [← ed]
        exact ⟨of_decide_eq_true z1, of_decide_eq_true z2⟩
      | _ => cases z
  | _ => cases h
theorem pockets_at {m : Int} : ∀ {ps : List PyData} {u : Nat}, pocketsB m u ps = true → ∀ (i : Nat) (p : PyData), ps[i]? = some p → pocketB ((u + i : Nat) : Int) m p = true
  | [], _, _, i, p, e => by cases e
  | q :: ps, u, h, 0, p, e => by
    obtain rfl := Option.some.inj (show some q = some p from e)
    exact ((Bool.and_eq_true _ _).mp (show (pocketB (u : Int) m q && pocketsB m (u + 1) ps) = true from h)).1
  | q :: ps, u, h, i + 1, p, e => by
    have z := pockets_at ((Bool.and_eq_true _ _).mp (show (pocketB (u : Int) m q && pocketsB m (u + 1) ps) = true from h)).2 i p e
    rw [show u + (i + 1) = u + 1 + i by omega]
    exact z
theorem web_rows {N : Addr → Prop} {H : Hp} {K : Frag} {d : PyData} {x : V} (h : webB d = true) (r : Rep N H d x) : ∃ a, x = .ref a ∧ Grid K true H a (webRows d) ∧ WebRows (webRows d) := by
  cases d with
  | tuple ps =>
    obtain ⟨h0, h2⟩ := (Bool.and_eq_true _ _).mp (show ((decide (1 ≤ ps.length) && decide (ps.length ≤ 9)) && pocketsB (ps.length : Int) 0 ps) = true from h)
    obtain ⟨h01, h02⟩ := (Bool.and_eq_true _ _).mp h0
    have n1 := of_decide_eq_true h01
    have n9 := of_decide_eq_true h02
    obtain ⟨a, xs, rfl, ha, rl⟩ := r
    have hl := rl.length
    have pk : ∀ (i : Nat) (p : PyData), ps[i]? = some p → ∃ q, xs[i]? = some (.ref q) ∧ SqT K H q ((cardsOf p).map V.int) ∧ (cardsOf p).Pairwise (· < ·) ∧ (i : Int) ∉ cardsOf p ∧ ∀ w ∈ cardsOf p, 0 ≤ w ∧ w < (ps.length : Int) := fun i p e => by
      obtain ⟨y, hy, ry⟩ := rl.at e
      have z := pockets_at h2 i p e
      rw [Nat.zero_add] at z
      obtain ⟨q, rfl, z1, z2, z3, z4⟩ := pocket_rows (K := K) z ry
      exact ⟨q, hy, z1, z2, z3, z4⟩
    have hrow : ∀ r ∈ ps.map cardsOf, ∃ (i : Nat) (p : PyData), ps[i]? = some p ∧ r = cardsOf p := fun r hr => by
      obtain ⟨p, hp, e⟩ := List.mem_map.mp hr
      obtain ⟨i, hi, e2⟩ := List.getElem_of_mem hp
      exact ⟨i, p, by rw [← e2]; exact List.getElem?_eq_getElem hi, e.symm⟩
    have rng : InRange (ps.map cardsOf) := fun r hr w hw => by
      obtain ⟨i, p, e, rfl⟩ := hrow r hr
      obtain ⟨_, _, _, _, _, z⟩ := pk i p e
      rw [List.length_map]
      exact z w hw
    refine ⟨a, rfl, ?_, ⟨by show 1 ≤ (ps.map cardsOf).length; rw [List.length_map]; exact n1, by show (ps.map cardsOf).length ≤ 9; rw [List.length_map]; exact n9, rng, fun r hr => ?_, fun i r hr => ?_, fun r hr => ?_⟩⟩
    · refine ⟨xs.map fun y => match y with | .ref q => q | _ => 0, ?_, ?_, fun i q r e1 e2 => ?_⟩
      · have e : ((xs.map fun y => match y with | V.ref q => q | _ => 0).map V.ref) = xs := by
          rw [List.map_map]
          refine List.ext_getElem? fun i => ?_
          rw [List.getElem?_map]
          cases e : xs[i]? with
          | none => rfl
          | some y =>
            obtain ⟨p, hp⟩ : ∃ p, ps[i]? = some p := ⟨_, List.getElem?_eq_getElem (by have := (List.getElem?_eq_some_iff.mp e).1; omega)⟩
            obtain ⟨q, hq, _⟩ := pk i p hp
            obtain rfl := Option.some.inj (e.symm.trans hq)
            rfl
        show SqT K H a _
        rw [e]
        exact SqT.of ha
      · show _ = (ps.map cardsOf).length
        rw [List.length_map, List.length_map, hl]
      · have e2' : (ps.map cardsOf)[i]? = some r := e2
        rw [List.getElem?_map] at e1 e2'
        obtain ⟨y, hy, e1⟩ := Option.map_eq_some_iff.mp e1
        obtain ⟨p, hp, rfl⟩ := Option.map_eq_some_iff.mp e2'
        obtain ⟨q', hq, z, _⟩ := pk i p hp
        obtain rfl := Option.some.inj (hy.symm.trans hq)
        obtain rfl : q' = q := e1
        exact z
    · obtain ⟨i, p, e, rfl⟩ := hrow r hr
      obtain ⟨_, _, _, z, _⟩ := pk i p e
      exact z
    · have hr' : (ps.map cardsOf)[i]? = some r := hr
      rw [List.getElem?_map] at hr'
      obtain ⟨p, hp, rfl⟩ := Option.map_eq_some_iff.mp hr'
      obtain ⟨_, _, _, _, z, _⟩ := pk i p hp
      exact z
    · obtain ⟨i, p, e, rfl⟩ := hrow r hr
      obtain ⟨_, _, _, z, _, y⟩ := pk i p e
      exact Nat.le_trans (few_below (z.imp fun h => Int.ne_of_lt h) y) n9
  | _ => cases h
/-- what the text says of the error -/
structure TX (K : Frag) (mg : Str → Option Value) (C : Addr) : Prop where
  ENoWeb : Err K mg "NoWeb" C
/-- told of a web; an error for what is none -/
def spAsk (C : Addr) (R : Hp → PyData → V → Hp → Prop) : Sp := fun vs H Q E => ∃ (N : Addr → Prop) (d : PyData) (x : V), vs = [x] ∧ Rep N H d x ∧ fit d ∧ (webB d = true → ∀ y H', Same H H' → R H d y H' → Q y H') ∧ (webB d = false → ∀ H', Same H H' → E (.ref C) none H')
def tellNone : Hp → PyData → V → Hp → Prop := fun _ _ y _ => y = .non
def tellFinds (K : Frag) : Hp → PyData → V → Hp → Prop := fun H d y H' => ∃ p fs, y = .ref p ∧ H p = none ∧ Grid K true H' p fs ∧ Finds (webRows d) fs
def tellPieces (K : Frag) : Hp → PyData → V → Hp → Prop := fun H d y H' => ∃ p lk fs ks, y = .ref p ∧ H p = none ∧ Grid K true H' p ks ∧ Both (webRows d) lk ∧ Finds lk fs ∧ KnotsOf fs ks
def tellKnots (K : Frag) : Hp → PyData → V → Hp → Prop := fun H d y H' => ∃ p fs ks, y = .ref p ∧ H p = none ∧ Grid K true H' p ks ∧ Finds (webRows d) fs ∧ KnotsOf fs ks
section
variable {P : Program} {w : World} {K : Frag} {mg : Str → Option Value} {base : Heap} {C : Addr}
theorem k_check_web (B : Bl mg) (T : TX K mg C) (D : Dfn K mg "check_web" scheck_web ["thing"]) (Gis_web : Kept P w K mg base 5 "is_web" ["thing"] spWeb) : KeptX P w K mg base 6 "check_web" ["thing"] (spAsk C tellNone) := by
  refine D.keptX (N := Ncheck_web) sccheck_web (fun vs H Q E h => ?_) (fun f cdv A outer s H vs Q E hr h => ?_)
  · obtain ⟨N, d, x, rfl, _⟩ := h
    rfl
  obtain ⟨N, d, x, rfl, r, sh, q, e⟩ := h
  refine ⟨_, (pss_one (ps_if (pt_not (pt_val (pe_k Gis_web (hr.mono (by first | decide | omega)) (by rfl) (pa_cons (pv 0) pa_nil)))) (pss_one (ps_raise rfl (takes_of rfl rfl rfl rfl) (pmk_own0 T.ENoWeb (by rfl)))) pss_nil)), ?_⟩
  refine ⟨x, rfl, N, d, x, rfl, r, sh, fun H' sm => ⟨_, rfl, ite2 (fun e1 => ?_) (fun e1 => ?_)⟩⟩
  · have z : webB d = false := by
      cases y : webB d with
      | false => rfl
      | true =>
        rw [y] at e1
        cases e1
    exact e z H' sm
  · have z : webB d = true := by
      cases y : webB d with
      | true => rfl
      | false =>
        rw [y] at e1
        exact absurd rfl e1
    exact q z .non H' sm rfl
theorem finds_self {rows fs : List (List Int)} (f : Finds rows fs) {u : Nat} (hu : u < fs.length) : (u : Int) ∈ rowAt fs u := by
  have e : fs[u]? = some (rowAt fs (u : Nat)) := by
    unfold rowAt
    rw [List.getD_eq_getElem?_getD, Int.toNat_natCast, List.getElem?_eq_getElem hu]
    rfl
  exact ((f.2 u _ e).2.1 u).mpr .refl
theorem finds_rows {rows fs : List (List Int)} (f : Finds rows fs) (h : InRange rows) : InRange fs ∧ ∀ r ∈ fs, r.length ≤ 9 := by
  refine ⟨fun r hr w hw => ?_, fun r hr => ?_⟩
  · obtain ⟨i, hi, e⟩ := List.getElem_of_mem hr
    have z := f.2 i r (by rw [← e]; exact List.getElem?_eq_getElem hi)
    rw [f.1]
    exact ((z.2.1 w).mp hw).range h ⟨by omega, by have := f.1; omega⟩
  · obtain ⟨i, hi, e⟩ := List.getElem_of_mem hr
    exact (f.2 i r (by rw [← e]; exact List.getElem?_eq_getElem hi)).2.2
theorem k_finds (B : Bl mg) (D : Dfn K mg "finds" sfinds ["web"]) (Gcheck_web : KeptX P w K mg base 6 "check_web" ["thing"] (spAsk C tellNone)) (Gall_found : Kept P w K mg base 3 "all_found" ["pockets"] (spAll K)) : KeptX P w K mg base 7 "finds" ["web"] (spAsk C (tellFinds K)) := by
  refine D.keptX (N := Nfinds) scfinds (fun vs H Q E h => ?_) (fun f cdv A outer s H vs Q E hr h => ?_)
  · obtain ⟨N, d, x, rfl, _⟩ := h
    rfl
  obtain ⟨N, d, x, rfl, r, sh, q, e⟩ := h
  refine ⟨_, (pss_cons (ps_expr (pe_kx Gcheck_web (hr.mono (by first | decide | omega)) (by rfl) (fun σ => passAt (takes_of rfl rfl rfl rfl) σ) (pa_cons (pv 0) pa_nil)))
      (pss_one (ps_ret (pe_k Gall_found (hr.mono (by first | decide | omega)) (by rfl) (pa_cons (pv 0) pa_nil))))), ?_⟩
  refine ⟨x, rfl, N, d, x, rfl, r, sh, fun z y H' sm ey => ?_, e⟩
  obtain ⟨a, rfl, g, wr⟩ := web_rows (K := K) z r
  exact ⟨_, rfl, true, a, webRows d, rfl, g.same sm, wr.nine, wr.rng, fun p fs H2 s2 np gf ff => q z _ H2 (sm.trans s2) ⟨p, fs, rfl, none_of sm np, gf, ff⟩⟩
theorem k_pieces (B : Bl mg) (D : Dfn K mg "pieces" spieces ["web"]) (Gcheck_web : KeptX P w K mg base 6 "check_web" ["thing"] (spAsk C tellNone)) (Gpieces_among : Kept P w K mg base 4 "pieces_among" ["pockets"] (spPieces K)) : KeptX P w K mg base 7 "pieces" ["web"] (spAsk C (tellPieces K)) := by
  refine D.keptX (N := Npieces) scpieces (fun vs H Q E h => ?_) (fun f cdv A outer s H vs Q E hr h => ?_)
  · obtain ⟨N, d, x, rfl, _⟩ := h
    rfl
  obtain ⟨N, d, x, rfl, r, sh, q, e⟩ := h
  refine ⟨_, (pss_cons (ps_expr (pe_kx Gcheck_web (hr.mono (by first | decide | omega)) (by rfl) (fun σ => passAt (takes_of rfl rfl rfl rfl) σ) (pa_cons (pv 0) pa_nil)))
      (pss_one (ps_ret (pe_k Gpieces_among (hr.mono (by first | decide | omega)) (by rfl) (pa_cons (pv 0) pa_nil))))), ?_⟩
  refine ⟨x, rfl, N, d, x, rfl, r, sh, fun z y H' sm ey => ?_, e⟩
  obtain ⟨a, rfl, g, wr⟩ := web_rows (K := K) z r
  exact ⟨_, rfl, a, webRows d, rfl, g.same sm, wr.nine, wr.rng, wr.few, fun p lk fs ks H2 s2 np gk bo ff kk => q z _ H2 (sm.trans s2) ⟨p, lk, fs, ks, rfl, none_of sm np, gk, bo, ff, kk⟩⟩
theorem k_knots (B : Bl mg) (D : Dfn K mg "knots" sknots ["web"]) (Gcheck_web : KeptX P w K mg base 6 "check_web" ["thing"] (spAsk C tellNone)) (Gall_found : Kept P w K mg base 3 "all_found" ["pockets"] (spAll K)) (Gknots_among : Kept P w K mg base 2 "knots_among" ["found"] (spKnots K)) : KeptX P w K mg base 7 "knots" ["web"] (spAsk C (tellKnots K)) := by
  refine D.keptX (N := Nknots) scknots (fun vs H Q E h => ?_) (fun f cdv A outer s H vs Q E hr h => ?_)
  · obtain ⟨N, d, x, rfl, _⟩ := h
    rfl
  obtain ⟨N, d, x, rfl, r, sh, q, e⟩ := h
  refine ⟨_, (pss_cons (ps_expr (pe_kx Gcheck_web (hr.mono (by first | decide | omega)) (by rfl) (fun σ => passAt (takes_of rfl rfl rfl rfl) σ) (pa_cons (pv 0) pa_nil)))
      (pss_one (ps_ret (pe_k Gknots_among (hr.mono (by first | decide | omega)) (by rfl) (pa_cons (pe_k Gall_found (hr.mono (by first | decide | omega)) (by rfl) (pa_cons (pv 0) pa_nil)) pa_nil))))), ?_⟩
  refine ⟨x, rfl, N, d, x, rfl, r, sh, fun z y H' sm ey => ?_, e⟩
  obtain ⟨a, rfl, g, wr⟩ := web_rows (K := K) z r
  refine ⟨_, rfl, true, a, webRows d, rfl, g.same sm, wr.nine, wr.rng, fun p fs H2 s2 np gf ff => ?_⟩
  obtain ⟨z1, z2⟩ := finds_rows ff wr.rng
  exact ⟨p, fs, rfl, gf, by rw [ff.1]; exact wr.nine, z1, z2, fun u hu => finds_self ff hu, fun p2 ks H3 s3 np2 gk kk => q z _ H3 (sm.trans (s2.trans s3)) ⟨p2, fs, ks, rfl, none_of sm (none_of s2 np2), gk, ff, kk⟩⟩
end
end Lw

set_option maxHeartbeats 4000000
namespace Lw
open PySem PySem.Spec PyProof.Rows L2 EF Hn
open PySem.W (Frag keepIn)
abbrev s_law_web : Stmt := top 28
abbrev N_law_web : List Str := ["bag", "most", "many", "share", "cards", "person", "other", "way", "pocket"]
theorem sc_law_web : FnScope N_law_web ["bag", "most"] (defScope s_law_web) := ⟨rfl, rfl, rfl, by decide +kernel, rfl, by decide +kernel, by decide +kernel⟩
/-- p is a tuple of tuples of ints -/
def WebAt (H : Hp) (p : Addr) (rows : List (List Int)) : Prop := ∃ as : List Addr, H p = some (.tup (as.map V.ref)) ∧ as.length = rows.length ∧ ∀ (i : Nat) (q : Addr) (r : List Int), as[i]? = some q → rows[i]? = some r → H q = some (.tup (r.map V.int))
def spDraw : Sp := fun vs H Q _ => ∃ (b g : Addr) (m : Int), vs = [.ref b, .int m] ∧ BagAt H b g ∧ 0 < m ∧ m ≤ 9 ∧ ∀ (p : Addr) (rows : List (List Int)) (H' : Hp), But b g H H' → BagAt H' b g → H p = none → WebAt H' p rows → WebRows rows → (rows.length : Int) ≤ m → Q (.ref p) H'
section
variable {P : Program} {w : World} {K : Frag} {mg : Str → Option Value} {base : Heap} {C : Addr}
theorem k_web (B : Bl mg) (D : Dfn K mg "_law_web" s_law_web ["bag", "most"]) (G_law_pick : Kept P w K mg base 1 "_law_pick" ["bag", "many"] spPick) (G_law_some : Kept P w K mg base 2 "_law_some" ["bag", "things"] (spSome K)) : Kept P w K mg base 3 "_law_web" ["bag", "most"] spDraw := by
  refine D.keptC (N := N_law_web) sc_law_web (fun vs H Q E h => ?_) (fun f cdv A outer s H vs Q E hcd hr h => ?_)
  · obtain ⟨b, g, m, rfl, _⟩ := h
    rfl
  obtain ⟨b, g, m, rfl, hb, m0, m9, q⟩ := h
  refine ⟨_, (pss_cons (ps_set (i := 2) sc_law_web.nd rfl (Or.inr rfl) (pe_op op_add pe_int (pe_k G_law_pick (hr.mono (by first | decide | omega)) (by rfl) (pa_cons (pv 0) (pa_cons (pv 1) pa_nil)))))
      (pss_cons (ps_set (i := 3) sc_law_web.nd rfl (Or.inr rfl) (pe_k G_law_some (hr.mono (by first | decide | omega)) (by rfl) (pa_cons (pv 0) (pa_cons (pe_lst (pa_cons pe_int (pa_cons pe_int (pa_cons pe_int (pa_cons pe_int (pa_cons pe_int (pa_cons pe_int pa_nil))))))) pa_nil))))
      (pss_cons (ps_set (i := 4) sc_law_web.nd rfl (Or.inl rfl) (pe_lst pa_nil))
      (pss_cons (ps_for PassesOwn.never rfl (pi_range1 (by rfl) B.b_range (pa_cons (pv 2) pa_nil)) (pg_name (i := 5) sc_law_web.nd rfl (Or.inr rfl)) (pss_one (ps_expr (pe_bm PySem.F.plainAttrs_list PySem.F.slot_list_append PySem.F.type_list_append mt_append (pv 4) (pa_cons (pe_lc (own := [("other", 6)]) (g := gName 6) (by rfl) sc_law_web.nd (pi_range1 (by rfl) B.b_range (pa_cons (pv 2) pa_nil)) (blkOk_by (own := [("other", 6)]) (N := N_law_web) (sc := defScope s_law_web) (by decide +kernel)) (fun _ _ _ _ _ => (pg_name (i := 6) sc_law_web.nd rfl (Or.inl rfl))) (fun _ _ _ _ _ => (pts_one (pw_and (pt_cmpR op_ne (pv 6) (pv 5) (nomark _)) (pw_and1 (pt_cmpR op_eq (pe_k G_law_pick (hr.mono (by first | decide | omega)) (by rfl) (pa_cons (pv 0) (pa_cons (pv 3) pa_nil))) pe_int (nomark _)))).pt)) (fun _ _ _ _ _ => (pv 6))) pa_nil)))))
      (pss_cons (ps_set (i := 7) sc_law_web.nd rfl (Or.inl rfl) (pe_k G_law_pick (hr.mono (by first | decide | omega)) (by rfl) (pa_cons (pv 0) (pa_cons pe_int pa_nil))))
      (pss_cons (ps_if (pt_cmpR op_eq (pv 7) pe_int (nomark _)) (pss_one (ps_setLc (i := 4) (own := [("person", 5)]) (g := gName 5) (by rfl) sc_law_web.nd rfl rfl (sw_true rfl rfl rfl (by decide +kernel)) (pi_range1 (by rfl) B.b_range (pa_cons (pv 2) pa_nil)) (blkOk_by (own := [("person", 5)]) (N := N_law_web) (sc := defScope s_law_web) (by decide +kernel)) (fun _ _ _ _ _ => (pg_name (i := 5) sc_law_web.nd rfl (Or.inl rfl))) (fun _ _ _ _ _ => pts_nil) (fun _ _ _ _ _ => (pe_lc (own := [("other", 6)]) (g := gName 6) (by rfl) sc_law_web.nd (pi_listK (K := K) rfl (pe_lst (pa_cons (pe_op op_sub (pv 5) pe_int) (pa_cons (pe_op op_add (pv 5) pe_int) pa_nil)))) (blkOk_by (own := [("other", 6)]) (N := N_law_web) (by dsimp only [Cx.blk, compEnvC, relabel, cxOf, Cx.nox, envOfC, Env.kindOf]; first | rfl | decide +kernel)) (fun _ _ _ _ _ => (pg_name (i := 6) sc_law_web.nd rfl (Or.inl rfl))) (fun _ _ _ _ _ => (pts_one (pt_chain op_le op_lt pe_int (pv 6) (pv 2)))) (fun _ _ _ _ _ => (pv 6)))))) pss_nil)
      (pss_cons (ps_if (pt_cmpR op_eq (pv 7) pe_int (nomark _)) (pss_one (ps_setLc (i := 4) (own := [("person", 5)]) (g := gName 5) (by rfl) sc_law_web.nd rfl rfl (sw_true rfl rfl rfl (by decide +kernel)) (pi_range1 (by rfl) B.b_range (pa_cons (pv 2) pa_nil)) (blkOk_by (own := [("person", 5)]) (N := N_law_web) (sc := defScope s_law_web) (by decide +kernel)) (fun _ _ _ _ _ => (pg_name (i := 5) sc_law_web.nd rfl (Or.inl rfl))) (fun _ _ _ _ _ => pts_nil) (fun _ _ _ _ _ => (pe_ifExp (pt_cmpR op_gt (pv 2) pe_int (nomark _)) (pe_lst (pa_cons (pe_op op_mod (pe_callTy call_int1 (by rfl) B.b_int (by decide +kernel) (pa_cons (pe_op op_add (pv 5) pe_int) pa_nil)) (pv 2)) pa_nil)) (pe_lst pa_nil))))) pss_nil)
      (pss_cons (ps_if (pt_cmpR op_eq (pv 7) pe_int (nomark _)) (pss_one (ps_setLc (i := 4) (own := [("person", 5), ("pocket", 8)]) (g := gTup K 2 (gCons (gName 5) (gCons (gName 8) (gNil)))) (by rfl) sc_law_web.nd rfl rfl (sw_true rfl rfl rfl (by decide +kernel)) (pi_enum (by rfl) B.b_enumerate (pa_cons (pv 4) pa_nil)) (blkOk_by (own := [("person", 5), ("pocket", 8)]) (N := N_law_web) (sc := defScope s_law_web) (by decide +kernel)) (fun _ _ _ _ _ => (pg_tup rfl (pgs_cons (pg_name (i := 5) sc_law_web.nd rfl (Or.inl rfl)) (pgs_cons (pg_name (i := 8) sc_law_web.nd rfl (Or.inl rfl)) pgs_nil)))) (fun _ _ _ _ _ => pts_nil) (fun _ _ _ _ _ => (pe_ifExp (pt_cmpR op_eq (pe_op op_mod (pe_callTy call_int1 (by rfl) B.b_int (by decide +kernel) (pa_cons (pv 5) pa_nil)) pe_int) pe_int (nomark _)) (pv 8) (pe_lst pa_nil))))) pss_nil)
      (pss_one (ps_ret (pe_callTy call_tuple_of (by rfl) B.b_tuple (by decide +kernel) (pa_cons (pe_lc (own := [("pocket", 8)]) (g := gName 8) (by rfl) sc_law_web.nd (pi_list (pv 4)) (blkOk_by (own := [("pocket", 8)]) (N := N_law_web) (sc := defScope s_law_web) (by decide +kernel)) (fun _ _ _ _ _ => (pg_name (i := 8) sc_law_web.nd rfl (Or.inl rfl))) (fun _ _ _ _ _ => pts_nil) (fun _ _ _ _ _ => (pe_callTy (tupleK (K := K) rfl) (by rfl) B.b_tuple (by decide +kernel) (pa_cons (pv 8) pa_nil)))) pa_nil)))))))))))), ?_⟩
  -- many = 1 + _law_pick(bag, most)
  refine ⟨_, rfl, _, rfl, b, g, m, rfl, hb, m0, by omega, fun r H1 bt1 hb1 r0 r1 => ⟨_, _, rfl, rfl, ?_⟩⟩
  obtain ⟨n, hn⟩ : ∃ n : Nat, (1 : Int) + r = (n : Int) := ⟨(1 + r).toNat, by omega⟩
  show gName 2 (V.int (1 + r)) _ _ _
  rw [hn]
  have n1 : 1 ≤ n := by omega
  have n9 : n ≤ 9 := by omega
  have nm : (n : Int) ≤ m := by omega
  -- share = _law_some(bag, [..])
  refine ⟨_, rfl, len_le (by decide : 6 ≤ 1000), fun l nl => ?_⟩
  have sl := same_new (o := .lst [.int 2, .int 3, .int 5, .int 1, .int 12, .int 4]) nl
  have hb2 := hb1.same sl
  obtain ⟨lb, lg⟩ := hb1.ne nl
  refine ⟨b, g, l, _, rfl, hb2, lb, lg, .inl (SqL.of upd_same), (by decide : 0 < 6), (by decide : 6 ≤ 1000), fun x H2 bt2 hb2' hx => ?_⟩
  obtain ⟨k, rfl, k0, k12⟩ : ∃ k : Int, x = .int k ∧ 0 < k ∧ k ≤ 12 := by
    simp only [List.mem_cons, List.not_mem_nil, or_false] at hx
    rcases hx with h | h | h | h | h | h <;> exact ⟨_, h, by decide, by decide⟩
  have bt := (bt1.trans (.of sl)).trans bt2
  clear bt2 hb2 sl lb lg nl hx
  generalize upd H1 l (.lst [.int 2, .int 3, .int 5, .int 1, .int 12, .int 4]) = H1' at *
  -- cards = []
  refine ⟨len_le (by decide : 0 ≤ 1000), fun c nc => ?_⟩
  have kc0 : Cards H (upd H2 c (.lst [])) b g c [] := .nil bt hb2' nc
  generalize upd H2 c (.lst []) = H3 at kc0 ⊢
  -- the loop
  dsimp only [gName]
  show tSeq (tFor _ _ _) _ _ _ _
  refine cutS (fun σ H' => ∃ x5 rows, σ = [some (.ref b), some (.int m), some (.int n), some (.int k), some (.ref c), x5, none, none, none] ∧ Cards H H' b g c rows ∧ rows.length = n ∧ GoodRows n rows) ?rest1 (fun go => ?loop)
  case loop =>
    refine ⟨_, rfl, n, rfl, by omega, by omega, ?_⟩
    refine for_range (lo := 0) (n := (n : Int).toNat) (fun i σ H' => ∃ x5 rows, σ = [some (.ref b), some (.int m), some (.int n), some (.int k), some (.ref c), x5, none, none, none] ∧ Cards H H' b g c rows ∧ rows.length = i ∧ GoodRows n rows) ⟨none, [], rfl, kc0, rfl, fun i r e => by simp at e⟩ ?_ ?_
    · rintro i σ H4 hi ⟨x5, rows, rfl, kc, rfl, gr⟩
      obtain ⟨qs, hqs, lqs⟩ := kc.list
      refine ⟨_, rfl, .inl ⟨rfl, _, SqL.of hqs⟩, _, rfl, n, rfl, by omega, by omega, fun D nD => ?_⟩
      have nD0 := kc.bt.none kc.bag nD
      obtain ⟨nDb, nDg⟩ := kc.bag.ne nD
      have nDc : D ≠ c := fun z => by
        rw [z, hqs] at nD
        cases nD
      have qD : ∀ q ∈ qs, q ≠ D := fun q hq z => by
        obtain ⟨j, hj, e⟩ := List.getElem_of_mem hq
        obtain ⟨xs, q', h1, _, h3, h4, _⟩ := kc.row (i := j) (r := rows[j]'(by omega)) (List.getElem?_eq_getElem (by omega))
        have e2 := Option.some.inj (h1.symm.trans hqs)
        rw [HO.lst.inj e2, List.getElem?_map, List.getElem?_eq_getElem hj, e] at h3
        have e3 : q = q' := V.ref.inj (Option.some.inj h3)
        rw [← e3, z, nD] at h4
        cases h4
      refine lc_range (lo := 0) (n := (n : Int).toNat) (fun j H' => ∃ rr : List Int, Cards H H' b g c rows ∧ H' c = some (.lst (qs.map V.ref)) ∧ H' D = some (.lst (rr.map V.int)) ∧ rr.Pairwise (· < ·) ∧ rr.length ≤ j ∧ ∀ w ∈ rr, 0 ≤ w ∧ w < (j : Int) ∧ w ≠ (rows.length : Int)) ⟨[], kc.same (same_new nD), same_new nD _ _ hqs, upd_same, .nil, Nat.le_refl _, fun w h => absurd h List.not_mem_nil⟩ ?_ ?_
      · rintro j H5 hj ⟨rr, kd, hc5, hD5, pw, lr, rg⟩
        have keep : ∀ rr' : List Int, Cards H (upd H5 D (.lst (rr'.map V.int))) b g c rows := fun rr' => kd.mut nD0 nDb nDg nDc (fun qs' e => by
          have e2 := HO.lst.inj (Option.some.inj (e.symm.trans hc5))
          have e3 : qs' = qs := List.map_inj_right (fun _ _ z => V.ref.inj z) |>.mp e2
          rw [e3]
          exact fun h => qD D h rfl)
        refine ⟨rfl, ?_⟩
        refine ⟨_, rfl, _, rfl, rfl, _, rfl, ite2 (fun e1 => ?_) (fun e1 => ?_)⟩
        · refine ⟨_, rfl, _, rfl, b, g, k, rfl, kd.bag, k0, by omega, fun r2 H6 bt6 hb6 r20 r21 => ⟨rfl, _, rfl, ?_⟩⟩
          have kd6 := kd.but bt6 hb6
          have hc6 := bt6 _ _ kd.cb kd.cg hc5
          have hD6 := bt6 _ _ nDb nDg hD5
          refine ite2 (fun e2 => ?_) (fun e2 => ?_)
          · refine ⟨_, rfl, _, hD6, by rw [List.length_map]; exact len_lt (by omega), rr ++ [(j : Int)], ?_⟩
            have ee : rr.map V.int ++ [V.int (0 + (j : Int))] = (rr ++ [(j : Int)]).map V.int := by
              rw [List.map_append, Int.zero_add]
              rfl
            rw [ee]
            have ne : (j : Int) ≠ (rows.length : Int) := fun z => by
              have z1 : ¬ (V.int ((0 : Int) + (j : Int)) = V.int ((0 : Int) + (rows.length : Int))) := by
                intro y
                rw [decide_eq_true y] at e1
                cases e1
              rw [z] at z1
              exact z1 rfl
            refine ⟨?_, ?_, upd_same, ?_, ?_, ?_⟩
            · refine kd6.mut nD0 nDb nDg nDc (fun qs' e => ?_)
              have e2 := HO.lst.inj (Option.some.inj (e.symm.trans hc6))
              have e3 : qs' = qs := List.map_inj_right (fun _ _ z => V.ref.inj z) |>.mp e2
              rw [e3]
              exact fun h => qD D h rfl
            · rw [upd_ne (Ne.symm nDc)]
              exact hc6
            · refine List.pairwise_append.mpr ⟨pw, List.pairwise_singleton _ _, fun x hx y hy => ?_⟩
              rw [List.mem_singleton.mp hy]
              exact (rg x hx).2.1
            · rw [List.length_append]
              exact Nat.succ_le_succ lr
            · intro w hw
              rcases List.mem_append.mp hw with z | z
              · have := rg w z
                exact ⟨this.1, by omega, this.2.2⟩
              · rw [List.mem_singleton.mp z]
                exact ⟨by omega, by omega, ne⟩
          · exact ⟨rr, kd6, hc6, hD6, pw, by omega, fun w hw => ⟨(rg w hw).1, by have := (rg w hw).2.1; omega, (rg w hw).2.2⟩⟩
        · exact ite2 (fun z => by cases z) (fun _ => ⟨rr, kd, hc5, hD5, pw, by omega, fun w hw => ⟨(rg w hw).1, by have := (rg w hw).2.1; omega, (rg w hw).2.2⟩⟩)
      · rintro H5 ⟨rr, kd, hc5, hD5, pw, lr, rg⟩
        obtain ⟨acc, ha, la, kp⟩ := kd.push hD5 nD0 nDb nDg nDc
        obtain rfl := HO.lst.inj (Option.some.inj (ha.symm.trans hc5))
        refine ⟨c, _, _, rfl, rfl, ha, by rw [la]; exact len_lt (by omega), ?_⟩
        refine ⟨_, _, rfl, kp, by rw [List.length_append]; rfl, gr.snoc ⟨pw, fun w hw => ⟨(rg w hw).1, by have := (rg w hw).2.1; omega⟩, fun h => (rg _ h).2.2 rfl⟩⟩
    · rintro σ H4 ⟨x5, rows, rfl, kc, el, gr⟩
      exact go _ _ ⟨x5, rows, rfl, kc, by omega, gr⟩
  case rest1 =>
    rintro _ H4 ⟨x5, rows, rfl, kc4, el, gr⟩
    -- way = _law_pick(bag, 6)
    refine ⟨_, rfl, b, g, 6, rfl, kc4.bag, by decide, by decide, fun wy H5 bt5 hb5 w0 w1 => ?_⟩
    have kc := kc4.but bt5 hb5
    dsimp only [gName]
    show tSeq (tIfS _ _ _) _ _ _ _
    -- if way == 1
    refine cutS (fun σ H' => ∃ x5 c rows, σ = [some (.ref b), some (.int m), some (.int n), some (.int k), some (.ref c), x5, none, some (.int wy), none] ∧ Cards H H' b g c rows ∧ rows.length = n ∧ GoodRows n rows) ?rest2 (fun go => ?way1)
    case way1 =>
      refine ⟨_, rfl, rfl, _, rfl, ite2 (fun e => ?_) (fun e => go _ _ ⟨x5, c, rows, rfl, kc, el, gr⟩)⟩
      refine ⟨_, rfl, n, rfl, by omega, by omega, fun D nD => ?_⟩
      refine lc_range (lo := 0) (n := (n : Int).toNat) (fun i H' => ∃ rows2, Cards H H' b g D rows2 ∧ rows2.length = i ∧ GoodRows n rows2) ⟨[], .nil kc.bt kc.bag nD, rfl, fun i r e => by simp at e⟩ ?_ ?_
      · rintro i H6 hi ⟨rows2, kd, rfl, gr2⟩
        refine ⟨rfl, ?_⟩
        refine ⟨_, rfl, _, _, rfl, rfl, _, rfl, _, _, rfl, rfl, len_le (by decide : 2 ≤ 1000), fun l nl => ⟨l, rfl, ⟨_, SqL.of upd_same⟩, fun D2 nD2 => ?_⟩⟩
        have kd2 := kd.same (same_new (o := .lst [.int ((0 : Int) + (rows2.length : Nat) - 1), .int ((0 : Int) + (rows2.length : Nat) + 1)]) nl)
        refine lc_list (xs := [.int ((0 : Int) + (rows2.length : Nat) - 1), .int ((0 : Int) + (rows2.length : Nat) + 1)]) (fun j H' => Side H H' b g D rows2 D2 ∧ H' l = some (.lst [.int ((0 : Int) + (rows2.length : Nat) - 1), .int ((0 : Int) + (rows2.length : Nat) + 1)]) ∧
          H' D2 = some (.lst (((([(0 : Int) + (rows2.length : Nat) - 1, (0 : Int) + (rows2.length : Nat) + 1]).take j).filter fun w => decide (0 ≤ w) && decide (w < (n : Int))).map V.int)))
          ⟨.new kd2 nD2, same_new nD2 _ _ upd_same, upd_same⟩ (fun j H' _ z => SqL.of z.2.1) ?_ ?_
        · rintro j x H7 hx ⟨sd, hl, hD2⟩
          have lD : l ≠ D2 := lst_ne upd_same nD2
          have hx' : (([(0 : Int) + (rows2.length : Nat) - 1, (0 : Int) + (rows2.length : Nat) + 1]).map V.int)[j]? = some x := hx
          rw [List.getElem?_map] at hx'
          obtain ⟨y, hy, rfl⟩ := Option.map_eq_some_iff.mp hx'
          have tk : ([(0 : Int) + (rows2.length : Nat) - 1, (0 : Int) + (rows2.length : Nat) + 1]).take (j + 1) = ([(0 : Int) + (rows2.length : Nat) - 1, (0 : Int) + (rows2.length : Nat) + 1]).take j ++ [y] := by
            rw [List.take_succ, hy]
            rfl
          have sz : (((([(0 : Int) + (rows2.length : Nat) - 1, (0 : Int) + (rows2.length : Nat) + 1]).take j).filter fun w => decide (0 ≤ w) && decide (w < (n : Int))).map V.int).length < sizeLine := by
            rw [List.length_map]
            have h1 := List.length_filter_le (fun w => decide (0 ≤ w) && decide (w < (n : Int))) (([(0 : Int) + (rows2.length : Nat) - 1, (0 : Int) + (rows2.length : Nat) + 1]).take j)
            rw [List.length_take] at h1
            have h2 : ([(0 : Int) + (rows2.length : Nat) - 1, (0 : Int) + (rows2.length : Nat) + 1]).length = 2 := rfl
            exact len_lt (by omega)
          have no : ¬ ((decide (0 ≤ y) && decide (y < (n : Int))) = true) → Side H H7 b g D rows2 D2 ∧ H7 l = some (.lst [.int ((0 : Int) + (rows2.length : Nat) - 1), .int ((0 : Int) + (rows2.length : Nat) + 1)]) ∧
            H7 D2 = some (.lst (((([(0 : Int) + (rows2.length : Nat) - 1, (0 : Int) + (rows2.length : Nat) + 1]).take (j + 1)).filter fun w => decide (0 ≤ w) && decide (w < (n : Int))).map V.int)) := fun ne => by
            refine ⟨sd, hl, ?_⟩
            rw [tk, List.filter_append, List.filter_cons, if_neg ne, List.filter_nil, List.append_nil]
            exact hD2
          refine ⟨rfl, ?_⟩
          refine ⟨_, rfl, _, _, rfl, rfl, _, rfl, ite2 (fun e1 => ⟨_, rfl, _, _, rfl, rfl, _, rfl, ite2 (fun e2 => ?_) (fun e2 => ?_)⟩) (fun e1 => ⟨_, rfl, ite2 (fun z => by cases z) (fun _ => ?_)⟩)⟩
          · refine ⟨_, rfl, _, hD2, sz, sd.set, by rw [upd_ne lD]; exact hl, ?_⟩
            have yes : (decide (0 ≤ y) && decide (y < (n : Int))) = true := by rw [Bool.and_eq_true]; exact ⟨e1, e2⟩
            rw [upd_same, tk, List.filter_append, List.map_append, List.filter_cons, if_pos yes]
            rfl
          · exact no fun z => e2 ((Bool.and_eq_true _ _).mp z).2
          · exact no fun z => e1 ((Bool.and_eq_true _ _).mp z).1
        · rintro H7 ⟨sd, hl, hD2⟩
          obtain ⟨acc, ha, la, kp⟩ := sd.push hD2
          refine ⟨acc, ha, by rw [la]; exact len_lt (by omega), _, kp, by rw [List.length_append]; rfl, gr2.snoc ⟨?_, fun w hw => ?_, fun h => ?_⟩⟩
          · refine List.Pairwise.filter _ ?_
            refine List.pairwise_cons.mpr ⟨fun a ha => ?_, List.pairwise_singleton _ _⟩
            rw [List.mem_singleton.mp ha]
            omega
          · have z := (Bool.and_eq_true _ _).mp (List.mem_filter.mp hw).2
            exact ⟨of_decide_eq_true z.1, of_decide_eq_true z.2⟩
          · have z : ((rows2.length : Nat) : Int) ∈ [(0 : Int) + (rows2.length : Nat) - 1, (0 : Int) + (rows2.length : Nat) + 1] := (List.mem_filter.mp h).1
            simp only [List.mem_cons, List.not_mem_nil, or_false] at z
            omega
      · rintro H6 ⟨rows2, kd, el2, gr2⟩
        exact go _ _ ⟨x5, D, rows2, rfl, kd, by omega, gr2⟩
    case rest2 =>
    clear kc4 kc bt5 hb5 gr el rows x5 H4
    rintro _ H4 ⟨x5, c, rows, rfl, kc, el, gr⟩
    show tSeq (tIfS _ _ _) _ _ _ _
    -- if way == 2
    refine cutS (fun σ H' => ∃ x5 c rows, σ = [some (.ref b), some (.int m), some (.int n), some (.int k), some (.ref c), x5, none, some (.int wy), none] ∧ Cards H H' b g c rows ∧ rows.length = n ∧ GoodRows n rows) ?rest3 (fun go => ?way2)
    case way2 =>
      refine ⟨_, rfl, rfl, _, rfl, ite2 (fun e => ?_) (fun e => go _ _ ⟨x5, c, rows, rfl, kc, el, gr⟩)⟩
      refine ⟨_, rfl, n, rfl, by omega, by omega, fun D nD => ?_⟩
      refine lc_range (lo := 0) (n := (n : Int).toNat) (fun i H' => ∃ rows2, Cards H H' b g D rows2 ∧ rows2.length = i ∧ GoodRows n rows2) ⟨[], .nil kc.bt kc.bag nD, rfl, fun i r e => by simp at e⟩ ?_ ?_
      · rintro i H6 hi ⟨rows2, kd, rfl, gr2⟩
        have one : ∀ (l : Addr) (r : List Int), H6 l = none → GoodRow n rows2.length r → ∃ acc, upd H6 l (.lst (r.map V.int)) D = some (.lst acc) ∧ acc.length < sizeLine ∧
            ∃ rows3, Cards H (upd (upd H6 l (.lst (r.map V.int))) D (.lst (acc ++ [.ref l]))) b g D rows3 ∧ rows3.length = rows2.length + 1 ∧ GoodRows n rows3 := fun l r nl gr3 => by
          have sd := Side.new (o := .lst (r.map V.int)) kd nl
          obtain ⟨acc, ha, la, kp⟩ := sd.push upd_same
          exact ⟨acc, ha, by rw [la]; exact len_lt (by omega), _, kp, by rw [List.length_append]; rfl, gr2.snoc gr3⟩
        refine ⟨rfl, ?_⟩
        refine ⟨_, rfl, _, _, rfl, rfl, _, rfl, ite2 (fun e1 => ?_) (fun e1 => ?_)⟩
        · have n2 : (1 : Int) < n := of_decide_eq_true e1
          refine ⟨_, rfl, _, _, rfl, rfl, .inl ⟨_, rfl, _, rfl, _, _, rfl, rfl, by omega, len_le (by decide : 1 ≤ 1000), fun l nl => ?_⟩⟩
          refine one l [((0 : Int) + (rows2.length : Nat) + 1) % (n : Int)] nl ⟨List.pairwise_singleton _ _, fun w hw => ?_, fun h => ?_⟩
          · rw [List.mem_singleton.mp hw]
            exact ⟨Int.emod_nonneg _ (by omega), Int.emod_lt_of_pos _ (by omega)⟩
          · have z := List.mem_singleton.mp h
            rcases Nat.lt_or_ge (rows2.length + 1) n with y | y
            · rw [Int.emod_eq_of_lt (by omega) (by omega)] at z
              omega
            · have y2 : (0 : Int) + (rows2.length : Nat) + 1 = (n : Int) := by omega
              rw [y2, Int.emod_self] at z
              omega
        · exact ⟨len_le (by decide : 0 ≤ 1000), fun l nl => one l [] nl .nil⟩
      · rintro H6 ⟨rows2, kd, el2, gr2⟩
        exact go _ _ ⟨x5, D, rows2, rfl, kd, by omega, gr2⟩
    case rest3 =>
    clear kc gr el rows x5 H4 c
    rintro _ H4 ⟨x5, c, rows, rfl, kc, el, gr⟩
    show tSeq (tIfS _ _ _) _ _ _ _
    -- if way == 3
    refine cutS (fun σ H' => ∃ x5 c rows, σ = [some (.ref b), some (.int m), some (.int n), some (.int k), some (.ref c), x5, none, some (.int wy), none] ∧ Cards H H' b g c rows ∧ rows.length = n ∧ GoodRows n rows) ?rest4 (fun go => ?way3)
    case way3 =>
      refine ⟨_, rfl, rfl, _, rfl, ite2 (fun e => ?_) (fun e => go _ _ ⟨x5, c, rows, rfl, kc, el, gr⟩)⟩
      obtain ⟨qs, hqs, lqs⟩ := kc.list
      refine ⟨_, rfl, c, _, rfl, SqL.of hqs, fun D nD => ?_⟩
      refine lc_enumL (xs := qs.map V.ref) (fun i H' => ∃ rows2, Side H H' b g c rows D ∧ H' c = some (.lst (qs.map V.ref)) ∧ Cards H H' b g D rows2 ∧ rows2.length = i ∧ GoodRows n rows2) ⟨[], .new kc nD, same_new nD _ _ hqs, .nil kc.bt kc.bag nD, rfl, fun i r e => by simp at e⟩ (fun i H' z => SqL.of z.choose_spec.2.1) ?_ ?_
      · rintro i x T H6 hx ⟨rows2, sd, hc6, kd, rfl, gr2⟩ nT
        have hi : rows2.length < qs.length := by
          have := (List.getElem?_eq_some_iff.mp hx).1
          rw [List.length_map] at this
          exact this
        obtain ⟨r, hr'⟩ : ∃ r, rows[rows2.length]? = some r := ⟨_, List.getElem?_eq_getElem (by omega)⟩
        have sT := same_new (o := .tup [.int (rows2.length : Nat), x]) nT
        have sd7 := sd.same sT
        have kd7 := kd.same sT
        have hc7 := sT _ _ hc6
        refine ⟨T, _, rfl, SqT.of upd_same, rfl, _, _, rfl, _, _, rfl, rfl, rfl, ?_⟩
        generalize upd H6 T (.tup [.int (rows2.length : Nat), x]) = H7 at sd7 kd7 hc7 ⊢
        refine ⟨_, rfl, .inl ⟨_, rfl, _, _, rfl, rfl, (show (0 : Int) < 2 by decide), rfl, _, rfl, ite2 (fun e1 => ?_) (fun e1 => ?_)⟩⟩
        · obtain ⟨xs, q2, h1, _, h3, h4, h5, h6, h7, h8⟩ := sd7.k.row hr'
          obtain rfl := HO.lst.inj (Option.some.inj (h1.symm.trans hc7))
          obtain rfl := Option.some.inj (h3.symm.trans hx)
          have qD : q2 ≠ D := fun z => by
            have z2 := sd7.off qs hc7
            rw [List.getElem?_map] at h3
            obtain ⟨y, hy, e4⟩ := Option.map_eq_some_iff.mp h3
            have e5 : y = q2 := V.ref.inj e4
            rw [e5, z] at hy
            exact z2 (List.mem_of_getElem? hy)
          obtain ⟨acc, ha, la, kp⟩ := kd7.push h4 h5 h7 h8 qD
          exact ⟨_, rfl, acc, ha, by rw [la]; exact len_lt (by omega), _, sd7.set, by rw [upd_ne (Ne.symm sd7.pc)]; exact hc7, kp, by rw [List.length_append]; rfl, gr2.snoc (gr _ _ hr')⟩
        · refine ⟨len_le (by decide : 0 ≤ 1000), fun l nl => ?_⟩
          have sn := same_new (o := .lst []) nl
          obtain ⟨acc, ha, la, kp⟩ := (Side.new (o := .lst []) kd7 nl).push (r := []) upd_same
          exact ⟨acc, ha, by rw [la]; exact len_lt (by omega), _, (sd7.same sn).set, by rw [upd_ne (Ne.symm sd7.pc)]; exact sn _ _ hc7, kp, by rw [List.length_append]; rfl, gr2.snoc .nil⟩
      · rintro H6 ⟨rows2, sd, hc6, kd, el2, gr2⟩
        rw [List.length_map] at el2
        exact go _ _ ⟨x5, D, rows2, rfl, kd, by omega, gr2⟩
    case rest4 =>
    clear kc gr el rows x5 H4 c
    rintro _ H4 ⟨x5, c, rows, rfl, kc, el, gr⟩
    obtain ⟨qs, hqs, lqs⟩ := kc.list
    refine ⟨_, rfl, c, rfl, ⟨_, SqL.of hqs⟩, fun D nD => ?_⟩
    refine lc_list (xs := qs.map V.ref) (fun i H' => Side H H' b g c rows D ∧ H' c = some (.lst (qs.map V.ref)) ∧ ∃ as : List Addr, H' D = some (.lst (as.map V.ref)) ∧ as.length = i ∧ ∀ (j : Nat) (a : Addr) (r : List Int), as[j]? = some a → rows[j]? = some r → H' a = some (.tup (r.map V.int)))
      ⟨.new kc nD, same_new nD _ _ hqs, [], upd_same, rfl, fun j a r e => by simp at e⟩ (fun i H' _ z => SqL.of z.2.1) ?_ ?_
    · rintro i x H6 hx ⟨sd, hc6, as, hD, rfl, ht⟩
      have hi : as.length < qs.length := by
        have := (List.getElem?_eq_some_iff.mp hx).1
        rw [List.length_map] at this
        exact this
      obtain ⟨r, hr'⟩ : ∃ r, rows[as.length]? = some r := ⟨_, List.getElem?_eq_getElem (by omega)⟩
      obtain ⟨xs, q2, h1, _, h3, h4, h5, h6, h7, h8⟩ := sd.k.row hr'
      obtain rfl := HO.lst.inj (Option.some.inj (h1.symm.trans hc6))
      obtain rfl := Option.some.inj (h3.symm.trans hx)
      refine ⟨rfl, _, rfl, q2, _, rfl, .inl ⟨SqL.of h4, fun t nt => ?_⟩⟩
      have sn := same_new (o := .tup (r.map V.int)) nt
      refine ⟨_, sn _ _ hD, by rw [List.length_map]; exact len_lt (by omega), (sd.same sn).set, by rw [upd_ne (Ne.symm sd.pc)]; exact sn _ _ hc6, as ++ [t], by rw [upd_same, List.map_append]; rfl, by rw [List.length_append]; rfl, fun j a r' e1 e2 => ?_⟩
      have e3 : upd H6 t (.tup (r.map V.int)) a = some (.tup (r'.map V.int)) := by
        rcases get_snoc e1 with z | ⟨z1, z2⟩
        · exact sn _ _ (ht j a r' z e2)
        · rw [z1, hr'] at e2
          rw [z2, Option.some.inj e2.symm]
          exact upd_same
      rw [upd_ne (fun z => by rw [z, sn _ _ hD] at e3; cases e3)]
      exact e3
    · rintro H6 ⟨sd, hc6, as, hD, la, ht⟩
      rw [List.length_map] at la
      refine ⟨D, _, rfl, .inl ⟨SqL.of hD, fun t nt => ?_⟩⟩
      have sn := same_new (o := .tup (as.map V.ref)) nt
      refine q t rows _ (sd.k.bt.trans (.of sn)) (sd.k.bag.same sn) (sd.k.bt.none sd.k.bag nt) ⟨as, upd_same, by omega, fun i a r e1 e2 => sn _ _ (ht i a r e1 e2)⟩ ?_ (by omega)
      have at' : ∀ r ∈ rows, ∃ i, rows[i]? = some r := fun r hr => by
        obtain ⟨i, hi, e⟩ := List.getElem_of_mem hr
        exact ⟨i, by rw [← e]; exact List.getElem?_eq_getElem hi⟩
      refine ⟨by omega, by omega, fun r hr w hw => ?_, fun r hr => ?_, fun i r e => (gr i r e).2.2, fun r hr => ?_⟩
      · obtain ⟨i, e⟩ := at' r hr
        rw [el]
        exact (gr i r e).2.1 w hw
      · obtain ⟨i, e⟩ := at' r hr
        exact (gr i r e).1
      · obtain ⟨i, e⟩ := at' r hr
        exact Nat.le_trans (gr i r e).few n9
end
end Lw

set_option maxHeartbeats 4000000
/-! lists of classes: pieces and knots -/
namespace Hn
open PySem PySem.Spec PyProof.Rows L2 EF
open PySem.W (Frag keepIn)
theorem ext_sorted {α : Type} {r : α → α → Prop} (as : ∀ a b, r a b → r b a → a = b) : ∀ {l m : List α}, l.Nodup → m.Nodup → l.Pairwise r → m.Pairwise r → (∀ x, x ∈ l ↔ x ∈ m) → l = m
  | [], [], _, _, _, _, _ => rfl
  | [], y :: m, _, _, _, _, h => absurd ((h y).mpr List.mem_cons_self) List.not_mem_nil
  | x :: l, [], _, _, _, _, h => absurd ((h x).mp List.mem_cons_self) List.not_mem_nil
  | x :: l, y :: m, n1, n2, p1, p2, h => by
    have q1 := List.pairwise_cons.mp p1
    have q2 := List.pairwise_cons.mp p2
    have d1 := List.nodup_cons.mp n1
    have d2 := List.nodup_cons.mp n2
    have e : x = y := by
      rcases List.mem_cons.mp ((h x).mp List.mem_cons_self) with z | z
      · exact z
      · rcases List.mem_cons.mp ((h y).mpr List.mem_cons_self) with z2 | z2
        · exact z2.symm
        · exact as x y (q1.1 y z2) (q2.1 x z)
    subst e
    rw [ext_sorted as d1.2 d2.2 q1.2 q2.2 fun z => ?_]
    constructor
    · intro hz
      rcases List.mem_cons.mp ((h z).mp (List.mem_cons_of_mem _ hz)) with y | y
      · exact absurd (y ▸ hz) d1.1
      · exact y
    · intro hz
      rcases List.mem_cons.mp ((h z).mpr (List.mem_cons_of_mem _ hz)) with y | y
      · exact absurd (y ▸ hz) d2.1
      · exact y
theorem asc_nodup {l : List Int} (h : l.Pairwise (· < ·)) : l.Nodup := h.imp fun z => Int.ne_of_lt z
theorem asc_ext {l m : List Int} (h : l.Pairwise (· < ·)) (k : m.Pairwise (· < ·)) (e : ∀ x, x ∈ l ↔ x ∈ m) : l = m := ext_sorted (fun a b h1 h2 => by omega) (asc_nodup h) (asc_nodup k) h k e
/-- k is the class of u, ascending -/
def IsCls (R : Int → Int → Prop) (u : Int) (k : List Int) : Prop := k.Pairwise (· < ·) ∧ ∀ w, w ∈ k ↔ R u w
theorem IsCls.uniq {R : Int → Int → Prop} {u : Int} {k k' : List Int} (a : IsCls R u k) (b : IsCls R u k') : k = k' := asc_ext a.1 b.1 fun w => (a.2 w).trans (b.2 w).symm
theorem lst_antisymm (q r : List Int) (h : ¬ r < q) (k : ¬ q < r) : q = r := List.le_antisymm (List.not_lt.mp h) (List.not_lt.mp k)
/-- the list of all classes of the n people, in its order -/
structure ClassList (n : Nat) (R : Int → Int → Prop) (ks : List (List Int)) : Prop where
  srt : ks.Pairwise fun q r => ¬ r < q
  nd : ks.Nodup
  cls : ∀ k ∈ ks, ∃ u : Nat, u < n ∧ IsCls R u k
  all : ∀ u : Nat, u < n → ∃ k, k ∈ ks ∧ IsCls R u k
section
variable {n : Nat} {R R' : Int → Int → Prop} {ks ks' : List (List Int)}
theorem ClassList.ext (a : ClassList n R ks) (b : ClassList n R ks') : ks = ks' :=
  ext_sorted (r := fun q r => ¬ r < q) (fun q r h1 h2 => lst_antisymm q r h1 h2) a.nd b.nd a.srt b.srt fun k => ⟨fun h => by
    obtain ⟨u, hu, c⟩ := a.cls k h
    obtain ⟨k', h', c'⟩ := b.all u hu
    rw [c.uniq c']
    exact h', fun h => by
    obtain ⟨u, hu, c⟩ := b.cls k h
    obtain ⟨k', h', c'⟩ := a.all u hu
    rw [c.uniq c']
    exact h'⟩
theorem ClassList.congr (a : ClassList n R ks) (h : ∀ (u : Nat) (w : Int), u < n → (R u w ↔ R' u w)) : ClassList n R' ks :=
  ⟨a.srt, a.nd, fun k hk => by
    obtain ⟨u, hu, c⟩ := a.cls k hk
    exact ⟨u, hu, c.1, fun w => (c.2 w).trans (h u w hu)⟩, fun u hu => by
    obtain ⟨k, hk, c⟩ := a.all u hu
    exact ⟨k, hk, c.1, fun w => (c.2 w).trans (h u w hu)⟩⟩
end
theorem Reach.trans {rows : List (List Int)} {u v w : Int} (a : Reach rows u v) (b : Reach rows v w) : Reach rows u w := by
  induction b with
  | refl => exact a
  | step _ hw ih => exact .step ih hw
theorem Reach.head {rows : List (List Int)} {u v w : Int} (h : v ∈ rowAt rows u) (b : Reach rows v w) : Reach rows u w := (Reach.step .refl h).trans b
/-- they find one another -/
def Mutual (rows : List (List Int)) (u w : Int) : Prop := Reach rows u w ∧ Reach rows w u
/-- they hang together by cards, whichever way -/
inductive Joined (rows : List (List Int)) (u : Int) : Int → Prop
  | refl : Joined rows u u
  | fwd {v w : Int} : Joined rows u v → w ∈ rowAt rows v → Joined rows u w
  | bwd {v w : Int} : Joined rows u v → 0 ≤ w → w < (rows.length : Int) → v ∈ rowAt rows w → Joined rows u w
section
variable {rows : List (List Int)} {u v w : Int}
theorem Joined.range (h : InRange rows) (hu : 0 ≤ u ∧ u < (rows.length : Int)) (r : Joined rows u v) : 0 ≤ v ∧ v < (rows.length : Int) := by
  cases r with
  | refl => exact hu
  | fwd _ hw => exact row_range h hw
  | bwd _ h1 h2 _ => exact ⟨h1, h2⟩
theorem Joined.trans (a : Joined rows u v) (b : Joined rows v w) : Joined rows u w := by
  induction b with
  | refl => exact a
  | fwd _ hw ih => exact .fwd ih hw
  | bwd _ h1 h2 hw ih => exact .bwd ih h1 h2 hw
theorem Joined.symm (h : InRange rows) (hu : 0 ≤ u ∧ u < (rows.length : Int)) (r : Joined rows u v) : Joined rows v u := by
  induction r with
  | refl => exact .refl
  | fwd a hw ih =>
    have z := a.range h hu
    exact (Joined.bwd .refl z.1 z.2 hw).trans ih
  | bwd a h1 h2 hw ih => exact (Joined.fwd .refl hw).trans ih
theorem Reach.joined (a : Reach rows u v) : Joined rows u v := by
  induction a with
  | refl => exact .refl
  | step _ hw ih => exact .fwd ih hw
end
/-- the number of classes: each has a least one -/
theorem ClassList.heads {n : Nat} {R : Int → Int → Prop} {ks : List (List Int)} (a : ClassList n R ks) (sy : ∀ (u v : Nat), u < n → v < n → R u v → ∀ w, R u w ↔ R v w) (rf : ∀ u : Nat, u < n → R u u) (rg : ∀ (u : Nat) (w : Int), u < n → R u w → 0 ≤ w ∧ w < (n : Int))
    {p : Nat → Bool} (hp : ∀ u : Nat, u < n → (p u = true ↔ ∀ w : Nat, w < n → R u w → u ≤ w)) : ks.length = ((List.range n).filter p).length := by
  have hd : ∀ k ∈ ks, ∃ u : Nat, u < n ∧ IsCls R u k ∧ k.headD 0 = (u : Int) ∧ p u = true := fun k hk => by
    obtain ⟨v, hv, c⟩ := a.cls k hk
    cases k with
    | nil => exact absurd ((c.2 v).mpr (rf v hv)) List.not_mem_nil
    | cons x r =>
      have rx := (c.2 x).mp List.mem_cons_self
      have gx := rg v x hv rx
      obtain ⟨m, rfl⟩ : ∃ m : Nat, x = (m : Int) := ⟨x.toNat, by omega⟩
      have hm : m < n := by omega
      have e := sy v m hv hm rx
      refine ⟨m, hm, ⟨c.1, fun w => (c.2 w).trans (e w)⟩, rfl, (hp m hm).mpr fun w hw rw' => ?_⟩
      have mem := (c.2 w).mpr ((e w).mpr rw')
      rcases List.mem_cons.mp mem with z | z
      · omega
      · have := (List.pairwise_cons.mp c.1).1 w z
        omega
  have nd1 : (ks.map fun k => (k.headD 0).toNat).Nodup := by
    refine List.pairwise_map.mpr (a.nd.imp_of_mem fun {k k'} hk hk' ne e => ne ?_)
    obtain ⟨u, hu, c, h1, _⟩ := hd k hk
    obtain ⟨u', hu', c', h1', _⟩ := hd k' hk'
    rw [h1, h1'] at e
    have : u = u' := by omega
    subst this
    exact c.uniq c'
  have nd2 : ((List.range n).filter p).Nodup := List.Pairwise.filter _ List.nodup_range
  have pm : (ks.map fun k => (k.headD 0).toNat).Perm ((List.range n).filter p) := by
    refine (List.perm_ext_iff_of_nodup nd1 nd2).mpr fun u => ?_
    rw [List.mem_map, List.mem_filter, List.mem_range]
    constructor
    · rintro ⟨k, hk, rfl⟩
      obtain ⟨u, hu, c, h1, h2⟩ := hd k hk
      rw [h1]
      exact ⟨hu, h2⟩
    · rintro ⟨hu, pu⟩
      obtain ⟨k, hk, c⟩ := a.all u hu
      obtain ⟨u', hu', c', h1', h2'⟩ := hd k hk
      refine ⟨k, hk, ?_⟩
      have r1 : R u u' := (c.2 u').mp ((c'.2 u').mpr (rf u' hu'))
      have r2 : R u' u := (c'.2 u).mp ((c.2 u).mpr (rf u hu))
      have l1 := (hp u hu).mp pu u' hu' r1
      have l2 := (hp u' hu').mp h2' u hu r2
      rw [h1']
      show (u' : Int).toNat = u
      omega
  rw [← pm.length_eq, List.length_map]
end Hn

set_option maxHeartbeats 4000000
namespace Lw
open PySem PySem.Spec PyProof.Rows L2 EF Hn
open PySem.W (Frag keepIn)
theorem fnok_imp {P : Program} {w : World} {K : Frag} {mg : Str → Option Value} {base : Heap} {CX : CXT} {k : Nat} {f : Addr} {fd : FuncData} {ps : List Str} {sp sp' : Sp} (F : FnOk P w K mg base CX k f fd ps sp) (h : ∀ vs H Q E, sp' vs H Q E → sp vs H Q E) : FnOk P w K mg base CX k f fd ps sp' :=
  ⟨fun vs H Q E z => F.1 vs H Q E (h _ _ _ _ z), fun A outer s H args us vs Q E a b c d z => F.2 A outer s H args us vs Q E a b c d (h _ _ _ _ z)⟩
theorem keptX_imp {P : Program} {w : World} {K : Frag} {mg : Str → Option Value} {base : Heap} {k : Nat} {x : Str} {ps : List Str} {sp sp' : Sp} (G : KeptX P w K mg base k x ps sp) (h : ∀ vs H Q E, sp' vs H Q E → sp vs H Q E) : KeptX P w K mg base k x ps sp' := by
  obtain ⟨f, fd, a, b, c, d⟩ := G
  exact ⟨f, fd, a, b, c, fnok_imp d h⟩
theorem WebAt.same {H H' : Hp} {p : Addr} {rows : List (List Int)} (k : WebAt H p rows) (s : Same H H') : WebAt H' p rows := by
  obtain ⟨as, h1, h2, h3⟩ := k
  exact ⟨as, s _ _ h1, h2, fun i q r e1 e2 => s _ _ (h3 i q r e1 e2)⟩
theorem WebAt.but {b g : Addr} {H H' : Hp} {p : Addr} {rows : List (List Int)} (k : WebAt H p rows) (hb : BagAt H b g) (t : But b g H H') : WebAt H' p rows := by
  obtain ⟨as, h1, h2, h3⟩ := k
  exact ⟨as, t.keep hb h1 (fun _ z => by cases z), h2, fun i q r e1 e2 => t.keep hb (h3 i q r e1 e2) (fun _ z => by cases z)⟩
theorem WebAt.grid {K : Frag} {H : Hp} {p : Addr} {rows : List (List Int)} (k : WebAt H p rows) : Grid K true H p rows := by
  obtain ⟨as, h1, h2, h3⟩ := k
  exact ⟨as, SqT.of h1, h2, fun i q r e1 e2 => SqT.of (h3 i q r e1 e2)⟩
theorem Grid.dp {K : Frag} {H : Hp} {p : Addr} {rows : List (List Int)} (k : Grid K true H p rows) : Dp K H (.ref p) (gridD rows) := by
  obtain ⟨as, h1, h2, h3⟩ := k
  refine .tup h1 (dps_of (by rw [List.length_map, List.length_map]; exact h2) fun i x d e1 e2 => ?_)
  rw [List.getElem?_map] at e1 e2
  obtain ⟨q, hq, rfl⟩ := Option.map_eq_some_iff.mp e1
  obtain ⟨r, hr, rfl⟩ := Option.map_eq_some_iff.mp e2
  exact dp_tup (h3 i q r hq hr)
theorem repL_ints {N : Addr → Prop} {H : Hp} (r : List Int) : RepL N H (r.map PyData.int) (r.map V.int) := RepL.ofInts r
theorem WebAt.rep {N : Addr → Prop} {H : Hp} {p : Addr} {rows : List (List Int)} (k : WebAt H p rows) : Rep N H (gridD rows) (.ref p) := by
  obtain ⟨as, h1, h2, h3⟩ := k
  refine ⟨p, _, rfl, h1, RepL.of (by rw [List.length_map, List.length_map]; exact h2) fun i d x e1 e2 => ?_⟩
  rw [List.getElem?_map] at e1 e2
  obtain ⟨q, hq, rfl⟩ := Option.map_eq_some_iff.mp e2
  obtain ⟨r, hr, rfl⟩ := Option.map_eq_some_iff.mp e1
  exact ⟨q, _, rfl, h3 i q r hq hr, RepL.ofInts r⟩
theorem asc_of {r : List Int} (h : r.Pairwise (· < ·)) : asc r = true := by
  induction r with
  | nil => rfl
  | cons x r ih =>
    cases r with
    | nil => rfl
    | cons y r =>
      have q := List.pairwise_cons.mp h
      show (decide (x < y) && asc (y :: r)) = true
      rw [ih q.2, decide_eq_true (q.1 y List.mem_cons_self)]
      rfl
theorem cards_row (r : List Int) : cardsOf (rowD r) = r := by
  show (r.map PyData.int).map intOf = r
  rw [List.map_map]
  exact List.map_id _
theorem rows_grid (rows : List (List Int)) : webRows (gridD rows) = rows := by
  show (rows.map rowD).map cardsOf = rows
  rw [List.map_map]
  exact (List.map_congr_left fun r _ => cards_row r).trans (List.map_id _)
theorem WebRows.web {rows : List (List Int)} (h : WebRows rows) : webB (gridD rows) = true := by
  have pk : ∀ (ps : List (List Int)) (u : Nat), (∀ (i : Nat) (r : List Int), ps[i]? = some r → r.Pairwise (· < ·) ∧ (∀ w ∈ r, 0 ≤ w ∧ w < (rows.length : Int)) ∧ ((u + i : Nat) : Int) ∉ r) → pocketsB (rows.length : Int) u (ps.map rowD) = true := by
    intro ps
    induction ps with
    | nil => intro u _; rfl
    | cons r ps ih =>
      intro u hp
      obtain ⟨h1, h2, h3⟩ := hp 0 r rfl
      have z := ih (u + 1) fun i r' e => by
        have y := hp (i + 1) r' e
        rw [show u + (i + 1) = u + 1 + i by omega] at y
        exact y
      show (pocketB (u : Int) (rows.length : Int) (rowD r) && _) = true
      rw [z, Bool.and_true]
      show ((r.map PyData.int).all (fun d => perB (rows.length : Int) d && !decide (intOf d = (u : Int))) && asc ((r.map PyData.int).map intOf)) = true
      rw [Bool.and_eq_true]
      refine ⟨List.all_eq_true.mpr fun d hd => ?_, ?_⟩
      · obtain ⟨w, hw, rfl⟩ := List.mem_map.mp hd
        have g := h2 w hw
        show ((decide (0 ≤ w) && decide (w < (rows.length : Int))) && !decide (w = (u : Int))) = true
        rw [decide_eq_true g.1, decide_eq_true g.2, decide_eq_false (fun e => h3 (by rw [Nat.add_zero, ← e]; exact hw))]
        rfl
      · have e := cards_row r
        show asc (cardsOf (rowD r)) = true
        rw [e]
        exact asc_of h1
  show ((decide (1 ≤ (rows.map rowD).length) && decide ((rows.map rowD).length ≤ 9)) && pocketsB (((rows.map rowD).length : Nat) : Int) 0 (rows.map rowD)) = true
  rw [List.length_map, decide_eq_true h.one, decide_eq_true h.nine, pk rows 0 fun i r e => ⟨h.up r (List.mem_of_getElem? e), h.rng r (List.mem_of_getElem? e), by rw [Nat.zero_add]; exact h.own i r e⟩]
  rfl
theorem WebRows.fit {rows : List (List Int)} (h : WebRows rows) : fit (gridD rows) := by
  refine ⟨by rw [List.length_map]; exact Nat.le_trans h.nine (by decide), fun p hp => ?_⟩
  obtain ⟨r, hr, rfl⟩ := List.mem_map.mp hp
  show (r.map PyData.int).length ≤ 1000
  rw [List.length_map]
  exact Nat.le_trans (h.few r hr) (by decide)
/-- knots of what all find: the classes of those who find one another -/
theorem knots_cls {rows fs ks : List (List Int)} (hin : InRange rows) (ff : Finds rows fs) (kk : KnotsOf fs ks) : ClassList rows.length (Mutual rows) ks := by
  have rowf : ∀ i : Nat, i < rows.length → fs[i]? = some (rowAt fs (i : Nat)) := fun i hi => by
    unfold rowAt
    rw [List.getD_eq_getElem?_getD, Int.toNat_natCast, List.getElem?_eq_getElem (by rw [ff.1]; exact hi)]
    rfl
  have cl : ∀ u : Nat, u < rows.length → IsCls (Mutual rows) u (knot fs u) := fun u hu => by
    have z := ff.2 u _ (rowf u hu)
    refine ⟨List.Pairwise.filter _ z.1, fun w => ?_⟩
    unfold knot
    rw [List.mem_filter, z.2.1 w, decide_eq_true_iff]
    constructor
    · rintro ⟨h1, h2⟩
      have g := h1.range hin ⟨by omega, by omega⟩
      obtain ⟨m, rfl⟩ : ∃ m : Nat, w = (m : Int) := ⟨w.toNat, by omega⟩
      exact ⟨h1, ((ff.2 m _ (rowf m (by omega))).2.1 u).mp h2⟩
    · rintro ⟨h1, h2⟩
      have g := h1.range hin ⟨by omega, by omega⟩
      obtain ⟨m, rfl⟩ : ∃ m : Nat, w = (m : Int) := ⟨w.toNat, by omega⟩
      exact ⟨h1, ((ff.2 m _ (rowf m (by omega))).2.1 u).mpr h2⟩
  refine ⟨kk.1, kk.2.1, fun k hk => ?_, fun u hu => ⟨_, (kk.2.2 _).mpr ⟨u, by rw [ff.1]; exact hu, rfl⟩, cl u hu⟩⟩
  obtain ⟨u, hu, rfl⟩ := (kk.2.2 k).mp hk
  exact ⟨u, by rw [ff.1] at hu; exact hu, cl u (by rw [ff.1] at hu; exact hu)⟩
/-- with each card turned about, too, finding is hanging together -/
theorem both_range {rows lk : List (List Int)} (hin : InRange rows) (bo : Both rows lk) : InRange lk := fun r hr w hw => by
  obtain ⟨i, hi, e⟩ := List.getElem_of_mem hr
  have e1 : rowAt lk (i : Nat) = r := by
    unfold rowAt
    rw [List.getD_eq_getElem?_getD, Int.toNat_natCast, List.getElem?_eq_getElem hi, e]
    rfl
  rw [bo.1]
  rw [← e1] at hw
  rcases (bo.2 i w).mp hw with z | ⟨u, hu, rfl, _⟩
  · exact row_range hin z
  · exact ⟨by omega, by omega⟩
theorem both_reach {rows lk : List (List Int)} (hin : InRange rows) (bo : Both rows lk) {u : Int} (hu : 0 ≤ u ∧ u < (rows.length : Int)) (w : Int) : Reach lk u w ↔ Joined rows u w := by
  have hu2 : 0 ≤ u ∧ u < (lk.length : Int) := by rw [bo.1]; exact hu
  have hin2 := both_range hin bo
  constructor
  · intro r
    induction r with
    | refl => exact .refl
    | @step v w a hw ih =>
      have g := a.range hin2 hu2
      obtain ⟨m, rfl⟩ : ∃ m : Nat, v = (m : Int) := ⟨v.toNat, by omega⟩
      rcases (bo.2 m w).mp hw with z | ⟨x, hx, rfl, z⟩
      · exact .fwd ih z
      · exact .bwd ih (by omega) (by omega) z
  · intro r
    induction r with
    | refl => exact .refl
    | @fwd v w a hw ih =>
      have g := a.range hin hu
      obtain ⟨m, rfl⟩ : ∃ m : Nat, v = (m : Int) := ⟨v.toNat, by omega⟩
      exact .step ih ((bo.2 m w).mpr (.inl hw))
    | @bwd v w a h1 h2 hw ih =>
      have g := a.range hin hu
      obtain ⟨m, rfl⟩ : ∃ m : Nat, v = (m : Int) := ⟨v.toNat, by omega⟩
      obtain ⟨x, rfl⟩ : ∃ x : Nat, w = (x : Int) := ⟨w.toNat, by omega⟩
      exact .step ih ((bo.2 m x).mpr (.inr ⟨x, by omega, rfl, hw⟩))
theorem pieces_cls {rows lk fs ks : List (List Int)} (hin : InRange rows) (bo : Both rows lk) (ff : Finds lk fs) (kk : KnotsOf fs ks) : ClassList rows.length (Joined rows) ks := by
  have z := knots_cls (both_range hin bo) ff kk
  rw [bo.1] at z
  refine z.congr fun u w hu => ?_
  have hu2 : 0 ≤ (u : Int) ∧ (u : Int) < (rows.length : Int) := ⟨by omega, by omega⟩
  constructor
  · exact fun h => (both_reach hin bo hu2 w).mp h.1
  · intro h
    have g := h.range hin hu2
    exact ⟨(both_reach hin bo hu2 w).mpr h, (both_reach hin bo g u).mpr (h.symm hin hu2)⟩
/-- told of a web by its rows -/
def spRows (K : Frag) (T : List (List Int) → List (List Int) → Prop) : Sp := fun vs H Q _ => ∃ (p : Addr) (rows : List (List Int)), vs = [.ref p] ∧ WebAt H p rows ∧ WebRows rows ∧ ∀ (q : Addr) (fs : List (List Int)) (H' : Hp), Same H H' → H q = none → Grid K true H' q fs → T rows fs → Q (.ref q) H'
def isPieces (rows ks : List (List Int)) : Prop := ClassList rows.length (Joined rows) ks
def isKnots (rows ks : List (List Int)) : Prop := ClassList rows.length (Mutual rows) ks
section
variable {P : Program} {w : World} {K : Frag} {mg : Str → Option Value} {base : Heap} {C : Addr}
theorem finds_R (G : KeptX P w K mg base 7 "finds" ["web"] (spAsk C (tellFinds K))) : KeptX P w K mg base 7 "finds" ["web"] (spRows K Finds) := keptX_imp G fun vs H Q E ⟨p, rows, e, wa, wr, q⟩ =>
  ⟨fun _ => True, gridD rows, .ref p, e, wa.rep, wr.fit, fun _ y H' s ⟨p', fs, ey, n, g, ff⟩ => by
    rw [ey]
    rw [rows_grid] at ff
    exact q p' fs H' s n g ff, fun z => by
    rw [wr.web] at z
    cases z⟩
theorem pieces_R (G : KeptX P w K mg base 7 "pieces" ["web"] (spAsk C (tellPieces K))) : KeptX P w K mg base 7 "pieces" ["web"] (spRows K isPieces) := keptX_imp G fun vs H Q E ⟨p, rows, e, wa, wr, q⟩ =>
  ⟨fun _ => True, gridD rows, .ref p, e, wa.rep, wr.fit, fun _ y H' s ⟨p', lk, fs, ks, ey, n, g, bo, ff, kk⟩ => by
    rw [ey]
    rw [rows_grid] at bo
    exact q p' ks H' s n g (pieces_cls wr.rng bo ff kk), fun z => by
    rw [wr.web] at z
    cases z⟩
theorem knots_R (G : KeptX P w K mg base 7 "knots" ["web"] (spAsk C (tellKnots K))) : KeptX P w K mg base 7 "knots" ["web"] (spRows K isKnots) := keptX_imp G fun vs H Q E ⟨p, rows, e, wa, wr, q⟩ =>
  ⟨fun _ => True, gridD rows, .ref p, e, wa.rep, wr.fit, fun _ y H' s ⟨p', fs, ks, ey, n, g, ff, kk⟩ => by
    rw [ey]
    rw [rows_grid] at ff
    exact q p' ks H' s n g (knots_cls wr.rng ff kk), fun z => by
    rw [wr.web] at z
    cases z⟩
end
end Lw

set_option maxHeartbeats 4000000
/-! finding by going on, turn by turn -/
namespace Hn
open PySem PySem.Spec PyProof.Rows L2 EF
open PySem.W (Frag keepIn)
def Closed (rows : List (List Int)) (ks : List Int) : Prop := ∀ k ∈ ks, ∀ w ∈ rowAt rows k, w ∈ ks
/-- what is known of u's row behind t turns -/
structure Gr (rows : List (List Int)) (u : Int) (t : Nat) (ks : List Int) : Prop where
  nd : ks.Nodup
  me : u ∈ ks
  re : ∀ k ∈ ks, Reach rows u k
  gr : Closed rows ks ∨ t + 1 ≤ ks.length
/-- within a turn: S was there ahead of it; the cards that Pe tells have been followed -/
structure Gm (rows : List (List Int)) (u : Int) (S : List Int) (Pe : Int → Int → Prop) (ks : List Int) : Prop where
  nd : ks.Nodup
  sub : ∀ k ∈ S, k ∈ ks
  re : ∀ k ∈ ks, Reach rows u k
  ed : ∀ k w, Pe k w → w ∈ ks
  cl : Closed rows S → ks = S
section
variable {rows : List (List Int)} {u : Int} {S ks : List Int} {t : Nat} {Pe Pe' : Int → Int → Prop}
theorem Gr.start : Gr rows u 0 [u] := ⟨List.nodup_cons.mpr ⟨List.not_mem_nil, List.nodup_nil⟩, List.mem_singleton.mpr rfl, fun k h => by rw [List.mem_singleton.mp h]; exact .refl, .inr (Nat.le_refl _)⟩
theorem Gr.mid (g : Gr rows u t S) : Gm rows u S (fun _ _ => False) S := ⟨g.nd, fun _ h => h, g.re, fun _ _ h => h.elim, fun _ => rfl⟩
theorem Gm.skip (g : Gm rows u S Pe ks) {w : Int} (h : w ∈ ks) (hp : ∀ k x, Pe' k x → Pe k x ∨ x = w) : Gm rows u S Pe' ks :=
  ⟨g.nd, g.sub, g.re, fun k x p => by
    rcases hp k x p with z | z
    · exact g.ed k x z
    · rw [z]
      exact h, g.cl⟩
theorem Gm.add (g : Gm rows u S Pe ks) {v w : Int} (hv : v ∈ S) (hw : w ∈ rowAt rows v) (n : w ∉ ks) (hp : ∀ k x, Pe' k x → Pe k x ∨ x = w) : Gm rows u S Pe' (ks ++ [w]) := by
  refine ⟨List.nodup_append.mpr ⟨g.nd, List.nodup_cons.mpr ⟨List.not_mem_nil, List.nodup_nil⟩, fun x hx y hy e => ?_⟩, fun k h => List.mem_append_left _ (g.sub k h), fun k h => ?_, fun k x p => ?_, fun c => ?_⟩
  · rw [List.mem_singleton.mp hy] at e
    exact n (e ▸ hx)
  · rcases List.mem_append.mp h with z | z
    · exact g.re k z
    · rw [List.mem_singleton.mp z]
      exact .step (g.re v (g.sub v hv)) hw
  · rcases hp k x p with z | z
    · exact List.mem_append_left _ (g.ed k x z)
    · rw [z]
      exact List.mem_append_right _ (List.mem_singleton.mpr rfl)
  · exact absurd (g.sub w (c v hv w hw)) n
theorem Gm.done (g : Gm rows u S Pe ks) (h : Gr rows u t S) (hp : ∀ k ∈ S, ∀ w ∈ rowAt rows k, Pe k w) : Gr rows u (t + 1) ks := by
  refine ⟨g.nd, g.sub u h.me, g.re, ?_⟩
  by_cases c : Closed rows S
  · rw [g.cl c]
    exact .inl c
  · right
    have z : ∃ k ∈ S, ∃ w ∈ rowAt rows k, w ∉ S := Classical.byContradiction fun n => c fun k hk w hw => Classical.byContradiction fun m => n ⟨k, hk, w, hw, m⟩
    obtain ⟨k, hk, w, hw, m⟩ := z
    have l1 : t + 1 ≤ S.length := by
      rcases h.gr with y | y
      · exact absurd y c
      · exact y
    have nd2 : (w :: S).Nodup := List.nodup_cons.mpr ⟨m, h.nd⟩
    have sub2 : (w :: S) ⊆ ks := fun x hx => by
      rcases List.mem_cons.mp hx with y | y
      · rw [y]
        exact g.ed k w (hp k hk w hw)
      · exact g.sub x y
    have l2 := List.Nodup.length_le_of_subset nd2 sub2
    rw [List.length_cons] at l2
    omega
theorem Gr.few (g : Gr rows u t ks) (h : InRange rows) (hu : 0 ≤ u ∧ u < (rows.length : Int)) : ks.length ≤ rows.length := few_below g.nd fun k hk => (g.re k hk).range h hu
theorem Gm.few (g : Gm rows u S Pe ks) (h : InRange rows) (hu : 0 ≤ u ∧ u < (rows.length : Int)) : ks.length ≤ rows.length := few_below g.nd fun k hk => (g.re k hk).range h hu
theorem Gr.all (g : Gr rows u rows.length ks) (h : InRange rows) (hu : 0 ≤ u ∧ u < (rows.length : Int)) (k : Int) : k ∈ ks ↔ Reach rows u k := by
  have c : Closed rows ks := by
    rcases g.gr with y | y
    · exact y
    · have := g.few h hu
      omega
  refine ⟨g.re k, fun r => ?_⟩
  induction r with
  | refl => exact g.me
  | step _ hw ih => exact c _ ih _ hw
end
/-- a dict of these keys, each True -/
def encS (ks : List Int) : List (Key × V) := ks.map fun k => (Sum.inl k, V.bl true)
theorem encS_val (k : Int) : ∀ ks : List Int, valV (encS ks) (Sum.inl k) = if k ∈ ks then some (V.bl true) else none
  | [] => (if_neg List.not_mem_nil).symm
  | x :: ks => by
    have ih := encS_val k ks
    by_cases e : x = k
    · rw [if_pos (by rw [e]; exact List.mem_cons_self)]
      exact valV_pos (p := ((Sum.inl x : Key), V.bl true)) (by rw [e])
    · have e2 : valV (encS (x :: ks)) (Sum.inl k) = valV (encS ks) (Sum.inl k) := valV_neg (p := ((Sum.inl x : Key), V.bl true)) (fun z => e (Sum.inl.inj z))
      rw [e2, ih]
      by_cases m : k ∈ ks
      · rw [if_pos m, if_pos (List.mem_cons_of_mem _ m)]
      · rw [if_neg m, if_neg fun z => by
          rcases List.mem_cons.mp z with y | y
          · exact e y.symm
          · exact m y]
theorem encS_old {ks : List Int} {w : Int} (h : w ∈ ks) : putK (encS ks) (Sum.inl w) (V.bl true) = encS ks := by
  unfold putK
  rw [valV_any, encS_val, if_pos h]
  show (if true = true then _ else _) = _
  rw [if_pos rfl]
  refine (List.map_congr_left fun kv hkv => ?_).trans (List.map_id _)
  obtain ⟨k, _, rfl⟩ := List.mem_map.mp hkv
  show (if (Sum.inl k : Key) = Sum.inl w then _ else _) = _
  split
  · rfl
  · rfl
theorem encS_new {ks : List Int} {w : Int} (h : w ∉ ks) : putK (encS ks) (Sum.inl w) (V.bl true) = encS (ks ++ [w]) := by
  rw [putK_new (V.bl true) (by rw [encS_val, if_neg h])]
  unfold encS
  rw [List.map_append]
  rfl
/-- R is a new list of new dicts of these keys -/
structure Nets (H0 H : Hp) (R : Addr) (ds : List Addr) (kss : List (List Int)) : Prop where
  sm : Same H0 H
  nR : H0 R = none
  hR : H R = some (.lst (ds.map V.ref))
  len : ds.length = kss.length
  nd : ds.Nodup
  new : ∀ d ∈ ds, H0 d = none
  it : ∀ (i : Nat) (d : Addr) (ks : List Int), ds[i]? = some d → kss[i]? = some ks → H d = some (.dK (encS ks))
section
variable {H0 H H' : Hp} {R : Addr} {ds : List Addr} {kss : List (List Int)}
theorem Nets.same (k : Nets H0 H R ds kss) (s : Same H H') : Nets H0 H' R ds kss := ⟨k.sm.trans s, k.nR, s _ _ k.hR, k.len, k.nd, k.new, fun i d ks e1 e2 => s _ _ (k.it i d ks e1 e2)⟩
theorem Nets.put (k : Nets H0 H R ds kss) {i : Nat} {d : Addr} (hd : ds[i]? = some d) (ks' : List Int) : Nets H0 (upd H d (.dK (encS ks'))) R ds (kss.set i ks') := by
  have hi := (List.getElem?_eq_some_iff.mp hd).1
  have hk : kss[i]? = some (kss[i]'(by have := k.len; omega)) := List.getElem?_eq_getElem (by have := k.len; omega)
  have nRd : R ≠ d := fun z => by
    have h := k.it i d _ hd hk
    rw [← z, k.hR] at h
    cases h
  refine ⟨same_mut k.sm (k.new d (List.mem_of_getElem? hd)), k.nR, by rw [upd_ne nRd]; exact k.hR, by rw [List.length_set]; exact k.len, k.nd, k.new, fun j d' ks e1 e2 => ?_⟩
  rw [List.getElem?_set] at e2
  split at e2
  · rename_i e
    subst e
    obtain rfl := Option.some.inj (hd.symm.trans e1)
    split at e2
    · rw [← Option.some.inj e2]
      exact upd_same
    · cases e2
  · rename_i e
    have ne : d' ≠ d := fun z => by
      subst z
      obtain ⟨h1, z1⟩ := List.getElem?_eq_some_iff.mp hd
      obtain ⟨h2, z2⟩ := List.getElem?_eq_some_iff.mp e1
      rcases Nat.lt_trichotomy i j with y | y | y
      · exact List.pairwise_iff_getElem.mp k.nd i j h1 h2 y (z1.trans z2.symm)
      · exact e y
      · exact List.pairwise_iff_getElem.mp k.nd j i h2 h1 y (z2.trans z1.symm)
    rw [upd_ne ne]
    exact k.it j d' ks e1 e2
end
end Hn

set_option maxHeartbeats 4000000
namespace Lw
open PySem PySem.Spec PyProof.Rows L2 EF Hn
open PySem.W (Frag keepIn)
abbrev s_law_found : Stmt := top 29
abbrev N_law_found : List Str := ["web", "rows", "person", "turn", "other", "third", "row"]
theorem sc_law_found : FnScope N_law_found ["web"] (defScope s_law_found) := ⟨rfl, rfl, rfl, by decide +kernel, rfl, by decide +kernel, by decide +kernel⟩
def spFoundL (K : Frag) : Sp := fun vs H Q _ => ∃ (p : Addr) (rows : List (List Int)), vs = [.ref p] ∧ Grid K true H p rows ∧ rows.length ≤ 9 ∧ InRange rows ∧
  ∀ (q : Addr) (fs : List (List Int)) (H' : Hp), Same H H' → H q = none → WebAt H' q fs → Finds rows fs → Q (.ref q) H'
theorem WebAt.snoc {H : Hp} {D : Addr} {as : List Addr} {fs : List (List Int)} {t : Addr} {r : List Int} {acc : List V} (hD : H D = some (.lst acc))
    (h : ∀ (i : Nat) (q : Addr) (r : List Int), as[i]? = some q → fs[i]? = some r → H q = some (.tup (r.map V.int))) (l : as.length = fs.length) (ht : H t = some (.tup (r.map V.int))) {o : HO} :
    ∀ (i : Nat) (q : Addr) (r' : List Int), (as ++ [t])[i]? = some q → (fs ++ [r])[i]? = some r' → upd H D o q = some (.tup (r'.map V.int)) := fun i q r' e1 e2 => by
  have e3 : H q = some (.tup (r'.map V.int)) := by
    rcases get_snoc e1 with z | ⟨z1, z2⟩
    · rcases get_snoc e2 with y | ⟨y1, _⟩
      · exact h i q r' z y
      · have := (List.getElem?_eq_some_iff.mp z).1
        omega
    · rcases get_snoc e2 with y | ⟨_, y2⟩
      · have := (List.getElem?_eq_some_iff.mp y).1
        omega
      · rw [z2, y2]
        exact ht
  rw [upd_ne (fun z => by rw [z, hD] at e3; cases e3)]
  exact e3
section
variable {P : Program} {w : World} {K : Frag} {mg : Str → Option Value} {base : Heap} {C : Addr}
theorem k_found (B : Bl mg) (D : Dfn K mg "_law_found" s_law_found ["web"]) : Kept P w K mg base 1 "_law_found" ["web"] (spFoundL K) := by
  refine D.keptC (N := N_law_found) sc_law_found (fun vs H Q E h => ?_) (fun f cdv A outer s H vs Q E hcd hr h => ?_)
  · obtain ⟨p, rows, rfl, _⟩ := h
    rfl
  obtain ⟨p, rows, rfl, gr, h9, hin, q⟩ := h
  refine ⟨_, (pss_cons (ps_setLc (i := 1) (own := [("person", 2)]) (g := gName 2) (by rfl) sc_law_found.nd rfl rfl (sw_true rfl rfl rfl (by decide +kernel)) (pi_range1 (by rfl) B.b_range (pa_cons (pe_callB call_len_seq (by rfl) B.b_len PySem.boot_len (pa_cons (pv 0) pa_nil)) pa_nil)) (blkOk_by (own := [("person", 2)]) (N := N_law_found) (sc := defScope s_law_found) (by decide +kernel)) (fun _ _ _ _ _ => (pg_name (i := 2) sc_law_found.nd rfl (Or.inl rfl))) (fun _ _ _ _ _ => pts_nil) (fun _ _ _ _ _ => (pe_disp (pps_cons (pv 2) pe_bl pps_nil) (by rfl) (by rfl) (fun z => by cases z) (by decide))))
      (pss_cons (ps_for PassesOwn.never rfl (pi_range1 (by rfl) B.b_range (pa_cons (pe_callB call_len_seq (by rfl) B.b_len PySem.boot_len (pa_cons (pv 0) pa_nil)) pa_nil)) (pg_name (i := 3) sc_law_found.nd rfl (Or.inl rfl)) (pss_one (ps_for PassesOwn.never rfl (pi_range1 (by rfl) B.b_range (pa_cons (pe_callB call_len_seq (by rfl) B.b_len PySem.boot_len (pa_cons (pv 0) pa_nil)) pa_nil)) (pg_name (i := 2) sc_law_found.nd rfl (Or.inl rfl)) (pss_one (ps_for PassesOwn.never rfl (pi_list (pe_callTy (call_listD rfl) (by rfl) B.b_list (by decide +kernel) (pa_cons (pe_ix ix_list (pv 1) (pv 2) (fun _ _ => rfl)) pa_nil))) (pg_name (i := 4) sc_law_found.nd rfl (Or.inl rfl)) (pss_one (ps_for PassesOwn.never rfl (pi_tup (pe_ix ix_tup (pv 0) (pv 4) (fun _ _ => rfl))) (pg_name (i := 5) sc_law_found.nd rfl (Or.inl rfl)) (pss_one (ps_dput (hu_of hr) (pe_ix ix_list (pv 1) (pv 2) (fun _ _ => rfl)) (pv 5) pe_bl rfl)))))))))
      (pss_one (ps_ret (pe_callTy call_tuple_of (by rfl) B.b_tuple (by decide +kernel) (pa_cons (pe_lc (own := [("row", 6)]) (g := gName 6) (by rfl) sc_law_found.nd (pi_list (pv 1)) (blkOk_by (own := [("row", 6)]) (N := N_law_found) (sc := defScope s_law_found) (by decide +kernel)) (fun _ _ _ _ _ => (pg_name (i := 6) sc_law_found.nd rfl (Or.inl rfl))) (fun _ _ _ _ _ => pts_nil) (fun _ _ _ _ _ => (pe_callTy (tupleK (K := K) rfl) (by rfl) B.b_tuple (by decide +kernel) (pa_cons (pe_callB (call_sortedDI rfl) (by rfl) B.b_sorted (by decide +kernel) (pa_cons (pv 6) pa_nil)) pa_nil)))) pa_nil)))))), ?_⟩
  have gr0 := gr
  obtain ⟨as, g1, g2, g3⟩ := gr0
  have hl : (as.map V.ref).length = rows.length := by rw [List.length_map, g2]
  have g1T : SqT K H p (as.map V.ref) := g1
  -- rows = [{person: True} ..]
  refine ⟨_, rfl, p, _, rfl, .inr g1T, _, rfl, by omega, by omega, fun R nR => ?_⟩
  refine lc_range (lo := 0) (n := (((as.map V.ref).length : Nat) : Int).toNat) (fun i H' => ∃ ds, Nets H H' R ds ((List.range i).map fun (k : Nat) => [(k : Int)])) ⟨[], same_new nR, nR, upd_same, rfl, List.nodup_nil, fun d h => absurd h List.not_mem_nil, fun i d ks e => by simp at e⟩ ?_ ?_
  · rintro i H' hi ⟨ds, k⟩
    have hlen := k.len
    rw [List.length_map, List.length_range] at hlen
    refine ⟨rfl, ?_⟩
    intro d nd
    have nRd : R ≠ d := lst_ne k.hR nd
    refine ⟨_, rfl, upd_same, [(Sum.inl ((0 : Int) + (i : Nat)), V.bl true)], rfl, (by decide : 1 ≤ 15), ?_⟩
    have hm : mergeK [] [((Sum.inl ((0 : Int) + (i : Nat)) : Key), V.bl true)] = encS [(i : Int)] := by
      rw [Int.zero_add]
      rfl
    rw [hm, upd_upd]
    have sn := same_new (o := .dK (encS [(i : Int)])) nd
    have k2 := k.same sn
    refine ⟨_, k2.hR, by rw [List.length_map]; exact len_lt (by omega), ds ++ [d], ?_⟩
    rw [List.range_succ, List.map_append]
    refine ⟨same_mut k2.sm k.nR, k.nR, by rw [upd_same, List.map_append]; rfl, by rw [List.length_append, List.length_append, k.len]; rfl, ?_, fun d' h => ?_, fun j d' ks e1 e2 => ?_⟩
    · refine List.nodup_append.mpr ⟨k.nd, List.nodup_cons.mpr ⟨List.not_mem_nil, List.nodup_nil⟩, fun x hx y hy e => ?_⟩
      rw [List.mem_singleton.mp hy] at e
      obtain ⟨j, hj, e2⟩ := List.getElem_of_mem hx
      have e3 := k.it j x _ (by rw [← e2]; exact List.getElem?_eq_getElem hj) (List.getElem?_eq_getElem (by rw [← k.len]; exact hj))
      rw [e, nd] at e3
      cases e3
    · rcases List.mem_append.mp h with z | z
      · exact k.new d' z
      · rw [List.mem_singleton.mp z]
        exact none_of k.sm nd
    · have e3 : upd H' d (.dK (encS [(i : Int)])) d' = some (.dK (encS ks)) := by
        rcases get_snoc e1 with z | ⟨z1, z2⟩
        · rcases get_snoc e2 with y | ⟨y1, _⟩
          · exact k2.it j d' ks z y
          · have := (List.getElem?_eq_some_iff.mp z).1
            have := k.len
            omega
        · rcases get_snoc e2 with y | ⟨_, y2⟩
          · have := (List.getElem?_eq_some_iff.mp y).1
            have := k.len
            omega
          · rw [z2, y2]
            exact upd_same
      rw [upd_ne (fun z => by rw [z, k2.hR] at e3; cases e3)]
      exact e3
  · rintro H1 ⟨ds, k1⟩
    have n1 : (((as.map V.ref).length : Nat) : Int).toNat = rows.length := by omega
    rw [n1] at k1
    -- for turn in range(len(web))
    refine ⟨_, rfl, p, _, rfl, .inr (k1.sm.seqT g1T), _, rfl, by omega, by omega, ?_⟩
    refine for_range (lo := 0) (n := (((as.map V.ref).length : Nat) : Int).toNat) (fun t σ H' => ∃ kss x2 x3 x4 x5, σ = [some (.ref p), some (.ref R), x2, x3, x4, x5, none] ∧ Nets H H' R ds kss ∧ kss.length = rows.length ∧ ∀ (i : Nat) (ks : List Int), kss[i]? = some ks → Gr rows i t ks)
      ⟨_, none, none, none, none, rfl, k1, by rw [List.length_map, List.length_range], fun i ks e => ?_⟩ ?_ ?_
    · rw [List.getElem?_map] at e
      obtain ⟨j, hj, rfl⟩ := Option.map_eq_some_iff.mp e
      obtain ⟨h1, h2⟩ := List.getElem?_eq_some_iff.mp hj
      rw [List.getElem_range] at h2
      rw [h2]
      exact .start
    · rintro t σ H2 ht ⟨kss, x2, x3, x4, x5, rfl, k2, lk, gs⟩
      refine ⟨_, rfl, p, _, rfl, .inr (k2.sm.seqT g1T), _, rfl, by omega, by omega, ?_⟩
      refine for_range (lo := 0) (n := (((as.map V.ref).length : Nat) : Int).toNat) (fun u σ H' => ∃ kss x2 x4 x5, σ = [some (.ref p), some (.ref R), x2, some (.int ((0 : Int) + (t : Nat))), x4, x5, none] ∧ Nets H H' R ds kss ∧ kss.length = rows.length ∧
        ∀ (i : Nat) (ks : List Int), kss[i]? = some ks → if i < u then Gr rows i (t + 1) ks else Gr rows i t ks) ⟨kss, x2, x4, x5, rfl, k2, lk, fun i ks e => by rw [if_neg (Nat.not_lt_zero _)]; exact gs i ks e⟩ ?_ ?_
      · rintro u σ H3 hu ⟨kss, x2, x4, x5, rfl, k3, lk, gs⟩
        have hu9 : u < rows.length := by omega
        have hu' : 0 ≤ (u : Int) ∧ (u : Int) < (rows.length : Int) := ⟨by omega, by omega⟩
        have hk : kss[u]? = some (kss[u]'(by omega)) := List.getElem?_eq_getElem (by omega)
        obtain ⟨d, hd⟩ : ∃ d, ds[u]? = some d := ⟨_, List.getElem?_eq_getElem (by have := k3.len; omega)⟩
        generalize kss[u]'(by omega) = S at hk
        have gS : Gr rows u t S := by
          have z := gs u S hk
          rw [if_neg (Nat.lt_irrefl _)] at z
          exact z
        have hdS := k3.it u d S hd hk
        have few := gS.few hin hu'
        have atR : ∀ {H' : Hp} {kss' : List (List Int)}, Nets H H' R ds kss' → SqL K H' R (ds.map V.ref) ∧ atI (ds.map V.ref) ((0 : Int) + (u : Nat)) = some (.ref d) := fun k' => by
          refine ⟨SqL.of k'.hR, ?_⟩
          rw [Int.zero_add]
          refine atI_nat ?_
          rw [List.getElem?_map, hd]
          rfl
        -- for other in list(rows[person])
        refine ⟨_, rfl, _, rfl, R, _, _, .ref d, rfl, rfl, (atR k3).1, (atR k3).2, d, _, rfl, .inl hdS, fun l nl => ⟨l, rfl, ⟨_, SqL.of upd_same⟩, ?_⟩⟩
        have el : (encS S).map (fun kv => kV kv.1) = S.map V.int := by
          unfold encS
          rw [List.map_map]
          rfl
        rw [el]
        have sl := same_new (o := .lst (S.map V.int)) nl
        have hl4 := upd_same (H := H3) (a := l) (o := .lst (S.map V.int))
        have k4 := k3.same sl
        have ld : l ≠ d := Ne.symm (lst_ne hdS nl)
        generalize upd H3 l (.lst (S.map V.int)) = H4 at hl4 k4 ⊢
        refine for_list (xs := S.map V.int) (fun i σ H' => ∃ ks x4 x5, σ = [some (.ref p), some (.ref R), some (.int ((0 : Int) + (u : Nat))), some (.int ((0 : Int) + (t : Nat))), x4, x5, none] ∧ Nets H H' R ds (kss.set u ks) ∧ H' l = some (.lst (S.map V.int)) ∧
          Gm rows u S (fun k x => k ∈ S.take i ∧ x ∈ rowAt rows k) ks) ⟨S, x4, x5, rfl, ?_, hl4, ?_⟩ (fun i σ H' _ z => SqL.of z.choose_spec.choose_spec.choose_spec.2.2.1) ?_ ?_
        · have e : kss.set u S = kss := by
            refine List.ext_getElem? fun i => ?_
            rw [List.getElem?_set]
            split
            · rename_i z
              subst z
              rw [hk, if_pos (by omega)]
            · rfl
          rw [e]
          exact k4
        · have z := gS.mid
          exact ⟨z.nd, z.sub, z.re, fun k x y => absurd y.1 List.not_mem_nil, z.cl⟩
        · rintro i x σ H5 hx ⟨ks, y4, y5, rfl, k5, hl5, gm⟩
          rw [List.getElem?_map] at hx
          obtain ⟨v, hv, rfl⟩ := Option.map_eq_some_iff.mp hx
          have vS : v ∈ S := List.mem_of_getElem? hv
          have hvr := (gS.re v vS).range hin hu'
          have tks : S.take (i + 1) = S.take i ++ [v] := by
            rw [List.take_succ, hv]
            rfl
          obtain ⟨pv, hpv⟩ : ∃ pv, as[v.toNat]? = some pv := ⟨_, List.getElem?_eq_getElem (by omega)⟩
          obtain ⟨r, hr'⟩ : ∃ r, rows[v.toNat]? = some r := ⟨_, List.getElem?_eq_getElem (by omega)⟩
          have rv : rowAt rows v = r := by
            unfold rowAt
            rw [List.getD_eq_getElem?_getD, hr']
            rfl
          have hpr : SqT K H pv (r.map V.int) := g3 _ _ _ hpv hr'
          have hat : atI (as.map V.ref) v = some (V.ref pv) := by
            have ev : v = ((v.toNat : Nat) : Int) := by omega
            rw [ev]
            refine atI_nat ?_
            rw [List.getElem?_map, hpv]
            rfl
          refine ⟨_, rfl, _, rfl, p, _, _, .ref pv, rfl, rfl, k5.sm.seqT g1T, hat, pv, rfl, ⟨_, k5.sm.seqT hpr⟩, ?_⟩
          refine for_tup (xs := r.map V.int) (fun j σ H' => ∃ ks x5, σ = [some (.ref p), some (.ref R), some (.int ((0 : Int) + (u : Nat))), some (.int ((0 : Int) + (t : Nat))), some (.int v), x5, none] ∧ Nets H H' R ds (kss.set u ks) ∧ H' l = some (.lst (S.map V.int)) ∧
            Gm rows u S (fun k x => (k ∈ S.take i ∧ x ∈ rowAt rows k) ∨ (k = v ∧ x ∈ r.take j)) ks) ⟨ks, y5, rfl, k5, hl5, ?_⟩ (fun j σ H' _ z => z.choose_spec.choose_spec.2.1.sm.seqT hpr) ?_ ?_
          · exact ⟨gm.nd, gm.sub, gm.re, fun k x z => z.elim (gm.ed k x) fun y => absurd y.2 List.not_mem_nil, gm.cl⟩
          · rintro j x σ H6 hx ⟨ks, z5, rfl, k6, hl6, gm⟩
            rw [List.getElem?_map] at hx
            obtain ⟨w0, hw0, rfl⟩ := Option.map_eq_some_iff.mp hx
            have hwr : w0 ∈ rowAt rows v := by
              rw [rv]
              exact List.mem_of_getElem? hw0
            have tkj : r.take (j + 1) = r.take j ++ [w0] := by
              rw [List.take_succ, hw0]
              rfl
            have pe : ∀ k x, ((k ∈ S.take i ∧ x ∈ rowAt rows k) ∨ (k = v ∧ x ∈ r.take (j + 1))) → ((k ∈ S.take i ∧ x ∈ rowAt rows k) ∨ (k = v ∧ x ∈ r.take j)) ∨ x = w0 := fun k x z => by
              rcases z with z | ⟨z1, z2⟩
              · exact .inl (.inl z)
              · rw [tkj] at z2
                rcases List.mem_append.mp z2 with y | y
                · exact .inl (.inr ⟨z1, y⟩)
                · exact .inr (List.mem_singleton.mp y)
            have hks : (kss.set u ks)[u]? = some ks := by rw [List.getElem?_set, if_pos rfl, if_pos (by omega)]
            have hdk := k6.it u d ks hd hks
            have f9 := gm.few hin hu'
            refine ⟨_, rfl, _, rfl, R, _, _, .ref d, rfl, rfl, (atR k6).1, (atR k6).2, _, rfl, d, _, rfl, DPut.k (k := Sum.inl w0) hdk (by show (ks.map _).length < sizeLine; rw [List.length_map]; exact len_lt (by omega)), ?_⟩
            have put : ∀ ks', Nets H (upd H6 d (.dK (encS ks'))) R ds (kss.set u ks') := fun ks' => by
              have z := k6.put hd ks'
              rw [List.set_set] at z
              exact z
            by_cases m : w0 ∈ ks
            · rw [encS_old m]
              exact ⟨ks, _, rfl, put ks, by rw [upd_ne ld]; exact hl6, gm.skip m pe⟩
            · rw [encS_new m]
              exact ⟨ks ++ [w0], _, rfl, put _, by rw [upd_ne ld]; exact hl6, gm.add vS hwr m pe⟩
          · rintro σ H6 ⟨ks, z5, rfl, k6, hl6, gm⟩
            rw [List.length_map, List.take_length] at gm
            refine ⟨ks, _, _, rfl, k6, hl6, gm.nd, gm.sub, gm.re, fun k x z => ?_, gm.cl⟩
            rw [tks] at z
            rcases List.mem_append.mp z.1 with y | y
            · exact gm.ed k x (.inl ⟨y, z.2⟩)
            · refine gm.ed k x (.inr ⟨List.mem_singleton.mp y, ?_⟩)
              rw [← rv, ← List.mem_singleton.mp y]
              exact z.2
        · rintro σ H5 ⟨ks, y4, y5, rfl, k5, hl5, gm⟩
          rw [List.length_map, List.take_length] at gm
          have gd := gm.done gS fun k hk x hx => ⟨hk, hx⟩
          refine ⟨kss.set u ks, _, _, _, rfl, k5, by rw [List.length_set]; exact lk, fun i ks' e => ?_⟩
          rw [List.getElem?_set] at e
          split at e
          · rename_i z
            subst z
            split at e
            · rw [if_pos (Nat.lt_succ_self _), ← Option.some.inj e]
              exact gd
            · cases e
          · rename_i z
            have y := gs i ks' e
            by_cases iu : i < u
            · rw [if_pos iu] at y
              rw [if_pos (by omega)]
              exact y
            · rw [if_neg iu] at y
              rw [if_neg (by omega)]
              exact y
      · rintro σ H3 ⟨kss, y2, y4, y5, rfl, k3, lk, gs⟩
        refine ⟨kss, _, _, _, _, rfl, k3, lk, fun i ks e => ?_⟩
        have y := gs i ks e
        rw [if_pos (by have := (List.getElem?_eq_some_iff.mp e).1; omega)] at y
        exact y
    · rintro σ H2 ⟨kss, x2, x3, x4, x5, rfl, k2, lk, gs⟩
      rw [n1] at gs
      have ld2 := k2.len
      have fin : ∀ (i : Nat) (ks : List Int), kss[i]? = some ks → (∀ k, k ∈ ks ↔ Reach rows i k) ∧ ks.Nodup ∧ ks.length ≤ 9 := fun i ks e => by
        have hi := (List.getElem?_eq_some_iff.mp e).1
        have hu' : 0 ≤ (i : Int) ∧ (i : Int) < (rows.length : Int) := ⟨by omega, by omega⟩
        have z := gs i ks e
        exact ⟨z.all hin hu', z.nd, Nat.le_trans (z.few hin hu') h9⟩
      -- return tuple([tuple(sorted(row)) for row in rows])
      refine ⟨_, rfl, R, rfl, ⟨_, SqL.of k2.hR⟩, fun L nL => ?_⟩
      refine lc_list (xs := ds.map V.ref) (fun i H' => Nets H H' R ds kss ∧ H L = none ∧ ∃ (as' : List Addr) (fs : List (List Int)), H' L = some (.lst (as'.map V.ref)) ∧ as'.length = i ∧ fs.length = i ∧
        (∀ (j : Nat) (a : Addr) (f : List Int), as'[j]? = some a → fs[j]? = some f → H' a = some (.tup (f.map V.int))) ∧ ∀ (j : Nat) (f : List Int), fs[j]? = some f → f.Pairwise (· < ·) ∧ (∀ k, k ∈ f ↔ Reach rows j k) ∧ f.length ≤ 9)
        ⟨k2.same (same_new nL), none_of k2.sm nL, [], [], upd_same, rfl, rfl, fun j a f e => by simp at e, fun j f e => by simp at e⟩ (fun i H' _ z => SqL.of z.1.hR) ?_ ?_
      · rintro i x H3 hx ⟨k3, nL0, as', fs, hL, rfl, lf, ht, hf⟩
        rw [List.getElem?_map] at hx
        obtain ⟨d, hd, rfl⟩ := Option.map_eq_some_iff.mp hx
        have hi := (List.getElem?_eq_some_iff.mp hd).1
        obtain ⟨ks, hk⟩ : ∃ ks, kss[as'.length]? = some ks := ⟨_, List.getElem?_eq_getElem (by omega)⟩
        obtain ⟨f1, f2, f3⟩ := fin _ _ hk
        refine ⟨rfl, _, rfl, d, _, ks, rfl, .inl (k3.it _ d ks hd hk), by unfold encS; rw [List.map_map]; rfl, by omega, fun ys s pm pw ns => ⟨s, _, rfl, .inl ⟨SqL.of upd_same, fun t nt => ?_⟩⟩⟩
        have s1 := same_new (o := .lst (ys.map V.int)) ns
        have s2 := s1.trans (same_new (o := .tup (ys.map V.int)) nt)
        have nd : ys.Nodup := pm.nodup_iff.mpr f2
        have asc' : ys.Pairwise (· < ·) := (pw.and nd).imp fun h => by
          have h1 := h.1
          have h2 := h.2
          omega
        have nLd : ∀ d' ∈ ds, d' ≠ L := fun d' hd' z => by
          obtain ⟨j, hj, e2⟩ := List.getElem_of_mem hd'
          have e3 := k3.it j d' _ (by rw [← e2]; exact List.getElem?_eq_getElem hj) (List.getElem?_eq_getElem (by rw [← k3.len]; exact hj))
          rw [z, hL] at e3
          cases e3
        have k5 := k3.same s2
        have hL5 := s2 _ _ hL
        have nLR : L ≠ R := fun z => by
          have z1 := k2.hR
          have z2 := k3.nR
          rw [← z] at z1
          rw [nL] at z1
          cases z1
        refine ⟨_, hL5, by rw [List.length_map]; exact len_lt (by omega), ⟨same_mut k5.sm nL0, k5.nR, by rw [upd_ne (Ne.symm nLR)]; exact k5.hR, k5.len, k5.nd, k5.new, fun j d' ks' e1 e2 => by rw [upd_ne (nLd d' (List.mem_of_getElem? e1))]; exact k5.it j d' ks' e1 e2⟩, nL0, as' ++ [t], fs ++ [ys], by rw [upd_same, List.map_append]; rfl, by rw [List.length_append]; rfl, by rw [List.length_append, lf]; rfl, ?_, fun j f e => ?_⟩
        · exact WebAt.snoc hL5 (fun j a f e1 e2 => s2 _ _ (ht j a f e1 e2)) (by omega) upd_same
        · rcases get_snoc e with z | ⟨z1, z2⟩
          · exact hf j f z
          · rw [z1, z2, lf]
            exact ⟨asc', fun k => (pm.mem_iff).trans (f1 k), by rw [pm.length_eq]; exact f3⟩
      · rintro H3 ⟨k3, nL0, as', fs, hL, la, lf, ht, hf⟩
        rw [List.length_map] at la lf
        refine ⟨L, _, rfl, .inl ⟨SqL.of hL, fun t nt => ?_⟩⟩
        have sn := same_new (o := .tup (as'.map V.ref)) nt
        exact q t fs _ (k3.sm.trans sn) (none_of k3.sm nt) ⟨as', upd_same, by omega, fun i a f e1 e2 => sn _ _ (ht i a f e1 e2)⟩ ⟨by omega, hf⟩
end
end Lw

set_option maxHeartbeats 4000000
/-! set(xs) of a list of ints -/
namespace Hn
open PySem PySem.Spec PyProof.Rows L2 EF
open PySem.W (Frag keepIn)
/-- an empty set, as it is made -/
abbrev bare (w : World) : Obj := { cls := .type "set", dict := none, data := .set #[] 0 (.fresh 0 0 (!w.params.followText "set-order")) }
section
variable {P : Program} {w : World} {A : Around}
theorem set_made {E : Value → Shared → Prop} {s : Shared} {x : Value} {R : Shared → Prop} {Q : Value → Shared → Prop}
    (run : codeAny (model P w) A.in1 (.call (.builtin "set.__init__") ⟨[.ref s.heap.objs.size, x], []⟩) (wants (fun r z => r = .none ∧ R z) E) { s with heap := s.heap.push (bare w) })
    (fin : ∀ z, R z → Q (.ref s.heap.objs.size) z) : wpAny (model P w) A (call (.type "set") [x]) Q E s := by
  have k := F.called_set
  obtain ⟨_, _, lin⟩ := k.mro
  have parts := And.intro k.made (And.intro k.sub (And.intro k.notType (And.intro k.canCreate (F.typeCall_set_1 x))))
  obtain ⟨p1, p2, p3, p4, p5⟩ := parts
  refine wpAny_call (codeAny_of_tree (wpAny_pure ⟨Code.quiet_builtin _ (by decide +kernel), codeAny_builtin F.entry_type_call ?_⟩))
  rw [Around.under_plain (weight_type_call_type "set" [x] []) rfl]
  repeat (any_goals first | wp_step | assumption)
  refine codeAny_mono (code_set_led1 x (E := E) (Q₁ := fun v z => v = .ref s.heap.objs.size ∧ z = { s with heap := s.heap.push (bare w) }) (And.intro rfl rfl)) ?_
  rintro (e | fl) z hz
  · exact hz
  rcases fl with _ | v | _ | _ <;> try exact hz.elim
  obtain ⟨ev, ez⟩ := hz
  rw [ev, ez]
  have at' : (s.heap.push (bare w)).get? s.heap.objs.size = some (bare w) := Heap.get?_push_size _ rfl
  have ty : Shared.TypeIs { s with heap := s.heap.push (bare w) } (.ref s.heap.objs.size) "set" := ⟨_, at', rfl⟩
  have i1 := k.init.lookup
  have i2 := k.init.bind (.ref s.heap.objs.size)
  repeat (any_goals first | wp_step | assumption)
  refine codeAny_mono run ?_
  rintro (e | fl) z2 hz2
  · exact hz2
  rcases fl with _ | v2 | _ | _ <;> try exact hz2.elim
  rw [hz2.1]
  repeat (any_goals first | wp_step | assumption)
  exact fin z2 hz2.2
/-- the walk through the list, into the bare set -/
theorem set_filled {E : Value → Shared → Prop} {s : Shared} {l : Addr} {items : Array Value} (ns : List Int) (hh : A.handled = none) (hl : s.heap.IsList l items) (hi : IntsAre items.toList ns) (hb : ns.length + 1 < scanBound) :
    codeAny (model P w) A (.call (.builtin "set.__init__") ⟨[.ref s.heap.objs.size, .ref l], []⟩) (wants (fun r z => r = .none ∧ ∃ h' tk c, z = { s with heap := h', toks := tk } ∧ SetR w h' s.heap.objs.size (fun j => decide (j ∈ ns)) c ∧ c ≤ ns.length ∧ ∀ b o, s.heap.get? b = some o → h'.get? b = some o) E) { s with heap := s.heap.push (bare w) } := by
  generalize eS : s.heap.objs.size = S at *
  generalize eh : s.heap.push (bare w) = h1 at *
  have atS : h1.get? S = some (bare w) := by
    rw [← eh, ← eS]
    exact Heap.get?_push_size _ rfl
  have keep : ∀ b o, s.heap.get? b = some o → h1.get? b = some o := fun b o e => by
    rw [← eh]
    exact Heap.get?_push_of_some _ e
  have z1 : h1.objs.size = S + 1 := by
    rw [← eh, ← eS]
    exact Heap.size_push ..
  have lt : ∀ b o, s.heap.get? b = some o → b < S := fun b o e => by
    rw [← eS]
    exact Heap.lt_size e
  have ty : Shared.TypeIs { s with heap := h1 } (.ref S) "set" := ⟨_, atS, rfl⟩
  have lenE : items.size = ns.length := by
    rw [← hi.length, Array.length_toList]
  obtain ⟨⟨_, ld, _, lsl⟩, lget, rfl, n, rfl⟩ := hl
  have lS := lt l _ lget
  have l1 := keep l _ lget
  have il : h1.IsList l items := ⟨_, l1, rfl, n, rfl⟩
  have s1 := F.sub_list_set
  have s2 := F.sub_list_frozenset
  have s3 : (Value.type "list" == Value.type "dict") = false := by decide
  refine codeAny_call_builtin F.called_set.init.plain F.entry_set_init (check_set_init_1 ty ?_)
  unfold Builtin.«set.__init__» noKeywords Builtin.Frozenset.updateFrom
  generalize eI : pyIter = iter
  wp_walk
  rw [← eI]
  refine wpAny_pyIter_list il (wpAny_bind (wpAny_runValue ?_))
  have h3 : A.in1.in1.handled = none := by simp [hh]
  have vals : ∀ (i : Nat) (v : Value), items[i]? = some v → ∃ k t, ns[i]? = some k ∧ v = .int k t := fun i v hv => by
    have hk : i < ns.length := lenE ▸ (Array.getElem?_eq_some_iff.mp hv).1
    obtain ⟨t, e⟩ := hi.int_at i v (Array.getElem?_toList.trans hv)
    have g := List.getElem?_eq_getElem hk
    refine ⟨_, t, g, e.trans ?_⟩
    rw [List.getD_eq_getElem?_getD, g]
    rfl
  have nS : S ≠ h1.objs.size := fun e => by
    rw [z1] at e
    exact Nat.ne_of_lt (Nat.lt_succ_self _) e
  have nl : l ≠ h1.objs.size := fun e => by
    rw [z1] at e
    exact Nat.ne_of_lt (Nat.lt_succ_of_lt lS) e
  have no : S ∉ [h1.objs.size, l] := fun m => by
    rcases List.mem_cons.mp m with e | m2
    · exact nS e
    · exact Nat.ne_of_gt lS (List.mem_singleton.mp m2)
  refine set_update_ints (Walks.list h3 h1.objs.size l nl items).toS S no ns lenE hb vals items.size 0 _ (Nat.sub_zero _) (Nat.zero_le _) ?walk ?new ?fin
  case walk => exact ⟨⟨_, Heap.get?_push_size _ rfl, rfl, rfl⟩, il.push _⟩
  case new => exact ⟨0, Nat.le_refl 0, setR_new_at (Heap.get?_push_of_some _ atS)⟩
  rintro ⟨h', _, _, tk, _⟩ c mv lc sr
  obtain ⟨g1, g2, g3⟩ := And.intro mv.gens (And.intro mv.drawn mv.os)
  dsimp only at g1 g2 g3
  rw [g1, g2, g3]
  refine wpAny_pure (wpAny_pure ⟨rfl, h', tk, c, rfl, sr, lenE ▸ lc, fun b o e => ?_⟩)
  have lb := lt b o e
  refine mv.heap b o (fun m => ?_) (Heap.get?_push_of_some _ (keep b o e))
  rcases List.mem_cons.mp m with e2 | m2
  · exact Nat.ne_of_lt lb e2
  · rw [List.mem_singleton.mp m2, z1] at lb
    exact Nat.lt_irrefl _ (Nat.lt_of_succ_lt lb)
end
def rSetLI (K : Frag) (w : World) : List V → Hp → VK → Prop := fun vs H Q => ∃ (l : Addr) (ns : List Int), vs = [.ref l] ∧ (SqL K H l (ns.map V.int) ∨ SqT K H l (ns.map V.int)) ∧ ns.length ≤ 1000 ∧
  ∀ (a : Addr) (c : Nat), H a = none → c ≤ ns.length → Q (.ref a) (upd H a (SetO w a (fun j => decide (j ∈ ns)) c))
theorem cr_setLI {X : Cx} {K : Frag} {w : World} (e1 : X.K = K) (e2 : X.w = w) (hc : X.calm = true) : CallR X (.type "set") (rSetLI K w) := by
  subst e1 e2
  rintro pins s σ H vs us Q I r ⟨l, ns, rfl, hs, hn, q⟩
  rw [Vals.ref1 r]
  have nw : H s.heap.objs.size = none := HOk.fresh I.hok (Nat.le_refl _)
  have hb : ns.length + 1 < scanBound := by rw [show scanBound = 4096 from rfl]; omega
  have hd := I.ok.hd hc
  have fin : ∀ (h' : Heap) (tk c : Nat), SetR X.w h' s.heap.objs.size (fun j => decide (j ∈ ns)) c → c ≤ ns.length → (∀ b o, s.heap.get? b = some o → h'.get? b = some o) → EP X pins σ Q (.ref s.heap.objs.size) { s with heap := h', toks := tk } := fun h' tk c R hcn k =>
    ⟨.ref s.heap.objs.size, upd H s.heap.objs.size (SetO X.w s.heap.objs.size (fun j => decide (j ∈ ns)) c), I.laid (t' := tk) k (Nat.le_refl _) (setO_new R), rfl, q _ c nw hcn⟩
  rcases hs with hs | hs
  · obtain ⟨its, rv, hl, _⟩ := I.list hs
    refine set_made (set_filled (items := its.toArray) ns (by simp [hd]) hl.isList (ints_of_vals rv) hb) ?_
    rintro z ⟨h', tk, c, rfl, R, hcn, k⟩
    exact fin h' tk c R hcn k
  · obtain ⟨its, rv, pt, _⟩ := I.tuple hs
    exact call_set_tupI ns hd (show s.heap.IsTuple l its.toArray from pt) (ints_of_vals rv) hb fin
end Hn

set_option maxHeartbeats 4000000
/-! names given to neighbours -/
namespace Hn
open PySem PySem.Spec PyProof.Rows L2 EF
open PySem.W (Frag keepIn)
structure Nam (rows : List (List Int)) (Pe : Int → Int → Prop) (ns : List Int) : Prop where
  len : ns.length = rows.length
  jo : ∀ i j : Nat, i < rows.length → j < rows.length → ns.getD i 0 = ns.getD j 0 → Joined rows i j
  ed : ∀ u w : Int, Pe u w → ns.getD u.toNat 0 = ns.getD w.toNat 0
def merge (a b m x : Int) : Int := if x ∈ [a, b] then m else x
theorem getD_map (f : Int → Int) {ns : List Int} {i : Nat} (h : i < ns.length) : (ns.map f).getD i 0 = f (ns.getD i 0) := by
  rw [List.getD_eq_getElem?_getD, List.getD_eq_getElem?_getD, List.getElem?_map, List.getElem?_eq_getElem h]
  rfl
section
variable {rows : List (List Int)} {Pe Pe' : Int → Int → Prop} {ns : List Int}
theorem Nam.start : Nam rows (fun _ _ => False) ((List.range rows.length).map fun (k : Nat) => (k : Int)) := by
  have e : ∀ i, i < rows.length → ((List.range rows.length).map fun (k : Nat) => (k : Int)).getD i 0 = (i : Int) := fun i h => by
    rw [List.getD_eq_getElem?_getD, List.getElem?_map, List.getElem?_range h]
    rfl
  refine ⟨by rw [List.length_map, List.length_range], fun i j hi hj h => ?_, fun _ _ h => h.elim⟩
  rw [e i hi, e j hj] at h
  rw [h]
  exact .refl
theorem Nam.imp (k : Nam rows Pe ns) (h : ∀ u w, Pe' u w → Pe u w) : Nam rows Pe' ns := ⟨k.len, k.jo, fun u w p => k.ed u w (h u w p)⟩
theorem Nam.merge (k : Nam rows Pe ns) (hin : InRange rows) {u w : Int} (hu : 0 ≤ u ∧ u < (rows.length : Int)) (hw : w ∈ rowAt rows u) {m : Int} (hm : m = ns.getD u.toNat 0 ∨ m = ns.getD w.toNat 0)
    (hr : ∀ x y, Pe x y → (0 ≤ x ∧ x < (rows.length : Int)) ∧ (0 ≤ y ∧ y < (rows.length : Int))) (hp : ∀ x y, Pe' x y → Pe x y ∨ (x = u ∧ y = w)) : Nam rows Pe' (ns.map (Hn.merge (ns.getD u.toNat 0) (ns.getD w.toNat 0) m)) := by
  have hw' := row_range hin hw
  have hl := k.len
  have huw : Joined rows u w := .fwd .refl hw
  have toU : ∀ i : Nat, i < rows.length → ns.getD i 0 ∈ [ns.getD u.toNat 0, ns.getD w.toNat 0] → Joined rows i u := fun i hi h => by
    rcases List.mem_cons.mp h with z | z
    · have y := k.jo i u.toNat hi (by omega) z
      rw [show ((u.toNat : Nat) : Int) = u by omega] at y
      exact y
    · have y := k.jo i w.toNat hi (by omega) (List.mem_singleton.mp z)
      rw [show ((w.toNat : Nat) : Int) = w by omega] at y
      exact y.trans (huw.symm hin hu)
  have mm : m ∈ [ns.getD u.toNat 0, ns.getD w.toNat 0] := by
    rcases hm with z | z
    · rw [z]
      exact List.mem_cons_self
    · rw [z]
      exact List.mem_cons_of_mem _ List.mem_cons_self
  refine ⟨by rw [List.length_map]; exact hl, fun i j hi hj h => ?_, fun x y p => ?_⟩
  · rw [getD_map _ (by omega), getD_map _ (by omega)] at h
    unfold Hn.merge at h
    by_cases c1 : ns.getD i 0 ∈ [ns.getD u.toNat 0, ns.getD w.toNat 0]
    · have y1 := toU i hi c1
      rw [if_pos c1] at h
      by_cases c2 : ns.getD j 0 ∈ [ns.getD u.toNat 0, ns.getD w.toNat 0]
      · exact y1.trans ((toU j hj c2).symm hin ⟨by omega, by omega⟩)
      · rw [if_neg c2] at h
        rw [h] at mm
        exact absurd mm c2
    · rw [if_neg c1] at h
      by_cases c2 : ns.getD j 0 ∈ [ns.getD u.toNat 0, ns.getD w.toNat 0]
      · rw [if_pos c2] at h
        rw [← h] at mm
        exact absurd mm c1
      · rw [if_neg c2] at h
        exact k.jo i j hi hj h
  · rcases hp x y p with z | ⟨rfl, rfl⟩
    · obtain ⟨r1, r2⟩ := hr x y z
      rw [getD_map _ (by omega), getD_map _ (by omega), k.ed x y z]
    · rw [getD_map _ (by omega), getD_map _ (by omega)]
      unfold Hn.merge
      rw [if_pos List.mem_cons_self, if_pos (List.mem_cons_of_mem _ List.mem_cons_self)]
theorem Nam.cls (k : Nam rows (fun u w => (0 ≤ u ∧ u < (rows.length : Int)) ∧ w ∈ rowAt rows u) ns) (hin : InRange rows) {i : Nat} (hi : i < rows.length) {w : Int} : (∃ j : Nat, j < rows.length ∧ w = j ∧ ns.getD j 0 = ns.getD i 0) ↔ Joined rows i w := by
  constructor
  · rintro ⟨j, hj, rfl, e⟩
    exact k.jo i j hi hj e.symm
  · intro h
    have hi' : 0 ≤ (i : Int) ∧ (i : Int) < (rows.length : Int) := ⟨by omega, by omega⟩
    induction h with
    | refl => exact ⟨i, hi, rfl, rfl⟩
    | @fwd v w a hw ih =>
      obtain ⟨j, hj, rfl, e⟩ := ih
      have g := row_range hin hw
      refine ⟨w.toNat, by omega, by omega, ?_⟩
      rw [← k.ed j w ⟨⟨by omega, by omega⟩, hw⟩]
      exact e
    | @bwd v w a h1 h2 hw ih =>
      obtain ⟨j, hj, rfl, e⟩ := ih
      refine ⟨w.toNat, by omega, by omega, ?_⟩
      rw [k.ed w j ⟨⟨h1, h2⟩, hw⟩]
      exact e
end
/-- those of the first n with this name -/
def lot (ns : List Int) (n : Nat) (nm : Int) : List Int := ((List.range n).filter fun i => decide (ns.getD i 0 = nm)).map fun (k : Nat) => (k : Int)
theorem lot_asc (ns : List Int) (n : Nat) (nm : Int) : (lot ns n nm).Pairwise (· < ·) := by
  refine List.pairwise_map.mpr ((List.Pairwise.filter _ List.pairwise_lt_range).imp fun h => ?_)
  omega
theorem mem_lot {ns : List Int} {n : Nat} {nm w : Int} : w ∈ lot ns n nm ↔ ∃ j : Nat, j < n ∧ w = j ∧ ns.getD j 0 = nm := by
  unfold lot
  rw [List.mem_map]
  constructor
  · rintro ⟨j, hj, rfl⟩
    rw [List.mem_filter, List.mem_range, decide_eq_true_iff] at hj
    exact ⟨j, hj.1, rfl, hj.2⟩
  · rintro ⟨j, hj, rfl, e⟩
    exact ⟨j, by rw [List.mem_filter, List.mem_range, decide_eq_true_iff]; exact ⟨hj, e⟩, rfl⟩
theorem lot_succ (ns : List Int) (n : Nat) (nm : Int) : lot ns (n + 1) nm = if ns.getD n 0 = nm then lot ns n nm ++ [(n : Int)] else lot ns n nm := by
  unfold lot
  rw [List.range_succ, List.filter_append, List.map_append]
  by_cases e : ns.getD n 0 = nm
  · rw [if_pos e, List.filter_cons, if_pos (decide_eq_true e)]
    rfl
  · rw [if_neg e, List.filter_cons, if_neg (by rw [decide_eq_true_iff]; exact e), List.filter_nil, List.map_nil, List.append_nil]
theorem mem_getD {ns : List Int} {x : Int} : x ∈ ns ↔ ∃ i : Nat, i < ns.length ∧ ns.getD i 0 = x := by
  constructor
  · intro h
    obtain ⟨i, hi, e⟩ := List.getElem_of_mem h
    exact ⟨i, hi, by rw [List.getD_eq_getElem?_getD, List.getElem?_eq_getElem hi, ← e]; rfl⟩
  · rintro ⟨i, hi, rfl⟩
    rw [List.getD_eq_getElem?_getD, List.getElem?_eq_getElem hi]
    exact List.getElem_mem hi
/-- the lots of all names are the pieces -/
theorem lots_pieces {rows : List (List Int)} {ns out : List Int} {ks : List (List Int)} (k : Nam rows (fun u w => (0 ≤ u ∧ u < (rows.length : Int)) ∧ w ∈ rowAt rows u) ns) (hin : InRange rows) (ho : out.Nodup) (hm : ∀ x, x ∈ out ↔ x ∈ ns)
    (pm : ks.Perm (out.map (lot ns rows.length))) (srt : ks.Pairwise fun q r => ¬ r < q) : ClassList rows.length (Joined rows) ks := by
  have at' : ∀ x ∈ out, ∃ i : Nat, i < rows.length ∧ ns.getD i 0 = x := fun x hx => by
    have z := mem_getD.mp ((hm x).mp hx)
    rw [k.len] at z
    exact z
  have cl : ∀ (i : Nat), i < rows.length → IsCls (Joined rows) i (lot ns rows.length (ns.getD i 0)) := fun i hi => ⟨lot_asc _ _ _, fun w => mem_lot.trans (k.cls hin hi)⟩
  refine ⟨srt, ?_, fun q hq => ?_, fun u hu => ?_⟩
  · refine pm.nodup_iff.mpr (List.pairwise_map.mpr (ho.imp_of_mem fun {x y} hx hy ne e => ne ?_))
    obtain ⟨i, hi, rfl⟩ := at' x hx
    have z : (i : Int) ∈ lot ns rows.length (ns.getD i 0) := mem_lot.mpr ⟨i, hi, rfl, rfl⟩
    rw [e] at z
    obtain ⟨j, hj, e1, e2⟩ := mem_lot.mp z
    rw [Int.ofNat.inj e1]
    exact e2
  · obtain ⟨x, hx, rfl⟩ := List.mem_map.mp (pm.mem_iff.mp hq)
    obtain ⟨i, hi, rfl⟩ := at' x hx
    exact ⟨i, hi, cl i hi⟩
  · refine ⟨_, pm.mem_iff.mpr (List.mem_map.mpr ⟨ns.getD u 0, (hm _).mpr (mem_getD.mpr ⟨u, by rw [k.len]; exact hu, rfl⟩), rfl⟩), cl u hu⟩
end Hn

set_option maxHeartbeats 4000000
namespace Lw
open PySem PySem.Spec PyProof.Rows L2 EF Hn
open PySem.W (Frag keepIn)
abbrev s_law_knots : Stmt := top 31
abbrev N_law_knots : List Str := ["web", "rows", "lots", "person", "lot", "other"]
theorem sc_law_knots : FnScope N_law_knots ["web"] (defScope s_law_knots) := ⟨rfl, rfl, rfl, by decide +kernel, rfl, by decide +kernel, by decide +kernel⟩
abbrev s_law_pieces : Stmt := top 30
abbrev N_law_pieces : List Str := ["web", "names", "turn", "person", "pocket", "other", "least", "name", "one"]
theorem sc_law_pieces : FnScope N_law_pieces ["web"] (defScope s_law_pieces) := ⟨rfl, rfl, rfl, by decide +kernel, rfl, by decide +kernel, by decide +kernel⟩
theorem room65 {A : Around} {k : Nat} (hr : Room k A) : A.units + 65 < cLine := by
  have := hr.un
  omega
/-- told of a web by own reckoning -/
def spOwn (K : Frag) (T : List (List Int) → List (List Int) → Prop) : Sp := fun vs H Q _ => ∃ (p : Addr) (rows : List (List Int)), vs = [.ref p] ∧ Grid K true H p rows ∧ rows.length ≤ 9 ∧ InRange rows ∧ (∀ r ∈ rows, r.length ≤ 9) ∧
  ∀ (q : Addr) (fs : List (List Int)) (H' : Hp), Same H H' → H q = none → WebAt H' q fs → T rows fs → Q (.ref q) H'
theorem eqv_row (a b : List Int) : PyData.eqv (rowD a) (rowD b) = decide (a = b) := by
  show PyData.eqvAll (a.map PyData.int) (b.map PyData.int) = _
  exact PySem.W.ked_eqvAll a b
theorem depth_row (r : List Int) : (rowD r).depth = 1 := by
  show PyData.depthAll (r.map PyData.int) + 1 = 1
  rw [PySem.W.depth_ints]
theorem lay_ints : ∀ r : List Int, PyData.canLayAll0 (r.map PyData.int) = true
  | [] => rfl
  | x :: r => lay_ints r
theorem shaped_row (r : List Int) : SeqAt.shaped (rowD r) = true := by
  unfold SeqAt.shaped
  rw [depth_row]
  show (PyData.canLayAll0 (r.map PyData.int) && _) = true
  rw [lay_ints]
  rfl
theorem lay_rows : ∀ rs : List (List Int), PyData.canLayAll0 (rs.map rowD) = true
  | [] => rfl
  | r :: rs => by
    show (PyData.canLay0 (rowD r) && PyData.canLayAll0 (rs.map rowD)) = true
    rw [lay_rows rs, Bool.and_true]
    exact lay_ints r
theorem depth_rows : ∀ rs : List (List Int), PyData.depthAll (rs.map rowD) ≤ 1
  | [] => Nat.zero_le _
  | r :: rs => by
    show max (rowD r).depth (PyData.depthAll (rs.map rowD)) ≤ 1
    rw [depth_row]
    have := depth_rows rs
    omega
theorem shaped_rows (rs : List (List Int)) : SeqAt.shaped (.list (rs.map rowD)) = true ∧ SeqAt.shaped (.tuple (rs.map rowD)) = true := by
  have h := depth_rows rs
  constructor
  · unfold SeqAt.shaped
    show (PyData.canLayAll0 (rs.map rowD) && decide (PyData.depthAll (rs.map rowD) + 1 ≤ 64)) = true
    rw [lay_rows, decide_eq_true (by omega)]
    rfl
  · unfold SeqAt.shaped
    show (PyData.canLayAll0 (rs.map rowD) && decide (PyData.depthAll (rs.map rowD) + 1 ≤ 64)) = true
    rw [lay_rows, decide_eq_true (by omega)]
    rfl
theorem any_row (k : List Int) : ∀ rs : List (List Int), ((rs.map rowD).any fun z => PyData.eqv z (rowD k)) = decide (k ∈ rs)
  | [] => (decide_eq_false List.not_mem_nil).symm
  | r :: rs => by
    rw [List.map_cons, List.any_cons, any_row k rs, eqv_row, Bool.eq_iff_iff, Bool.or_eq_true, decide_eq_true_iff, decide_eq_true_iff, decide_eq_true_iff, List.mem_cons, eq_comm]
theorem webAt_pairs {H : Hp} {t : Addr} {L : List (Addr × List Int)} (h : H t = some (.tup (L.map fun q => V.ref q.1))) (k : ∀ p ∈ L, H p.1 = some (.tup (p.2.map V.int))) : WebAt H t (L.map (·.2)) := by
  refine ⟨L.map (·.1), by rw [List.map_map]; exact h, by rw [List.length_map, List.length_map], fun i q r e1 e2 => ?_⟩
  rw [List.getElem?_map] at e1 e2
  obtain ⟨z, hz, rfl⟩ := Option.map_eq_some_iff.mp e1
  rw [hz] at e2
  obtain rfl := Option.some.inj e2
  exact k z (List.mem_of_getElem? hz)
section
variable {P : Program} {w : World} {K : Frag} {mg : Str → Option Value} {base : Heap} {C : Addr}
theorem k_lknots (B : Bl mg) (D : Dfn K mg "_law_knots" s_law_knots ["web"]) (G_law_found : Kept P w K mg base 1 "_law_found" ["web"] (spFoundL K)) : Kept P w K mg base 2 "_law_knots" ["web"] (spOwn K isKnots) := by
  refine D.keptC (N := N_law_knots) sc_law_knots (fun vs H Q E h => ?_) (fun f cdv A outer s H vs Q E hcd hr h => ?_)
  · obtain ⟨p, rows, rfl, _⟩ := h
    rfl
  obtain ⟨p, rows, rfl, gr, h9, hin, r9, q⟩ := h
  refine ⟨_, (pss_cons (ps_set (i := 1) sc_law_knots.nd rfl (Or.inr rfl) (pe_k G_law_found (hr.mono (by first | decide | omega)) (by rfl) (pa_cons (pv 0) pa_nil)))
      (pss_cons (ps_set (i := 2) sc_law_knots.nd rfl (Or.inl rfl) (pe_lst pa_nil))
      (pss_cons (ps_for PassesOwn.never rfl (pi_range1 (by rfl) B.b_range (pa_cons (pe_callB call_len_seq (by rfl) B.b_len PySem.boot_len (pa_cons (pv 0) pa_nil)) pa_nil)) (pg_name (i := 3) sc_law_knots.nd rfl (Or.inr rfl)) (pss_cons (ps_set (i := 4) sc_law_knots.nd rfl (Or.inl rfl) (pe_callTy call_tuple_of (by rfl) B.b_tuple (by decide +kernel) (pa_cons (pe_lc (own := [("other", 5)]) (g := gName 5) (by rfl) sc_law_knots.nd (pi_tup (pe_ix ix_tup (pv 1) (pv 3) (fun _ _ => rfl))) (blkOk_by (own := [("other", 5)]) (N := N_law_knots) (sc := defScope s_law_knots) (by decide +kernel)) (fun _ _ _ _ _ => (pg_name (i := 5) sc_law_knots.nd rfl (Or.inl rfl))) (fun _ _ _ _ _ => (pts_one (pt_cmpR (in_seqK (K := K) rfl) (pv 3) (pe_ix (ix_tupK (K := K) rfl) (pv 1) (pv 5) (fun _ _ => rfl)) (by rfl)))) (fun _ _ _ _ _ => (pv 5))) pa_nil)))
      (pss_one (ps_if (pt_cmpR (op_notInD (room65 hr)) (pv 4) (pv 2) (by rfl)) (pss_one (ps_expr (pe_bm PySem.F.plainAttrs_list PySem.F.slot_list_append PySem.F.type_list_append mt_append (pv 2) (pa_cons (pv 4) pa_nil)))) pss_nil))))
      (pss_one (ps_ret (pe_callTy call_tuple_of (by rfl) B.b_tuple (by decide +kernel) (pa_cons (pe_callB (sortLT (K := K) rfl (room10 hr)) (by rfl) B.b_sorted (by decide +kernel) (pa_cons (pv 2) pa_nil)) pa_nil))))))), ?_⟩
  obtain ⟨xs, hx, hl⟩ : ∃ xs : List V, SqT K H p xs ∧ xs.length = rows.length := by
    obtain ⟨as, g1, g2, _⟩ := gr
    exact ⟨_, g1, by rw [List.length_map, g2]⟩
  -- rows = _law_found(web)
  refine ⟨_, rfl, p, rows, rfl, gr, h9, hin, fun R fs H1 s1 nR wa ff => ?_⟩
  have nf := ff.1
  obtain ⟨fin, f9⟩ := finds_rows ff hin
  -- lots = []
  refine ⟨len_le (by decide : 0 ≤ 1000), fun L nL => ?_⟩
  have nL0 := none_of s1 nL
  have s2 := s1.trans (same_new (o := .lst []) nL)
  have wa2 := wa.same (same_new (o := .lst []) nL)
  have hL2 := upd_same (H := H1) (a := L) (o := .lst [])
  generalize upd H1 L (.lst []) = H2 at s2 wa2 hL2 ⊢
  refine ⟨_, rfl, p, xs, rfl, .inr (s2.seqT hx), _, rfl, by omega, by omega, ?_⟩
  refine for_range (lo := 0) (n := ((xs.length : Nat) : Int).toNat) (fun i σ H' => ∃ (As : List (Addr × List Int)) (x3 x4 : Option V), σ = [some (.ref p), some (.ref R), some (.ref L), x3, x4, none] ∧ Same H H' ∧ WebAt H' R fs ∧ H' L = some (.lst (As.map fun q => V.ref q.1)) ∧
    (∀ q ∈ As, H' q.1 = some (.tup (q.2.map V.int))) ∧ (As.map (·.2)).Nodup ∧ As.length ≤ i ∧ ∀ k, k ∈ As.map (·.2) ↔ ∃ u : Nat, u < i ∧ k = knot fs u) ⟨[], none, none, rfl, s2, wa2, hL2, fun q h => absurd h List.not_mem_nil, List.nodup_nil, Nat.le_refl _, fun k => ⟨fun h => absurd h List.not_mem_nil, fun ⟨u, h, _⟩ => absurd h (Nat.not_lt_zero _)⟩⟩ ?_ ?_
  · rintro i σ H3 hi ⟨As, x3, x4, rfl, sm, wa3, hL, hA, nd, lA, mem⟩
    have hi' : 0 ≤ (i : Int) ∧ (i : Int) < (fs.length : Int) := ⟨by omega, by omega⟩
    have e0 : (0 : Int) + (i : Nat) = (i : Int) := Int.zero_add _
    rw [e0]
    have gR : Grid K true H3 R fs := wa3.grid
    obtain ⟨ys, pu, hy, hat, hp⟩ := gR.row hi'
    -- lot = tuple([..])
    refine ⟨_, rfl, _, rfl, R, _, _, .ref pu, rfl, rfl, hy, hat, pu, rfl, ⟨_, hp⟩, fun D nD => ?_⟩
    refine lc_tup (xs := (rowAt fs i).map V.int) (fun j H' => Same H3 H' ∧ H' D = some (.lst ((((rowAt fs i).take j).filter fun w => decide ((i : Int) ∈ rowAt fs w)).map V.int))) ⟨same_new nD, upd_same⟩ (fun j H' _ z => z.1.seqT hp) ?_ ?_
    · rintro j x H4 hx' ⟨s4, hD⟩
      rw [List.getElem?_map] at hx'
      obtain ⟨w0, hw0, rfl⟩ := Option.map_eq_some_iff.mp hx'
      have hwr : w0 ∈ rowAt fs i := List.mem_of_getElem? hw0
      obtain ⟨xs2, p2, hx2, hat2, hp2⟩ := (gR.same s4).row (row_range fin hwr)
      have tk : (rowAt fs i).take (j + 1) = (rowAt fs i).take j ++ [w0] := by
        rw [List.take_succ, hw0]
        rfl
      refine ⟨rfl, ?_⟩
      refine ⟨_, rfl, _, rfl, _, rfl, R, _, _, .ref p2, rfl, rfl, hx2, hat2, p2, _, rfl, .inr hp2, rfl, flat_ints _, _, rfl, ?_⟩
      have sz : (((((rowAt fs i).take j).filter fun w => decide ((i : Int) ∈ rowAt fs w))).map V.int).length < sizeLine := by
        rw [List.length_map]
        have h1 := List.length_filter_le (fun w => decide ((i : Int) ∈ rowAt fs w)) ((rowAt fs i).take j)
        rw [List.length_take] at h1
        have h2 := row_short f9 i
        exact len_lt (by omega)
      refine ite2 (fun e1 => ?_) (fun e1 => ?_)
      · have y : decide ((i : Int) ∈ rowAt fs w0) = true := by
          rw [← inV_ints]
          exact e1
        refine ⟨_, rfl, _, hD, sz, same_mut s4 nD, ?_⟩
        rw [upd_same, tk, List.filter_append, List.map_append, List.filter_cons, if_pos y]
        rfl
      · have y : ¬ decide ((i : Int) ∈ rowAt fs w0) = true := by
          rw [← inV_ints]
          exact e1
        refine ⟨s4, ?_⟩
        rw [tk, List.filter_append, List.filter_cons, if_neg y, List.filter_nil, List.append_nil]
        exact hD
    · rintro H4 ⟨s4, hD⟩
      rw [List.length_map, List.take_length] at hD
      refine ⟨D, _, rfl, .inl ⟨SqL.of hD, fun t nt => ?_⟩⟩
      have st := same_new (o := .tup ((knot fs i).map V.int)) nt
      have s5 := s4.trans st
      have wa5 := wa3.same s5
      have hL5 := s5 _ _ hL
      have hA5 : ∀ q ∈ As, upd H4 t (.tup ((knot fs i).map V.int)) q.1 = some (.tup (q.2.map V.int)) := fun q hq => s5 _ _ (hA q hq)
      have ht5 := upd_same (H := H4) (a := t) (o := .tup ((knot fs i).map V.int))
      have sm5 := sm.trans s5
      show tSeq _ _ _ _ (upd H4 t (.tup ((knot fs i).map V.int)))
      generalize upd H4 t (.tup ((knot fs i).map V.int)) = H5 at wa5 hL5 hA5 ht5 sm5 ⊢
      -- if lot not in lots
      have dl : DpAll K H5 (As.map fun q => V.ref q.1) ((As.map (·.2)).map rowD) := dps_of (by rw [List.length_map, List.length_map, List.length_map]) fun j x d e1 e2 => by
        rw [List.getElem?_map] at e1 e2
        rw [List.getElem?_map] at e2
        obtain ⟨q', hq', rfl⟩ := Option.map_eq_some_iff.mp e1
        rw [hq'] at e2
        obtain rfl := Option.some.inj e2
        exact dp_tup (SqT.of (hA5 q' (List.mem_of_getElem? hq')))
      refine ⟨_, rfl, _, rfl, rowD (knot fs i), (As.map fun x : Addr × List Int => x.2).map rowD, dp_tup (SqT.of ht5), (show Dp K H5 (.ref L) (.list ((As.map (·.2)).map rowD)) from .lst (SqL.of hL5) dl), shaped_row _, (shaped_rows _).1, _, rfl, ?_⟩
      rw [any_row]
      refine ite2 (fun e1 => ?_) (fun e1 => ?_)
      · have nm : knot fs i ∉ As.map (·.2) := fun z => by
          rw [decide_eq_true z] at e1
          cases e1
        have tL : t ≠ L := fun z => by
          rw [z, hL5] at ht5
          cases ht5
        refine ⟨_, rfl, .inl ⟨rfl, _, SqL.of hL5⟩, _, rfl, L, _, _, rfl, rfl, hL5, by rw [List.length_map]; exact len_lt (by omega), ?_⟩
        obtain ⟨as, w1, w2, w3⟩ := wa5
        refine ⟨As ++ [(t, knot fs i)], _, _, rfl, same_mut sm5 nL0, ⟨as, ?_, w2, fun j q' r e1 e2 => ?_⟩, ?_, fun q' hq' => ?_, ?_, ?_, fun k => ?_⟩
        · rw [upd_ne (fun z => by rw [z, hL5] at w1; cases w1)]
          exact w1
        · have e3 := w3 j q' r e1 e2
          rw [upd_ne (fun z => by rw [z, hL5] at e3; cases e3)]
          exact e3
        · rw [upd_same, List.map_append]
          rfl
        · have e3 : H5 q'.1 = some (.tup (q'.2.map V.int)) := by
            rcases List.mem_append.mp hq' with z | z
            · exact hA5 q' z
            · rw [List.mem_singleton.mp z]
              exact ht5
          rw [upd_ne (fun z => by rw [z, hL5] at e3; cases e3)]
          exact e3
        · rw [List.map_append]
          refine List.nodup_append.mpr ⟨nd, List.nodup_cons.mpr ⟨List.not_mem_nil, List.nodup_nil⟩, fun x hx y hy e => ?_⟩
          rw [List.mem_singleton.mp hy] at e
          have e' : x = knot fs i := e
          exact nm (by rw [← e']; exact hx)
        · rw [List.length_append]
          exact Nat.succ_le_succ lA
        · rw [List.map_append, List.mem_append, mem k]
          constructor
          · rintro (⟨u, h1, h2⟩ | z)
            · exact ⟨u, by omega, h2⟩
            · exact ⟨i, Nat.lt_succ_self _, List.mem_singleton.mp z⟩
          · rintro ⟨u, h1, h2⟩
            rcases Nat.lt_or_ge u i with y | y
            · exact .inl ⟨u, y, h2⟩
            · obtain rfl : u = i := by omega
              exact .inr (List.mem_singleton.mpr h2)
      · have ym : knot fs i ∈ As.map (·.2) := by
          by_cases z : knot fs i ∈ As.map (·.2)
          · exact z
          · rw [decide_eq_false z] at e1
            exact absurd rfl e1
        refine ⟨As, _, _, rfl, sm5, wa5, hL5, hA5, nd, by omega, fun k => (mem k).trans ⟨fun ⟨u, h1, h2⟩ => ⟨u, by omega, h2⟩, fun ⟨u, h1, h2⟩ => ?_⟩⟩
        rcases Nat.lt_or_ge u i with y | y
        · exact ⟨u, y, h2⟩
        · obtain rfl : u = i := by omega
          rw [h2]
          exact (mem _).mp ym
  · rintro σ H3 ⟨As, x3, x4, rfl, sm, wa3, hL, hA, nd, lA, mem⟩
    have ni : ((xs.length : Nat) : Int).toNat = fs.length := by omega
    rw [ni] at mem
    refine ⟨_, rfl, L, As, rfl, SqL.of hL, fun q' h => SqT.of (hA q' h), fun q' h => ?_, fun L' p2 pm pw np => ⟨p2, _, rfl, .inl ⟨SqL.of upd_same, fun t nt => ?_⟩⟩⟩
    · obtain ⟨u, h1, h2⟩ := (mem q'.2).mp (List.mem_map.mpr ⟨q', h, rfl⟩)
      have su := finds_self ff h1
      intro z
      have m : (u : Int) ∈ knot fs u := List.mem_filter.mpr ⟨su, decide_eq_true su⟩
      rw [← h2, z] at m
      cases m
    · have sa := same_new (o := .lst (L'.map fun q => V.ref q.1)) np
      have sb := sa.trans (same_new (o := .tup (L'.map fun q => V.ref q.1)) nt)
      refine q t (L'.map (·.2)) _ (sm.trans sb) (none_of sm (none_of sa nt)) (webAt_pairs upd_same fun q' h => sb _ _ (hA q' (pm.mem_iff.mp h))) ?_
      have kk : KnotsOf fs (L'.map (·.2)) := ⟨List.pairwise_map.mpr pw, (pm.map (·.2)).nodup_iff.mpr nd, fun k => by rw [(pm.map (·.2)).mem_iff, mem k]⟩
      exact knots_cls hin ff kk
theorem k_lpieces (B : Bl mg) (mmin : mg "min" = none) (D : Dfn K mg "_law_pieces" s_law_pieces ["web"]) : Kept P w K mg base 1 "_law_pieces" ["web"] (spOwn K isPieces) := by
  refine D.keptC (N := N_law_pieces) sc_law_pieces (fun vs H Q E h => ?_) (fun f cdv A outer s H vs Q E hcd hr h => ?_)
  · obtain ⟨p, rows, rfl, _⟩ := h
    rfl
  obtain ⟨p, rows, rfl, gr, h9, hin, r9, q⟩ := h
  refine ⟨_, (pss_cons (ps_set (i := 1) sc_law_pieces.nd rfl (Or.inr rfl) (pe_listRg rfl (by rfl) B.b_list (prg_1 (by rfl) B.b_range (pe_callB call_len_seq (by rfl) B.b_len PySem.boot_len (pa_cons (pv 0) pa_nil)))))
      (pss_cons (ps_for PassesOwn.never rfl (pi_range1 (by rfl) B.b_range (pa_cons (pe_callB call_len_seq (by rfl) B.b_len PySem.boot_len (pa_cons (pv 0) pa_nil)) pa_nil)) (pg_name (i := 2) sc_law_pieces.nd rfl (Or.inl rfl)) (pss_one (ps_for PassesOwn.never rfl (pi_enumT (K := K) rfl (by rfl) B.b_enumerate (pa_cons (pv 0) pa_nil)) (pg_tup rfl (pgs_cons (pg_name (i := 3) sc_law_pieces.nd rfl (Or.inr rfl)) (pgs_cons (pg_name (i := 4) sc_law_pieces.nd rfl (Or.inl rfl)) pgs_nil))) (pss_one (ps_for PassesOwn.never rfl (pi_tup (pv 4)) (pg_name (i := 5) sc_law_pieces.nd rfl (Or.inr rfl)) (pss_cons (ps_set (i := 6) sc_law_pieces.nd rfl (Or.inr rfl) (pe_callB (call_min2 rfl) (by rfl) mmin (by decide +kernel) (pa_cons (pe_ix ix_list (pv 1) (pv 3) (fun _ _ => rfl)) (pa_cons (pe_ix ix_list (pv 1) (pv 5) (fun _ _ => rfl)) pa_nil))))
      (pss_one (ps_set (i := 1) sc_law_pieces.nd rfl (Or.inr rfl) (pe_lc (own := [("name", 7)]) (g := gName 7) (by rfl) sc_law_pieces.nd (pi_list (pv 1)) (blkOk_by (own := [("name", 7)]) (N := N_law_pieces) (sc := defScope s_law_pieces) (by decide +kernel)) (fun _ _ _ _ _ => (pg_name (i := 7) sc_law_pieces.nd rfl (Or.inl rfl))) (fun _ _ _ _ _ => pts_nil) (fun _ _ _ _ _ => (pe_ifExp (pt_cmpR (in_seqK (K := K) rfl) (pv 7) (pe_lst (pa_cons (pe_ix (ix_listK (K := K) rfl) (pv 1) (pv 3) (fun _ _ => rfl)) (pa_cons (pe_ix (ix_listK (K := K) rfl) (pv 1) (pv 5) (fun _ _ => rfl)) pa_nil))) (by rfl)) (pv 6) (pv 7))))))))))))
      (pss_one (ps_ret (pe_callTy call_tuple_of (by rfl) B.b_tuple (by decide +kernel) (pa_cons (pe_callB (sortLT (K := K) rfl (room10 hr)) (by rfl) B.b_sorted (by decide +kernel) (pa_cons (pe_lc (own := [("name", 7)]) (g := gName 7) (by rfl) sc_law_pieces.nd (pi_list (pe_callB (cr_sortedSet rfl) (by rfl) B.b_sorted (by decide +kernel) (pa_cons (pe_callTy (cr_setLI (K := K) (w := w) rfl rfl rfl) (by rfl) B.b_set (by decide +kernel) (pa_cons (pv 1) pa_nil)) pa_nil))) (blkOk_by (own := [("name", 7)]) (N := N_law_pieces) (sc := defScope s_law_pieces) (by decide +kernel)) (fun _ _ _ _ _ => (pg_name (i := 7) sc_law_pieces.nd rfl (Or.inr rfl))) (fun _ _ _ _ _ => pts_nil) (fun _ _ _ _ _ => (pe_callTy (tupleK (K := K) rfl) (by rfl) B.b_tuple (by decide +kernel) (pa_cons (pe_lc (own := [("one", 8)]) (g := gName 8) (by rfl) sc_law_pieces.nd (pi_range1 (by rfl) B.b_range (pa_cons (pe_callB (lenK (K := K) rfl) (by rfl) B.b_len PySem.boot_len (pa_cons (pv 0) pa_nil)) pa_nil)) (blkOk_by (own := [("one", 8)]) (N := N_law_pieces) (by dsimp only [Cx.blk, compEnvC, relabel, cxOf, Cx.nox, envOfC, Env.kindOf]; first | rfl | decide +kernel)) (fun _ _ _ _ _ => (pg_name (i := 8) sc_law_pieces.nd rfl (Or.inl rfl))) (fun _ _ _ _ _ => (pts_one (pt_cmpR op_eq (pe_ix (ix_listK (K := K) rfl) (pv 1) (pv 8) (fun _ _ => rfl)) (pv 7) (nomark _)))) (fun _ _ _ _ _ => (pv 8))) pa_nil)))) pa_nil)) pa_nil)))))), ?_⟩
  have gr0 := gr
  obtain ⟨as, g1, g2, g3⟩ := gr0
  have g1T : SqT K H p (as.map V.ref) := g1
  have hl : (as.map V.ref).length = rows.length := by rw [List.length_map, g2]
  -- names = list(range(len(web)))
  refine ⟨_, rfl, p, _, rfl, .inr g1T, _, rfl, ?_, fun N nN => ?_⟩
  · rw [hl]
    unfold RgOk
    omega
  have er : rgV 0 (((as.map V.ref).length : Nat) : Int) = ((List.range rows.length).map fun (k : Nat) => (k : Int)).map V.int := by
    rw [hl, List.map_map]
    unfold rgV
    rw [show (((rows.length : Nat) : Int) - 0).toNat = rows.length by omega]
    refine List.map_congr_left fun k _ => ?_
    rw [Int.zero_add]
    rfl
  rw [er]
  have s1 := same_new (o := .lst (((List.range rows.length).map fun (k : Nat) => (k : Int)).map V.int)) nN
  have hN1 := upd_same (H := H) (a := N) (o := .lst (((List.range rows.length).map fun (k : Nat) => (k : Int)).map V.int))
  generalize upd H N (.lst (((List.range rows.length).map fun (k : Nat) => (k : Int)).map V.int)) = H1 at s1 hN1 ⊢
  have nn : (((as.map V.ref).length : Nat) : Int).toNat = rows.length := by omega
  refine ⟨_, rfl, p, _, rfl, .inr (s1.seqT g1T), _, rfl, by omega, by omega, ?_⟩
  refine for_range (lo := 0) (n := (((as.map V.ref).length : Nat) : Int).toNat) (fun t σ H' => ∃ (N : Addr) (ns : List Int) (x2 x3 x4 x5 x6 : Option V), σ = [some (.ref p), some (.ref N), x2, x3, x4, x5, x6, none, none] ∧ Same H H' ∧ H' N = some (.lst (ns.map V.int)) ∧
    Nam rows (fun u w => 0 < t ∧ (0 ≤ u ∧ u < (rows.length : Int)) ∧ w ∈ rowAt rows u) ns) ⟨N, _, none, none, none, none, none, rfl, s1, hN1, Nam.start.imp fun u w z => absurd z.1 (Nat.lt_irrefl _)⟩ ?_ ?_
  · rintro t σ H2 ht ⟨N2, ns2, x2, x3, x4, x5, x6, rfl, s2, hN2, nm2⟩
    refine ⟨_, rfl, p, _, rfl, s2.seqT g1T, ?_⟩
    refine for_enumT (xs := as.map V.ref) (fun i σ H' => ∃ (N : Addr) (ns : List Int) (x3 x4 x5 x6 : Option V), σ = [some (.ref p), some (.ref N), some (.int ((0 : Int) + (t : Nat))), x3, x4, x5, x6, none, none] ∧ Same H H' ∧ H' N = some (.lst (ns.map V.int)) ∧
      Nam rows (fun u w => (0 < t ∧ (0 ≤ u ∧ u < (rows.length : Int)) ∧ w ∈ rowAt rows u) ∨ (0 ≤ u ∧ u < (i : Int) ∧ w ∈ rowAt rows u)) ns) ⟨N2, ns2, x3, x4, x5, x6, rfl, s2, hN2, nm2.imp fun u w z => z.elim id fun y => absurd y (by have := y.1; have := y.2.1; omega)⟩ (fun i σ H' z => ?_) ?_ ?_
    · obtain ⟨_, _, _, _, _, _, _, s', _⟩ := z
      exact s'.seqT g1T
    · rintro i x T σ H3 hx ⟨N3, ns3, y3, y4, y5, y6, rfl, s3, hN3, nm3⟩ nT
      rw [List.getElem?_map] at hx
      obtain ⟨pu, hpu, rfl⟩ := Option.map_eq_some_iff.mp hx
      have hi : i < rows.length := by
        have := (List.getElem?_eq_some_iff.mp hpu).1
        omega
      obtain ⟨r, hr'⟩ : ∃ r, rows[i]? = some r := ⟨_, List.getElem?_eq_getElem hi⟩
      have rv : rowAt rows (i : Int) = r := by
        unfold rowAt
        rw [List.getD_eq_getElem?_getD, Int.toNat_natCast, hr']
        rfl
      have hpr : SqT K H pu (r.map V.int) := g3 _ _ _ hpu hr'
      have hi' : 0 ≤ (i : Int) ∧ (i : Int) < (rows.length : Int) := ⟨by omega, by omega⟩
      have sT := same_new (o := .tup [.int (i : Nat), .ref pu]) nT
      have s4 := s3.trans sT
      have hN4 := sT _ _ hN3
      refine ⟨T, _, rfl, SqT.of upd_same, rfl, _, _, rfl, _, _, rfl, rfl, ?_⟩
      generalize upd H3 T (.tup [.int (i : Nat), .ref pu]) = H4 at s4 hN4 ⊢
      refine ⟨_, rfl, pu, rfl, ⟨_, s4.seqT hpr⟩, ?_⟩
      refine for_tup (xs := r.map V.int) (fun j σ H' => ∃ (N : Addr) (ns : List Int) (x5 x6 : Option V), σ = [some (.ref p), some (.ref N), some (.int ((0 : Int) + (t : Nat))), some (.int (i : Nat)), some (.ref pu), x5, x6, none, none] ∧ Same H H' ∧ H' N = some (.lst (ns.map V.int)) ∧
        Nam rows (fun u w => ((0 < t ∧ (0 ≤ u ∧ u < (rows.length : Int)) ∧ w ∈ rowAt rows u) ∨ (0 ≤ u ∧ u < (i : Int) ∧ w ∈ rowAt rows u)) ∨ (u = i ∧ w ∈ r.take j)) ns) ⟨N3, ns3, y5, y6, rfl, s4, hN4, nm3.imp fun u w z => z.elim id fun y => absurd y.2 List.not_mem_nil⟩ (fun j σ H' _ z => ?_) ?_ ?_
      · obtain ⟨_, _, _, _, _, s', _⟩ := z
        exact s'.seqT hpr
      · rintro j x σ H5 hx ⟨N5, ns5, z5, z6, rfl, s5, hN5, nm5⟩
        rw [List.getElem?_map] at hx
        obtain ⟨w0, hw0, rfl⟩ := Option.map_eq_some_iff.mp hx
        have hwr : w0 ∈ rowAt rows (i : Int) := by
          rw [rv]
          exact List.mem_of_getElem? hw0
        have hw9 := row_range hin hwr
        have tkj : r.take (j + 1) = r.take j ++ [w0] := by
          rw [List.take_succ, hw0]
          rfl
        have ln := nm5.len
        have atN : ∀ u : Nat, u < rows.length → atI (ns5.map V.int) (u : Int) = some (.int (ns5.getD u 0)) := fun u hu => by
          refine atI_nat ?_
          rw [List.getElem?_map, List.getD_eq_getElem?_getD, List.getElem?_eq_getElem (by omega)]
          rfl
        have ew : w0 = ((w0.toNat : Nat) : Int) := by omega
        have at1 := atN i hi
        have at2 : atI (ns5.map V.int) w0 = some (.int (ns5.getD w0.toNat 0)) := by
          rw [ew]
          exact atN w0.toNat (by omega)
        -- least = min(..)
        refine ⟨_, rfl, _, rfl, N5, _, _, _, rfl, rfl, SqL.of hN5, at1, _, rfl, _, rfl, N5, _, _, _, rfl, rfl, SqL.of hN5, at2, _, _, rfl, ?_⟩
        have hm : (if ns5.getD w0.toNat 0 < ns5.getD i 0 then ns5.getD w0.toNat 0 else ns5.getD i 0) = ns5.getD (i : Int).toNat 0 ∨ (if ns5.getD w0.toNat 0 < ns5.getD i 0 then ns5.getD w0.toNat 0 else ns5.getD i 0) = ns5.getD w0.toNat 0 := by
          rw [Int.toNat_natCast]
          split
          · exact .inr rfl
          · exact .inl rfl
        generalize (if ns5.getD w0.toNat 0 < ns5.getD i 0 then ns5.getD w0.toNat 0 else ns5.getD i 0) = m0 at hm ⊢
        -- names = [..]
        refine ⟨_, rfl, N5, rfl, ⟨_, SqL.of hN5⟩, fun D nD => ?_⟩
        have nD0 := none_of s5 nD
        refine lc_list (xs := ns5.map V.int) (fun k H' => Same H5 H' ∧ H' D = some (.lst ((((ns5.take k).map (merge (ns5.getD i 0) (ns5.getD w0.toNat 0) m0))).map V.int))) ⟨same_new nD, upd_same⟩ (fun k H' _ z => SqL.of (z.1 _ _ hN5)) ?_ ?_
        · rintro k x H6 hx' ⟨s6, hD⟩
          rw [List.getElem?_map] at hx'
          obtain ⟨v, hv, rfl⟩ := Option.map_eq_some_iff.mp hx'
          have hk := (List.getElem?_eq_some_iff.mp hv).1
          have tk : ns5.take (k + 1) = ns5.take k ++ [v] := by
            rw [List.take_succ, hv]
            rfl
          have hN6 := s6 _ _ hN5
          refine ⟨rfl, _, rfl, _, rfl, _, rfl, N5, _, _, _, rfl, rfl, SqL.of hN6, at1, _, rfl, _, rfl, N5, _, _, _, rfl, rfl, SqL.of hN6, at2, len_le (by decide : 2 ≤ 1000), fun l nl => ?_⟩
          have sl := same_new (o := .lst [.int (ns5.getD i 0), .int (ns5.getD w0.toNat 0)]) nl
          have hD7 := sl _ _ hD
          have s7 := s6.trans sl
          have sz : (((ns5.take k).map (merge (ns5.getD i 0) (ns5.getD w0.toNat 0) m0)).map V.int).length < sizeLine := by
            rw [List.length_map, List.length_map, List.length_take]
            exact len_lt (by omega)
          refine ⟨l, _, rfl, .inl (SqL.of upd_same), rfl, rfl, _, rfl, ?_⟩
          have ei : inV (.int v) [V.int (ns5.getD i 0), V.int (ns5.getD w0.toNat 0)] = decide (v ∈ [ns5.getD i 0, ns5.getD w0.toNat 0]) := inV_ints v [ns5.getD i 0, ns5.getD w0.toNat 0]
          have step : ∀ y : Int, merge (ns5.getD i 0) (ns5.getD w0.toNat 0) m0 v = y → Same H5 (upd (upd H6 l (.lst [.int (ns5.getD i 0), .int (ns5.getD w0.toNat 0)])) D (.lst ((((ns5.take k).map (merge (ns5.getD i 0) (ns5.getD w0.toNat 0) m0))).map V.int ++ [.int y]))) ∧
              upd (upd H6 l (.lst [.int (ns5.getD i 0), .int (ns5.getD w0.toNat 0)])) D (.lst ((((ns5.take k).map (merge (ns5.getD i 0) (ns5.getD w0.toNat 0) m0))).map V.int ++ [.int y])) D = some (.lst ((((ns5.take (k + 1)).map (merge (ns5.getD i 0) (ns5.getD w0.toNat 0) m0))).map V.int)) := fun y hy => by
            refine ⟨same_mut s7 nD, ?_⟩
            rw [upd_same, tk, List.map_append, List.map_append, ← hy]
            rfl
          refine ite2 (fun e1 => ⟨_, rfl, _, hD7, sz, step _ ?_⟩) (fun e1 => ⟨_, rfl, _, hD7, sz, step _ ?_⟩)
          · unfold merge
            rw [if_pos]
            exact of_decide_eq_true (ei.symm.trans e1)
          · unfold merge
            rw [if_neg]
            intro z
            exact e1 (ei.trans (decide_eq_true z))
        · rintro H6 ⟨s6, hD⟩
          rw [List.length_map, List.take_length] at hD
          refine ⟨D, _, _, _, rfl, s5.trans s6, hD, ?_⟩
          have z := nm5.merge hin hi' hwr hm (Pe' := fun u w => ((0 < t ∧ (0 ≤ u ∧ u < (rows.length : Int)) ∧ w ∈ rowAt rows u) ∨ (0 ≤ u ∧ u < (i : Int) ∧ w ∈ rowAt rows u)) ∨ (u = i ∧ w ∈ r.take (j + 1))) (fun x y h => ?_) (fun x y h => ?_)
          · rw [Int.toNat_natCast] at z
            exact z
          · rcases h with (h | h) | h
            · exact ⟨h.2.1, row_range hin h.2.2⟩
            · exact ⟨⟨h.1, by have := h.2.1; omega⟩, row_range hin h.2.2⟩
            · refine ⟨by rw [h.1]; exact hi', row_range hin (v := (i : Int)) ?_⟩
              rw [rv]
              exact List.mem_of_mem_take h.2
          · rcases h with h | ⟨h1, h2⟩
            · exact .inl (.inl h)
            · rw [tkj] at h2
              rcases List.mem_append.mp h2 with y | y
              · exact .inl (.inr ⟨h1, y⟩)
              · exact .inr ⟨h1, List.mem_singleton.mp y⟩
      · rintro σ H5 ⟨N5, ns5, z5, z6, rfl, s5, hN5, nm5⟩
        rw [List.length_map, List.take_length] at nm5
        refine ⟨N5, ns5, _, _, _, _, rfl, s5, hN5, nm5.imp fun u w z => ?_⟩
        rcases z with z | ⟨z1, z2, z3⟩
        · exact .inl (.inl z)
        · rcases Int.lt_or_le u (i : Int) with y | y
          · exact .inl (.inr ⟨z1, y, z3⟩)
          · obtain rfl : u = (i : Int) := by omega
            refine .inr ⟨rfl, ?_⟩
            rw [← rv]
            exact z3
    · rintro σ H3 ⟨N3, ns3, y3, y4, y5, y6, rfl, s3, hN3, nm3⟩
      rw [hl] at nm3
      exact ⟨N3, ns3, _, _, _, _, _, rfl, s3, hN3, nm3.imp fun u w z => .inr ⟨z.2.1.1, z.2.1.2, z.2.2⟩⟩
  · rintro σ H2 ⟨N2, ns2, x2, x3, x4, x5, x6, rfl, s2, hN2, nm2⟩
    rw [nn] at nm2
    have nmA : Nam rows (fun u w => (0 ≤ u ∧ u < (rows.length : Int)) ∧ w ∈ rowAt rows u) ns2 := nm2.imp fun u w z => ⟨by have := z.1; omega, z⟩
    have ln := nmA.len
    -- sorted(set(names))
    refine ⟨_, rfl, N2, ns2, rfl, .inl (SqL.of hN2), by omega, fun S c nS hc => ⟨S, _, c, rfl, upd_same, by omega, fun out l pw mem lc nl => ?_⟩⟩
    have sS := (same_new (o := SetO w S (fun j => decide (j ∈ ns2)) c) nS).trans (same_new (o := .lst (out.map V.int)) nl)
    have hl2 := upd_same (H := upd H2 S (SetO w S (fun j => decide (j ∈ ns2)) c)) (a := l) (o := .lst (out.map V.int))
    have s3 := s2.trans sS
    have hN3 := sS _ _ hN2
    refine ⟨l, rfl, ⟨_, SqL.of hl2⟩, fun L nL => ?_⟩
    generalize upd (upd H2 S (SetO w S (fun j => decide (j ∈ ns2)) c)) l (.lst (out.map V.int)) = H3 at s3 hN3 hl2 nL ⊢
    have nL0 := none_of s3 nL
    have mem' : ∀ x, x ∈ out ↔ x ∈ ns2 := fun x => (mem x).trans decide_eq_true_iff
    refine lc_list (xs := out.map V.int) (fun i H' => ∃ As : List (Addr × List Int), Same H3 H' ∧ H' L = some (.lst (As.map fun q => V.ref q.1)) ∧ (∀ q ∈ As, H' q.1 = some (.tup (q.2.map V.int))) ∧ As.map (·.2) = (out.take i).map (lot ns2 rows.length)) ⟨[], same_new nL, upd_same, fun q h => absurd h List.not_mem_nil, rfl⟩ (fun i H' _ z => SqL.of (z.choose_spec.1 _ _ hl2)) ?_ ?_
    · rintro i x H4 hx ⟨As, s4, hL, hA, eA⟩
      rw [List.getElem?_map] at hx
      obtain ⟨nm, hnm, rfl⟩ := Option.map_eq_some_iff.mp hx
      have hio := (List.getElem?_eq_some_iff.mp hnm).1
      have lA : As.length = i := by
        have := congrArg List.length eA
        rw [List.length_map, List.length_map, List.length_take] at this
        omega
      have tk : out.take (i + 1) = out.take i ++ [nm] := by
        rw [List.take_succ, hnm]
        rfl
      refine ⟨rfl, _, rfl, p, _, rfl, .inr (s4.seqT (s3.seqT g1T)), _, rfl, by omega, by omega, fun D nD => ?_⟩
      refine lc_range (lo := 0) (n := (((as.map V.ref).length : Nat) : Int).toNat) (fun j H' => Same H4 H' ∧ H' D = some (.lst ((lot ns2 j nm).map V.int))) ⟨same_new nD, upd_same⟩ ?_ ?_
      · rintro j H5 hj ⟨s5, hD⟩
        have hj' : j < rows.length := by omega
        have atj : atI (ns2.map V.int) ((0 : Int) + (j : Nat)) = some (.int (ns2.getD j 0)) := by
          rw [Int.zero_add]
          refine atI_nat ?_
          rw [List.getElem?_map, List.getD_eq_getElem?_getD, List.getElem?_eq_getElem (by omega)]
          rfl
        refine ⟨rfl, _, rfl, _, rfl, N2, _, _, _, rfl, rfl, SqL.of (s5 _ _ (s4 _ _ hN3)), atj, _, rfl, rfl, _, rfl, ?_⟩
        have few : (lot ns2 j nm).length ≤ j := by
          unfold lot
          rw [List.length_map]
          have := List.length_filter_le (fun i => decide (ns2.getD i 0 = nm)) (List.range j)
          rw [List.length_range] at this
          exact this
        refine ite2 (fun e1 => ⟨_, rfl, _, hD, by rw [List.length_map]; exact len_lt (by omega), same_mut s5 nD, ?_⟩) (fun e1 => ⟨s5, ?_⟩)
        · have e2 : ns2.getD j 0 = nm := V.int.inj (of_decide_eq_true e1)
          rw [upd_same, lot_succ, if_pos e2, List.map_append, Int.zero_add]
          rfl
        · have e2 : ¬ ns2.getD j 0 = nm := fun z => e1 (decide_eq_true (by rw [z]))
          rw [lot_succ, if_neg e2]
          exact hD
      · rintro H5 ⟨s5, hD⟩
        rw [nn] at hD
        refine ⟨D, _, rfl, .inl ⟨SqL.of hD, fun t nt => ?_⟩⟩
        have st := same_new (o := .tup ((lot ns2 rows.length nm).map V.int)) nt
        have s6 := s5.trans st
        have hL6 := s6 _ _ hL
        refine ⟨_, hL6, by rw [List.length_map]; exact len_lt (by omega), As ++ [(t, lot ns2 rows.length nm)], same_mut (s4.trans s6) nL, by rw [upd_same, List.map_append]; rfl, fun q' hq' => ?_, by rw [List.map_append, eA, tk, List.map_append]; rfl⟩
        · have e3 : upd H5 t (.tup ((lot ns2 rows.length nm).map V.int)) q'.1 = some (.tup (q'.2.map V.int)) := by
            rcases List.mem_append.mp hq' with z | z
            · exact s6 _ _ (hA q' z)
            · rw [List.mem_singleton.mp z]
              exact upd_same
          rw [upd_ne (fun z => by rw [z, hL6] at e3; cases e3)]
          exact e3
    · rintro H4 ⟨As, s4, hL, hA, eA⟩
      rw [List.length_map, List.take_length] at eA
      refine ⟨L, As, rfl, SqL.of hL, fun q' h => SqT.of (hA q' h), fun q' h => ?_, fun L' p2 pm pw2 np => ⟨p2, _, rfl, .inl ⟨SqL.of upd_same, fun t nt => ?_⟩⟩⟩
      · have m : q'.2 ∈ out.map (lot ns2 rows.length) := by
          rw [← eA]
          exact List.mem_map.mpr ⟨q', h, rfl⟩
        obtain ⟨x, hx, e⟩ := List.mem_map.mp m
        obtain ⟨j, hj, rfl⟩ := mem_getD.mp ((mem' x).mp hx)
        intro z
        have m2 : (j : Int) ∈ lot ns2 rows.length (ns2.getD j 0) := mem_lot.mpr ⟨j, by omega, rfl, rfl⟩
        rw [e, z] at m2
        cases m2
      · have sa := same_new (o := .lst (L'.map fun q => V.ref q.1)) np
        have sb := sa.trans (same_new (o := .tup (L'.map fun q => V.ref q.1)) nt)
        have s34 := s3.trans s4
        refine q t (L'.map (·.2)) _ (s34.trans sb) (none_of s34 (none_of sa nt)) (webAt_pairs upd_same fun q' h => sb _ _ (hA q' (pm.mem_iff.mp h))) ?_
        exact lots_pieces nmA hin (pw.imp fun z => Int.ne_of_lt z) mem' (by rw [← eA]; exact pm.map (·.2)) (List.pairwise_map.mpr pw2)
end
end Lw

set_option maxHeartbeats 4000000
/-! people called otherwise -/
namespace Hn
open PySem PySem.Spec PyProof.Rows L2 EF
open PySem.W (Frag keepIn)
def nm (ns : List Int) (x : Int) : Int := ns.getD x.toNat 0
/-- ns is a turn of the n people -/
structure Turn (n : Nat) (ns : List Int) : Prop where
  len : ns.length = n
  nd : ns.Nodup
  rg : ∀ x ∈ ns, 0 ≤ x ∧ x < (n : Int)
section
variable {n : Nat} {ns : List Int}
theorem Turn.at (t : Turn n ns) {x : Int} (h : 0 ≤ x ∧ x < (n : Int)) : ns[x.toNat]? = some (nm ns x) := by
  have hl := t.len
  unfold nm
  rw [List.getD_eq_getElem?_getD, List.getElem?_eq_getElem (by omega)]
  rfl
theorem Turn.range (t : Turn n ns) {x : Int} (h : 0 ≤ x ∧ x < (n : Int)) : 0 ≤ nm ns x ∧ nm ns x < (n : Int) := t.rg _ (List.mem_of_getElem? (t.at h))
theorem Turn.inj (t : Turn n ns) {x y : Int} (hx : 0 ≤ x ∧ x < (n : Int)) (hy : 0 ≤ y ∧ y < (n : Int)) (e : nm ns x = nm ns y) : x = y := by
  have h1 := t.at hx
  have h2 := t.at hy
  rw [e] at h1
  obtain ⟨a1, b1⟩ := List.getElem?_eq_some_iff.mp h1
  obtain ⟨a2, b2⟩ := List.getElem?_eq_some_iff.mp h2
  have z : x.toNat = y.toNat := by
    rcases Nat.lt_trichotomy x.toNat y.toNat with z | z | z
    · exact absurd (b1.trans b2.symm) (List.pairwise_iff_getElem.mp t.nd _ _ a1 a2 z)
    · exact z
    · exact absurd (b2.trans b1.symm) (List.pairwise_iff_getElem.mp t.nd _ _ a2 a1 z)
  omega
theorem Turn.surj (t : Turn n ns) {k : Int} (h : 0 ≤ k ∧ k < (n : Int)) : ∃ j : Nat, j < n ∧ nm ns j = k := by
  have hm : k ∈ ns := by
    refine Classical.byContradiction fun m => ?_
    have nd2 : (k :: ns).Nodup := List.nodup_cons.mpr ⟨m, t.nd⟩
    have z := few_below nd2 (n := n) fun x hx => by
      rcases List.mem_cons.mp hx with y | y
      · rw [y]
        exact h
      · exact t.rg x y
    rw [List.length_cons, t.len] at z
    omega
  obtain ⟨j, hj, e⟩ := List.getElem_of_mem hm
  rw [t.len] at hj
  refine ⟨j, hj, ?_⟩
  unfold nm
  rw [Int.toNat_natCast, List.getD_eq_getElem?_getD, List.getElem?_eq_getElem (by rw [t.len]; exact hj), e]
  rfl
end
/-- k' is k, called otherwise, ascending -/
def Img (ns : List Int) (k k' : List Int) : Prop := k'.Pairwise (· < ·) ∧ ∀ w, w ∈ k' ↔ ∃ x ∈ k, w = nm ns x
/-- the rows, called otherwise -/
def Called (ns : List Int) (rows rows' : List (List Int)) : Prop := rows'.length = rows.length ∧ ∀ i : Nat, i < rows.length → Img ns (rowAt rows i) (rowAt rows' (nm ns i))
section
variable {ns : List Int} {rows rows' fs gs : List (List Int)}
theorem Called.img (c : Called ns rows rows') {v : Int} (h : 0 ≤ v ∧ v < (rows.length : Int)) : Img ns (rowAt rows v) (rowAt rows' (nm ns v)) := by
  have z := c.2 v.toNat (by omega)
  rw [show ((v.toNat : Nat) : Int) = v by omega] at z
  exact z
theorem Called.reach (c : Called ns rows rows') (t : Turn rows.length ns) (hin : InRange rows) {u : Int} (hu : 0 ≤ u ∧ u < (rows.length : Int)) (y : Int) : Reach rows' (nm ns u) y ↔ ∃ w, Reach rows u w ∧ y = nm ns w := by
  constructor
  · intro r
    induction r with
    | refl => exact ⟨u, .refl, rfl⟩
    | step _ hw ih =>
      obtain ⟨v, rv, rfl⟩ := ih
      obtain ⟨x, hx, rfl⟩ := ((c.img (rv.range hin hu)).2 _).mp hw
      exact ⟨x, .step rv hx, rfl⟩
  · rintro ⟨w, r, rfl⟩
    induction r with
    | refl => exact .refl
    | step a hw ih => exact .step ih (((c.img (a.range hin hu)).2 _).mpr ⟨_, hw, rfl⟩)
theorem Called.joined (c : Called ns rows rows') (t : Turn rows.length ns) (hin : InRange rows) {u : Int} (hu : 0 ≤ u ∧ u < (rows.length : Int)) (y : Int) : Joined rows' (nm ns u) y ↔ ∃ w, Joined rows u w ∧ y = nm ns w := by
  constructor
  · intro r
    induction r with
    | refl => exact ⟨u, .refl, rfl⟩
    | fwd _ hw ih =>
      obtain ⟨v, rv, rfl⟩ := ih
      obtain ⟨x, hx, rfl⟩ := ((c.img (rv.range hin hu)).2 _).mp hw
      exact ⟨x, .fwd rv hx, rfl⟩
    | @bwd v' y' _ h1 h2 hw ih =>
      obtain ⟨v, rv, rfl⟩ := ih
      rw [c.1] at h2
      obtain ⟨j, hj, rfl⟩ := t.surj ⟨h1, h2⟩
      have hj' : 0 ≤ (j : Int) ∧ (j : Int) < (rows.length : Int) := ⟨by omega, by omega⟩
      obtain ⟨x, hx, e⟩ := ((c.img hj').2 _).mp hw
      have g := rv.range hin hu
      have gx := row_range hin hx
      have e2 := t.inj g gx e
      rw [← e2] at hx
      exact ⟨j, .bwd rv hj'.1 hj'.2 hx, rfl⟩
  · rintro ⟨w, r, rfl⟩
    induction r with
    | refl => exact .refl
    | fwd a hw ih => exact .fwd ih (((c.img (a.range hin hu)).2 _).mpr ⟨_, hw, rfl⟩)
    | bwd a h1 h2 hw ih =>
      have g := t.range ⟨h1, h2⟩
      exact .bwd ih g.1 (by rw [c.1]; exact g.2) (((c.img ⟨h1, h2⟩).2 _).mpr ⟨_, hw, rfl⟩)
theorem Called.mutual (c : Called ns rows rows') (t : Turn rows.length ns) (hin : InRange rows) {u : Int} (hu : 0 ≤ u ∧ u < (rows.length : Int)) (y : Int) : Mutual rows' (nm ns u) y ↔ ∃ w, Mutual rows u w ∧ y = nm ns w := by
  constructor
  · rintro ⟨h1, h2⟩
    obtain ⟨w, rw', rfl⟩ := (c.reach t hin hu y).mp h1
    have g := rw'.range hin hu
    obtain ⟨x, rx, e⟩ := (c.reach t hin g _).mp h2
    have e2 := t.inj hu (rx.range hin g) e
    rw [← e2] at rx
    exact ⟨w, ⟨rw', rx⟩, rfl⟩
  · rintro ⟨w, ⟨h1, h2⟩, rfl⟩
    exact ⟨(c.reach t hin hu _).mpr ⟨w, h1, rfl⟩, (c.reach t hin (h1.range hin hu) _).mpr ⟨u, h2, rfl⟩⟩
end
/-- the classes of people called otherwise -/
theorem ClassList.called {n : Nat} {ns : List Int} {R R' : Int → Int → Prop} {ks ms ks' : List (List Int)} (a : ClassList n R ks) (t : Turn n ns) (hR : ∀ u : Nat, u < n → ∀ y, R' (nm ns u) y ↔ ∃ w, R u w ∧ y = nm ns w) (rg : ∀ (u : Nat) (w : Int), u < n → R u w → 0 ≤ w ∧ w < (n : Int))
    (hl : ms.length = ks.length) (hm : ∀ (i : Nat) (k m : List Int), ks[i]? = some k → ms[i]? = some m → Img ns k m) (pm : ks'.Perm ms) (srt : ks'.Pairwise fun q r => ¬ r < q) : ClassList n R' ks' := by
  have get : ∀ (i : Nat), i < ks.length → ∃ k m, ks[i]? = some k ∧ ms[i]? = some m ∧ Img ns k m := fun i hi => by
    have e1 : ks[i]? = some (ks[i]'hi) := List.getElem?_eq_getElem hi
    have e2 : ms[i]? = some (ms[i]'(by omega)) := List.getElem?_eq_getElem (by omega)
    exact ⟨_, _, e1, e2, hm i _ _ e1 e2⟩
  have cls : ∀ (u : Nat) (k m : List Int), u < n → IsCls R u k → Img ns k m → IsCls R' (nm ns u) m := fun u k m hu c im => ⟨im.1, fun y => by
    rw [im.2 y, hR u hu y]
    exact ⟨fun ⟨x, hx, e⟩ => ⟨x, (c.2 x).mp hx, e⟩, fun ⟨x, hx, e⟩ => ⟨x, (c.2 x).mpr hx, e⟩⟩⟩
  refine ⟨srt, pm.nodup_iff.mpr ?_, fun m hm' => ?_, fun u hu => ?_⟩
  · refine List.pairwise_iff_getElem.mpr fun i j hi hj ij e => ?_
    obtain ⟨k, m, e1, e2, im⟩ := get i (by omega)
    obtain ⟨k', m', e1', e2', im'⟩ := get j (by omega)
    obtain ⟨_, f1⟩ := List.getElem?_eq_some_iff.mp e1
    obtain ⟨_, f2⟩ := List.getElem?_eq_some_iff.mp e2
    obtain ⟨_, f1'⟩ := List.getElem?_eq_some_iff.mp e1'
    obtain ⟨_, f2'⟩ := List.getElem?_eq_some_iff.mp e2'
    rw [f2, f2'] at e
    subst e
    obtain ⟨u, hu, c⟩ := a.cls k (List.mem_of_getElem? e1)
    obtain ⟨u', hu', c'⟩ := a.cls k' (List.mem_of_getElem? e1')
    have ek : k = k' := asc_ext c.1 c'.1 fun x => by
      constructor
      · intro hx
        obtain ⟨x', hx', e⟩ := (im'.2 _).mp ((im.2 _).mpr ⟨x, hx, rfl⟩)
        rw [t.inj (rg u x hu ((c.2 x).mp hx)) (rg u' x' hu' ((c'.2 x').mp hx')) e]
        exact hx'
      · intro hx
        obtain ⟨x', hx', e⟩ := (im.2 _).mp ((im'.2 _).mpr ⟨x, hx, rfl⟩)
        rw [t.inj (rg u' x hu' ((c'.2 x).mp hx)) (rg u x' hu ((c.2 x').mp hx')) e]
        exact hx'
    rw [← ek] at f1'
    exact List.pairwise_iff_getElem.mp a.nd i j (by omega) (by omega) ij (f1.trans f1'.symm)
  · obtain ⟨i, hi, e⟩ := List.getElem_of_mem (pm.mem_iff.mp hm')
    obtain ⟨k, m', e1, e2, im⟩ := get i (by omega)
    obtain ⟨_, f2⟩ := List.getElem?_eq_some_iff.mp e2
    obtain ⟨u, hu, c⟩ := a.cls k (List.mem_of_getElem? e1)
    have z := cls u k m' hu c im
    have g := t.range (x := (u : Int)) ⟨by omega, by omega⟩
    refine ⟨(nm ns u).toNat, by omega, ?_⟩
    rw [show (((nm ns u).toNat : Nat) : Int) = nm ns u by omega, ← e, f2]
    exact z
  · obtain ⟨j, hj, e⟩ := t.surj (k := (u : Int)) ⟨by omega, by omega⟩
    obtain ⟨k, hk, c⟩ := a.all j hj
    obtain ⟨i, hi, f⟩ := List.getElem_of_mem hk
    obtain ⟨k2, m, e1, e2, im⟩ := get i hi
    obtain ⟨_, f1⟩ := List.getElem?_eq_some_iff.mp e1
    have ek : k2 = k := f1.symm.trans f
    rw [ek] at im
    refine ⟨m, pm.mem_iff.mpr (List.mem_of_getElem? e2), ?_⟩
    rw [← e]
    exact cls j k m hj c im
end Hn

set_option maxHeartbeats 4000000
namespace Hn
open PySem PySem.Spec PyProof.Rows L2 EF
open PySem.W (Frag keepIn)
theorem sortIK {X : Cx} {K : Frag} (h : X.K = K) : CallR X (.builtin "sorted") (rSorted K) := by subst h; exact cr_sorted
end Hn
namespace Lw
open PySem PySem.Spec PyProof.Rows L2 EF Hn
open PySem.W (Frag keepIn)
abbrev s_law_is_told : Stmt := top 36
abbrev N_law_is_told : List Str := ["web"]
theorem sc_law_is_told : FnScope N_law_is_told ["web"] (defScope s_law_is_told) := ⟨rfl, rfl, rfl, by decide +kernel, rfl, by decide +kernel, by decide +kernel⟩
abbrev s_law_are_kept : Stmt := top 32
abbrev N_law_are_kept : List Str := ["here", "there", "one", "at", "lot"]
theorem sc_law_are_kept : FnScope N_law_are_kept ["here", "there"] (defScope s_law_are_kept) := ⟨rfl, rfl, rfl, by decide +kernel, rfl, by decide +kernel, by decide +kernel⟩
abbrev s_law_called : Stmt := top 34
abbrev N_law_called : List Str := ["web", "names", "made", "person", "pocket", "other"]
theorem sc_law_called : FnScope N_law_called ["web", "names"] (defScope s_law_called) := ⟨rfl, rfl, rfl, by decide +kernel, rfl, by decide +kernel, by decide +kernel⟩
abbrev s_law_lots : Stmt := top 35
abbrev N_law_lots : List Str := ["lots", "names", "one", "lot"]
theorem sc_law_lots : FnScope N_law_lots ["lots", "names"] (defScope s_law_lots) := ⟨rfl, rfl, rfl, by decide +kernel, rfl, by decide +kernel, by decide +kernel⟩
abbrev s_law_turned_about : Stmt := top 37
abbrev N_law_turned_about : List Str := ["web", "one", "person"]
theorem sc_law_turned_about : FnScope N_law_turned_about ["web"] (defScope s_law_turned_about) := ⟨rfl, rfl, rfl, by decide +kernel, rfl, by decide +kernel, by decide +kernel⟩
abbrev s_law_small : Stmt := top 33
abbrev N_law_small : List Str := ["number", "web", "person", "others", "other", "bits", "at"]
theorem sc_law_small : FnScope N_law_small ["number"] (defScope s_law_small) := ⟨rfl, rfl, rfl, by decide +kernel, rfl, by decide +kernel, by decide +kernel⟩
theorem finds_uniq {rows fs gs : List (List Int)} (a : Finds rows fs) (b : Finds rows gs) : fs = gs := by
  refine List.ext_getElem? fun i => ?_
  rcases Nat.lt_or_ge i fs.length with h | h
  · have e1 : fs[i]? = some (fs[i]'h) := List.getElem?_eq_getElem h
    have e2 : gs[i]? = some (gs[i]'(by have := a.1; have := b.1; omega)) := List.getElem?_eq_getElem (by have := a.1; have := b.1; omega)
    rw [e1, e2]
    congr 1
    have z1 := a.2 i _ e1
    have z2 := b.2 i _ e2
    exact asc_ext z1.1 z2.1 fun k => (z1.2.1 k).trans (z2.2.1 k).symm
  · rw [List.getElem?_eq_none h, List.getElem?_eq_none (by have := a.1; have := b.1; omega)]
theorem rowAt_get {rows : List (List Int)} {i : Nat} (h : i < rows.length) : rows[i]? = some (rowAt rows (i : Nat)) := by
  unfold rowAt
  rw [List.getD_eq_getElem?_getD, Int.toNat_natCast, List.getElem?_eq_getElem h]
  rfl
theorem cls_few {n : Nat} {R : Int → Int → Prop} {ks : List (List Int)} (a : ClassList n R ks) (rg : ∀ (u : Nat) (w : Int), u < n → R u w → 0 ≤ w ∧ w < (n : Int)) : (∀ k ∈ ks, k.length ≤ n) := fun k hk => by
  obtain ⟨u, hu, c⟩ := a.cls k hk
  exact few_below (c.1.imp fun z => Int.ne_of_lt z) fun w hw => rg u w hu ((c.2 w).mp hw)
theorem cls_len {n : Nat} {R : Int → Int → Prop} {ks : List (List Int)} (a : ClassList n R ks) : ks.length ≤ n := by
  have h : ∀ k ∈ ks, ∃ u : Nat, u < n ∧ IsCls R u k := a.cls
  have : ks.length ≤ (List.range n).length := by
    have e : ks ⊆ (List.range n).map fun (u : Nat) => (Classical.epsilon fun k => k ∈ ks ∧ IsCls R u k) := fun k hk => by
      obtain ⟨u, hu, c⟩ := h k hk
      refine List.mem_map.mpr ⟨u, List.mem_range.mpr hu, ?_⟩
      have z := Classical.epsilon_spec (p := fun k => k ∈ ks ∧ IsCls R u k) ⟨k, hk, c⟩
      exact z.2.uniq c
    have := List.Nodup.length_le_of_subset a.nd e
    rw [List.length_map] at this
    exact this
  rw [List.length_range] at this
  exact this
theorem choose_rows {vals : List V} {n : Nat} {Q : Nat → Addr → List Int → Prop} (hl : vals.length = n) (h : ∀ k, k < n → ∃ t r, vals[k]? = some (.ref t) ∧ Q k t r) :
    ∃ (as : List Addr) (rows' : List (List Int)), vals = as.map V.ref ∧ as.length = n ∧ rows'.length = n ∧ ∀ (k : Nat) (t : Addr) (r : List Int), as[k]? = some t → rows'[k]? = some r → Q k t r := by
  let fa : Nat → Addr := fun k => Classical.epsilon fun t => ∃ r, vals[k]? = some (.ref t) ∧ Q k t r
  let fr : Nat → List Int := fun k => Classical.epsilon fun r => vals[k]? = some (.ref (fa k)) ∧ Q k (fa k) r
  have ha : ∀ k, k < n → ∃ r, vals[k]? = some (.ref (fa k)) ∧ Q k (fa k) r := fun k hk => Classical.epsilon_spec (p := fun t => ∃ r, vals[k]? = some (.ref t) ∧ Q k t r) (h k hk)
  have hr : ∀ k, k < n → vals[k]? = some (.ref (fa k)) ∧ Q k (fa k) (fr k) := fun k hk => Classical.epsilon_spec (p := fun r => vals[k]? = some (.ref (fa k)) ∧ Q k (fa k) r) (ha k hk)
  refine ⟨(List.range n).map fa, (List.range n).map fr, ?_, by rw [List.length_map, List.length_range], by rw [List.length_map, List.length_range], fun k t r e1 e2 => ?_⟩
  · refine List.ext_getElem? fun k => ?_
    rcases Nat.lt_or_ge k n with z | z
    · rw [(hr k z).1, List.getElem?_map, List.getElem?_map, List.getElem?_range z]
      rfl
    · rw [List.getElem?_eq_none (by omega), List.getElem?_eq_none (by rw [List.length_map, List.length_map, List.length_range]; exact z)]
  · have z : k < n := by
      have := (List.getElem?_eq_some_iff.mp e1).1
      rw [List.length_map, List.length_range] at this
      exact this
    rw [List.getElem?_map, List.getElem?_range z] at e1 e2
    rw [← Option.some.inj e1, ← Option.some.inj e2]
    exact (hr k z).2
theorem ixN_nat {n : Nat} {k : Int} (h0 : 0 ≤ k) (h1 : k < (n : Int)) : ixN n k = some k.toNat := by
  unfold ixN
  rw [if_pos h0, if_pos (by omega)]
theorem perm_img {ns r ys : List Int} {n : Nat} (t : Turn n ns) (nd : r.Nodup) (rg : ∀ x ∈ r, 0 ≤ x ∧ x < (n : Int)) (pm : ys.Perm (r.map (nm ns))) (pw : ys.Pairwise (· ≤ ·)) : Img ns r ys := by
  have nd2 : ys.Nodup := pm.nodup_iff.mpr (List.pairwise_map.mpr (nd.imp_of_mem fun {x y} hx hy ne e => ne (t.inj (rg x hx) (rg y hy) e)))
  refine ⟨(pw.and nd2).imp fun h => ?_, fun w => ?_⟩
  · have h1 := h.1
    have h2 := h.2
    omega
  · rw [pm.mem_iff, List.mem_map]
    exact ⟨fun ⟨x, hx, e⟩ => ⟨x, hx, e.symm⟩, fun ⟨x, hx, e⟩ => ⟨x, hx, e.symm⟩⟩
theorem _root_.Hn.Turn.atI {n : Nat} {ns : List Int} (t : Turn n ns) {x : Int} (h : 0 ≤ x ∧ x < (n : Int)) : atI (ns.map V.int) x = some (.int (nm ns x)) := by
  have e : x = ((x.toNat : Nat) : Int) := by omega
  rw [e]
  refine atI_nat ?_
  rw [List.getElem?_map, t.at h, ← e]
  rfl
def spTold : Sp := fun vs H Q _ => ∃ (p : Addr) (rows : List (List Int)), vs = [.ref p] ∧ WebAt H p rows ∧ WebRows rows ∧ ∀ H', Same H H' → Q (.bl true) H'
def spKept (K : Frag) : Sp := fun vs H Q _ => ∃ (p q : Addr) (fs gs : List (List Int)), vs = [.ref p, .ref q] ∧ Grid K true H p fs ∧ Grid K true H q gs ∧ fs.length ≤ 9 ∧ fs.length = gs.length ∧ (∀ r ∈ fs, r.length ≤ 9) ∧ (∀ i : Nat, i < fs.length → ∀ x ∈ rowAt fs i, x ∈ rowAt gs i) ∧ ∀ H', Same H H' → Q (.bl true) H'
def spCalled (K : Frag) : Sp := fun vs H Q _ => ∃ (p N : Addr) (rows : List (List Int)) (ns : List Int), vs = [.ref p, .ref N] ∧ Grid K true H p rows ∧ SqL K H N (ns.map V.int) ∧ rows.length ≤ 9 ∧ 1 ≤ rows.length ∧ InRange rows ∧ (∀ r ∈ rows, r.length ≤ 9) ∧ (∀ r ∈ rows, r.Nodup) ∧ Turn rows.length ns ∧
  ∀ (q : Addr) (rows' : List (List Int)) (H' : Hp), Same H H' → H q = none → WebAt H' q rows' → Called ns rows rows' → Q (.ref q) H'
def spLots (K : Frag) : Sp := fun vs H Q _ => ∃ (p N : Addr) (ks : List (List Int)) (ns : List Int) (n : Nat), vs = [.ref p, .ref N] ∧ Grid K true H p ks ∧ SqL K H N (ns.map V.int) ∧ n ≤ 9 ∧ ks.length ≤ 9 ∧ (∀ k ∈ ks, k.length ≤ 9 ∧ k.Nodup ∧ k ≠ [] ∧ ∀ x ∈ k, 0 ≤ x ∧ x < (n : Int)) ∧ Turn n ns ∧
  ∀ (q : Addr) (ms ks' : List (List Int)) (H' : Hp), Same H H' → H q = none → WebAt H' q ks' → ms.length = ks.length → (∀ (i : Nat) (k m : List Int), ks[i]? = some k → ms[i]? = some m → Img ns k m) → ks'.Perm ms → (ks'.Pairwise fun q r => ¬ r < q) → Q (.ref q) H'
def spAbout (K : Frag) : Sp := fun vs H Q _ => ∃ (p : Addr) (rows : List (List Int)), vs = [.ref p] ∧ Grid K true H p rows ∧ rows.length ≤ 9 ∧ (∀ r ∈ rows, r.length ≤ 9) ∧
  ∀ (q : Addr) (rows' : List (List Int)) (H' : Hp), Same H H' → H q = none → WebAt H' q rows' → (rows'.length = rows.length ∧ ∀ i : Nat, i < rows.length → (rowAt rows' i).Pairwise (· < ·) ∧ ∀ w, w ∈ rowAt rows' i ↔ ∃ j : Nat, j < rows.length ∧ w = j ∧ (i : Int) ∈ rowAt rows j) → Q (.ref q) H'
def spSmall : Sp := fun vs H Q _ => ∃ (k : Int), vs = [.int k] ∧ (0 ≤ k ∧ k < 1000) ∧ ∀ (q : Addr) (rows : List (List Int)) (H' : Hp), Same H H' → H q = none → WebAt H' q rows → WebRows rows → Q (.ref q) H'
section
variable {P : Program} {w : World} {K : Frag} {mg : Str → Option Value} {base : Heap} {C : Addr}
theorem k_told (B : Bl mg) (D : Dfn K mg "_law_is_told" s_law_is_told ["web"]) (G_law_is : Kept P w K mg base 24 "_law_is" ["thing", "due"] (spIsD K 24)) (Gfinds : KeptX P w K mg base 7 "finds" ["web"] (spRows K Finds)) (Gpieces : KeptX P w K mg base 7 "pieces" ["web"] (spRows K isPieces)) (Gknots : KeptX P w K mg base 7 "knots" ["web"] (spRows K isKnots))
    (G_law_found : Kept P w K mg base 1 "_law_found" ["web"] (spFoundL K)) (G_law_pieces : Kept P w K mg base 1 "_law_pieces" ["web"] (spOwn K isPieces)) (G_law_knots : Kept P w K mg base 2 "_law_knots" ["web"] (spOwn K isKnots)) : Kept P w K mg base 25 "_law_is_told" ["web"] spTold := by
  refine D.kept (N := N_law_is_told) sc_law_is_told (fun vs H Q E h => ?_) (fun f cdv A outer s H vs Q E hr h => ?_)
  · obtain ⟨p, rows, rfl, _⟩ := h
    rfl
  obtain ⟨p, rows, rfl, wa, wr, q⟩ := h
  refine ⟨_, (pss_cons (ps_if (pw_or (pt_not (pt_val (pe_k G_law_is (hr.mono (by first | decide | omega)) (by rfl) (pa_cons (pe_kx Gfinds (hr.mono (by first | decide | omega)) (by rfl) (fun σ => passAt takes0 σ) (pa_cons (pv 0) pa_nil)) (pa_cons (pe_k G_law_found (hr.mono (by first | decide | omega)) (by rfl) (pa_cons (pv 0) pa_nil)) pa_nil))))) (pw_or1 (pt_not (pt_val (pe_k G_law_is (hr.mono (by first | decide | omega)) (by rfl) (pa_cons (pe_kx Gpieces (hr.mono (by first | decide | omega)) (by rfl) (fun σ => passAt takes0 σ) (pa_cons (pv 0) pa_nil)) (pa_cons (pe_k G_law_pieces (hr.mono (by first | decide | omega)) (by rfl) (pa_cons (pv 0) pa_nil)) pa_nil))))))).pt (pss_one (ps_ret pe_bl)) pss_nil)
      (pss_one (ps_ret (pe_k G_law_is (hr.mono (by first | decide | omega)) (by rfl) (pa_cons (pe_kx Gknots (hr.mono (by first | decide | omega)) (by rfl) (fun σ => passAt takes0 σ) (pa_cons (pv 0) pa_nil)) (pa_cons (pe_k G_law_knots (hr.mono (by first | decide | omega)) (by rfl) (pa_cons (pv 0) pa_nil)) pa_nil)))))), ?_⟩
  have gr : Grid K true H p rows := wa.grid
  have small : ∀ {R : Int → Int → Prop} {ks : List (List Int)}, ClassList rows.length R ks → (∀ (u : Nat) (w : Int), u < rows.length → R u w → 0 ≤ w ∧ w < (rows.length : Int)) → Sml 24 (gridD ks) := fun a rg => by
    have l1 := cls_len a
    have l2 := wr.nine
    exact sml_grid (by omega) (fun r hr => by have := cls_few a rg r hr; omega) 21
  refine ⟨_, rfl, p, rows, rfl, wa, wr, fun q1 fs H1 s1 n1 g1 ff => ⟨_, rfl, p, rows, rfl, gr.same s1, wr.nine, wr.rng, fun q2 fs2 H2 s2 n2 w2 ff2 => ?_⟩⟩
  obtain rfl := finds_uniq ff ff2
  have fr := finds_rows ff wr.rng
  refine ⟨_, _, gridD fs, rfl, (g1.same s2).dp, w2.grid.dp, sml_grid (by have := ff.1; have := wr.nine; omega) (fun r hr => by have := fr.2 r hr; omega) 21, fun H3 s3 => ⟨_, rfl, ite2 (fun z => by cases z) (fun _ => ?_)⟩⟩
  have s03 := (s1.trans s2).trans s3
  refine ⟨_, rfl, p, rows, rfl, wa.same s03, wr, fun q4 ks H4 s4 n4 g4 kk => ⟨_, rfl, p, rows, rfl, gr.same (s03.trans s4), wr.nine, wr.rng, wr.few, fun q5 ks2 H5 s5 n5 w5 kk2 => ?_⟩⟩
  obtain rfl := ClassList.ext kk kk2
  refine ⟨_, _, gridD ks, rfl, (g4.same s5).dp, w5.grid.dp, small kk (fun u w hu h => h.range wr.rng ⟨by omega, by omega⟩), fun H6 s6 => ⟨_, rfl, ite2 (fun z => by cases z) (fun _ => ?_)⟩⟩
  have s06 := ((s03.trans s4).trans s5).trans s6
  refine ⟨_, rfl, p, rows, rfl, wa.same s06, wr, fun q7 ls H7 s7 n7 g7 ll => ⟨_, rfl, p, rows, rfl, gr.same (s06.trans s7), wr.nine, wr.rng, wr.few, fun q8 ls2 H8 s8 n8 w8 ll2 => ?_⟩⟩
  obtain rfl := ClassList.ext ll ll2
  exact ⟨_, _, gridD ls, rfl, (g7.same s8).dp, w8.grid.dp, small ll (fun u w hu h => h.1.range wr.rng ⟨by omega, by omega⟩), fun H9 s9 => q H9 (((s06.trans s7).trans s8).trans s9)⟩
theorem k_kept (B : Bl mg) (D : Dfn K mg "_law_are_kept" s_law_are_kept ["here", "there"]) : Kept P w K mg base 1 "_law_are_kept" ["here", "there"] (spKept K) := by
  refine D.keptC (N := N_law_are_kept) sc_law_are_kept (fun vs H Q E h => ?_) (fun f cdv A outer s H vs Q E hcd hr h => ?_)
  · obtain ⟨p, q, fs, gs, rfl, _⟩ := h
    rfl
  obtain ⟨p, p2, fs, gs, rfl, gf, gg, f9, lf, r9, kp, q⟩ := h
  refine ⟨_, (pss_one (ps_ret (pe_callB (cr_all rfl) (by rfl) B.b_all (by decide +kernel) (pa_cons (pe_lc (own := [("at", 3), ("lot", 4)]) (g := gTup K 2 (gCons (gName 3) (gCons (gName 4) (gNil)))) (by rfl) sc_law_are_kept.nd (pi_enumT (K := K) rfl (by rfl) B.b_enumerate (pa_cons (pv 0) pa_nil)) (blkOk_by (own := [("at", 3), ("lot", 4)]) (N := N_law_are_kept) (sc := defScope s_law_are_kept) (by decide +kernel)) (fun _ _ _ _ _ => (pg_tup rfl (pgs_cons (pg_name (i := 3) sc_law_are_kept.nd rfl (Or.inr rfl)) (pgs_cons (pg_name (i := 4) sc_law_are_kept.nd rfl (Or.inl rfl)) pgs_nil)))) (fun _ _ _ _ _ => pts_nil) (fun _ _ _ _ _ => (pe_callB (allK (K := K) rfl rfl) (by rfl) B.b_all (by decide +kernel) (pa_cons (pe_lc (own := [("one", 2)]) (g := gName 2) (by rfl) sc_law_are_kept.nd (pi_tupK (K := K) rfl (pv 4)) (blkOk_by (own := [("one", 2)]) (N := N_law_are_kept) (by dsimp only [Cx.blk, compEnvC, relabel, cxOf, Cx.nox, envOfC, Env.kindOf]; first | rfl | decide +kernel)) (fun _ _ _ _ _ => (pg_name (i := 2) sc_law_are_kept.nd rfl (Or.inl rfl))) (fun _ _ _ _ _ => pts_nil) (fun _ _ _ _ _ => (pe_cmpR (in_seqK (K := K) rfl) (pv 2) (pe_ix (ix_tupK (K := K) rfl) (pv 1) (pv 3) (fun _ _ => rfl)) (by rfl)))) pa_nil)))) pa_nil)))), ?_⟩
  obtain ⟨as, h1, h2, h3⟩ := gf
  have h1T : SqT K H p (as.map V.ref) := h1
  have sz : ∀ n : Nat, n ≤ 9 → ((List.replicate n true).map V.bl).length < sizeLine := fun n hn => by
    rw [List.length_map, List.length_replicate]
    exact len_lt (by omega)
  refine ⟨_, rfl, p, _, rfl, h1T, fun D nD => ?_⟩
  refine lc_enumT (xs := as.map V.ref) (fun i H' => Same H H' ∧ H' D = some (.lst ((List.replicate i true).map V.bl))) ⟨same_new nD, upd_same⟩ (fun i H' z => z.1.seqT h1T) ?_ ?_
  · rintro i x T H1 hx ⟨s1, hD⟩ nT
    rw [List.getElem?_map] at hx
    obtain ⟨a, ha, rfl⟩ := Option.map_eq_some_iff.mp hx
    have hi : i < fs.length := by
      have := (List.getElem?_eq_some_iff.mp ha).1
      omega
    have hr' := rowAt_get hi
    have ha2 : SqT K H a ((rowAt fs i).map V.int) := h3 i a _ ha hr'
    have sT := same_new (o := .tup [.int (i : Nat), .ref a]) nT
    have s2 := s1.trans sT
    have hD2 := sT _ _ hD
    refine ⟨T, _, rfl, SqT.of upd_same, rfl, _, _, rfl, _, _, rfl, rfl, rfl, ?_⟩
    generalize upd H1 T (.tup [.int (i : Nat), .ref a]) = H2 at s2 hD2 ⊢
    refine ⟨_, rfl, a, rfl, ⟨_, s2.seqT ha2⟩, fun E2 nE => ?_⟩
    refine lc_tup (xs := (rowAt fs i).map V.int) (fun j H' => Same H2 H' ∧ H' E2 = some (.lst ((List.replicate j true).map V.bl))) ⟨same_new nE, upd_same⟩ (fun j H' _ z => z.1.seqT (s2.seqT ha2)) ?_ ?_
    · rintro j y H3 hy ⟨s3, hE⟩
      rw [List.getElem?_map] at hy
      obtain ⟨x0, hx0, rfl⟩ := Option.map_eq_some_iff.mp hy
      have mx : x0 ∈ rowAt fs i := List.mem_of_getElem? hx0
      have m2 := kp i hi x0 mx
      obtain ⟨xs2, pu, hy2, hat, hp⟩ := (gg.same (s2.trans s3)).row (u := (i : Int)) ⟨by omega, by omega⟩
      have few := row_short r9 i
      have hj := (List.getElem?_eq_some_iff.mp hx0).1
      refine ⟨rfl, _, rfl, _, rfl, _, rfl, p2, _, _, .ref pu, rfl, rfl, hy2, hat, pu, _, rfl, .inr hp, rfl, flat_ints _, _, hE, sz j (by omega), same_mut s3 nE, ?_⟩
      have e1 : inV (.int x0) ((rowAt gs i).map V.int) = true := (inV_ints _ _).trans (decide_eq_true m2)
      rw [upd_same, List.replicate_succ', List.map_append]
      show some (HO.lst (_ ++ [V.bl (inV (.int x0) ((rowAt gs i).map V.int))])) = _
      rw [e1]
      rfl
    · rintro H3 ⟨s3, hE⟩
      refine ⟨E2, _, rfl, SqL.of hE, _, s3 _ _ hD2, sz i (by omega), same_mut (s2.trans s3) nD, ?_⟩
      have e1 : (List.replicate ((rowAt fs i).map V.int).length true).all id = true := List.all_eq_true.mpr fun x hx => by rw [(List.mem_replicate.mp hx).2]; rfl
      rw [e1, upd_same, List.replicate_succ', List.map_append]
      rfl
  · rintro H1 ⟨s1, hD⟩
    refine ⟨D, _, rfl, SqL.of hD, ?_⟩
    have e1 : (List.replicate (as.map V.ref).length true).all id = true := List.all_eq_true.mpr fun x hx => by rw [(List.mem_replicate.mp hx).2]; rfl
    rw [e1]
    exact q H1 s1
theorem k_called (B : Bl mg) (D : Dfn K mg "_law_called" s_law_called ["web", "names"]) : Kept P w K mg base 1 "_law_called" ["web", "names"] (spCalled K) := by
  refine D.keptC (N := N_law_called) sc_law_called (fun vs H Q E h => ?_) (fun f cdv A outer s H vs Q E hcd hr h => ?_)
  · obtain ⟨p, N, rows, ns, rfl, _⟩ := h
    rfl
  obtain ⟨p, N, rows, ns, rfl, gr, hN, h9, h1, hin, r9, rnd, tn, q⟩ := h
  refine ⟨_, (pss_cons (ps_set (i := 2) sc_law_called.nd rfl (Or.inl rfl) (pe_op op_rep (pe_lst (pa_cons (pe_tup pa_nil) pa_nil)) (pe_callB call_len_seq (by rfl) B.b_len PySem.boot_len (pa_cons (pv 0) pa_nil))))
      (pss_cons (ps_for PassesOwn.never rfl (pi_enumT (K := K) rfl (by rfl) B.b_enumerate (pa_cons (pv 0) pa_nil)) (pg_tup rfl (pgs_cons (pg_name (i := 3) sc_law_called.nd rfl (Or.inl rfl)) (pgs_cons (pg_name (i := 4) sc_law_called.nd rfl (Or.inl rfl)) pgs_nil))) (pss_one (ps_asg (pe_callTy call_tuple_of (by rfl) B.b_tuple (by decide +kernel) (pa_cons (pe_callB cr_sorted (by rfl) B.b_sorted (by decide +kernel) (pa_cons (pe_lc (own := [("other", 5)]) (g := gName 5) (by rfl) sc_law_called.nd (pi_tup (pv 4)) (blkOk_by (own := [("other", 5)]) (N := N_law_called) (sc := defScope s_law_called) (by decide +kernel)) (fun _ _ _ _ _ => (pg_name (i := 5) sc_law_called.nd rfl (Or.inl rfl))) (fun _ _ _ _ _ => pts_nil) (fun _ _ _ _ _ => (pe_ix (ix_listK (K := K) rfl) (pv 1) (pv 5) (fun _ _ => rfl)))) pa_nil)) pa_nil)) (pg_sub (pv 2) (pe_ix ix_list (pv 1) (pv 3) (fun _ _ => rfl)) set_list))))
      (pss_one (ps_ret (pe_callTy call_tuple_of (by rfl) B.b_tuple (by decide +kernel) (pa_cons (pv 2) pa_nil)))))), ?_⟩
  have gr0 := gr
  obtain ⟨as, g1, g2, g3⟩ := gr0
  have g1T : SqT K H p (as.map V.ref) := g1
  have hl : (as.map V.ref).length = rows.length := by rw [List.length_map, g2]
  -- made = [()] * len(web)
  refine ⟨len_le (by decide : 0 ≤ 1000), fun t0 nt0 => ⟨len_le (by decide : 1 ≤ 1000), fun l0 nl0 => ?_⟩⟩
  have s1 := (same_new (o := .tup []) nt0).trans (same_new (o := .lst [.ref t0]) nl0)
  refine ⟨_, rfl, p, _, rfl, .inr (s1.seqT g1T), l0, _, _, rfl, rfl, upd_same, by omega, by omega, by show 1 * _ ≤ sizeLine; exact len_le (by omega), fun M nM => ?_⟩
  have er : (List.replicate ((((as.map V.ref).length : Nat) : Int)).toNat [V.ref t0]).flatten = List.replicate rows.length (V.ref t0) := by
    rw [flat_rep, hl, Int.toNat_natCast]
  rw [er]
  have s2 := s1.trans (same_new (o := .lst (List.replicate rows.length (V.ref t0))) nM)
  have nM0 := none_of s1 nM
  have hM := upd_same (H := upd (upd H t0 (.tup [])) l0 (.lst [.ref t0])) (a := M) (o := .lst (List.replicate rows.length (V.ref t0)))
  generalize upd (upd (upd H t0 (.tup [])) l0 (.lst [.ref t0])) M (.lst (List.replicate rows.length (V.ref t0))) = H2 at s2 hM ⊢
  refine ⟨_, rfl, p, _, rfl, s2.seqT g1T, ?_⟩
  refine for_enumT (xs := as.map V.ref) (fun i σ H' => ∃ (vals : List V) (x3 x4 : Option V), σ = [some (.ref p), some (.ref N), some (.ref M), x3, x4, none] ∧ Same H H' ∧ H' M = some (.lst vals) ∧ vals.length = rows.length ∧
    ∀ j : Nat, j < i → ∃ t r, vals[(nm ns j).toNat]? = some (.ref t) ∧ H' t = some (.tup (r.map V.int)) ∧ Img ns (rowAt rows j) r) ⟨_, none, none, rfl, s2, hM, List.length_replicate, fun j h => absurd h (Nat.not_lt_zero _)⟩ (fun i σ H' z => z.choose_spec.choose_spec.choose_spec.2.1.seqT g1T) ?_ ?_
  · rintro i x T σ H3 hx ⟨vals, x3, x4, rfl, s3, hM3, lv, done⟩ nT
    rw [List.getElem?_map] at hx
    obtain ⟨pu, hpu, rfl⟩ := Option.map_eq_some_iff.mp hx
    have hi : i < rows.length := by
      have := (List.getElem?_eq_some_iff.mp hpu).1
      omega
    have hi' : 0 ≤ (i : Int) ∧ (i : Int) < (rows.length : Int) := ⟨by omega, by omega⟩
    have hr' := rowAt_get hi
    have hpr : SqT K H pu ((rowAt rows i).map V.int) := g3 _ _ _ hpu hr'
    have rm : rowAt rows i ∈ rows := List.mem_of_getElem? hr'
    have sT := same_new (o := .tup [.int (i : Nat), .ref pu]) nT
    have s4 := s3.trans sT
    have hM4 := sT _ _ hM3
    have done4 : ∀ j : Nat, j < i → ∃ t r, vals[(nm ns j).toNat]? = some (.ref t) ∧ upd H3 T (.tup [.int (i : Nat), .ref pu]) t = some (.tup (r.map V.int)) ∧ Img ns (rowAt rows j) r := fun j hj => by
      obtain ⟨t, r, z1, z2, z3⟩ := done j hj
      exact ⟨t, r, z1, sT _ _ z2, z3⟩
    refine ⟨T, _, rfl, SqT.of upd_same, rfl, _, _, rfl, _, _, rfl, rfl, ?_⟩
    generalize upd H3 T (.tup [.int (i : Nat), .ref pu]) = H4 at s4 hM4 done4 ⊢
    refine ⟨_, rfl, pu, rfl, ⟨_, s4.seqT hpr⟩, fun D nD => ?_⟩
    refine lc_tup (xs := (rowAt rows i).map V.int) (fun j H' => Same H4 H' ∧ H' D = some (.lst ((((rowAt rows i).take j).map (nm ns)).map V.int))) ⟨same_new nD, upd_same⟩ (fun j H' _ z => z.1.seqT (s4.seqT hpr)) ?_ ?_
    · rintro j x H5 hx ⟨s5, hD⟩
      rw [List.getElem?_map] at hx
      obtain ⟨x0, hx0, rfl⟩ := Option.map_eq_some_iff.mp hx
      have tk : (rowAt rows i).take (j + 1) = (rowAt rows i).take j ++ [x0] := by
        rw [List.take_succ, hx0]
        rfl
      have gx := row_range hin (List.mem_of_getElem? hx0)
      refine ⟨rfl, _, rfl, _, rfl, N, _, _, _, rfl, rfl, seqL_same' (s4.trans s5) hN, tn.atI gx, _, hD, ?_, same_mut s5 nD, ?_⟩
      · rw [List.length_map, List.length_map, List.length_take]
        have := r9 _ rm
        exact len_lt (by omega)
      · rw [upd_same, tk, List.map_append, List.map_append]
        rfl
    · rintro H5 ⟨s5, hD⟩
      rw [List.length_map, List.take_length] at hD
      refine ⟨D, _, rfl, SqL.of hD, by rw [List.length_map]; have := r9 _ rm; omega, fun ys p2 pm pw np => ⟨p2, _, rfl, .inl ⟨SqL.of upd_same, fun t nt => ?_⟩⟩⟩
      have im := perm_img tn (rnd _ rm) (fun x hx => hin _ rm x hx) pm pw
      have s6 := (s5.trans (same_new (o := .lst (ys.map V.int)) np)).trans (same_new (o := .tup (ys.map V.int)) nt)
      have ht := upd_same (H := upd H5 p2 (.lst (ys.map V.int))) (a := t) (o := .tup (ys.map V.int))
      have s46 := s4.trans s6
      have hM6 := s6 _ _ hM4
      have done6 : ∀ j : Nat, j < i → ∃ t' r, vals[(nm ns j).toNat]? = some (.ref t') ∧ upd (upd H5 p2 (.lst (ys.map V.int))) t (.tup (ys.map V.int)) t' = some (.tup (r.map V.int)) ∧ Img ns (rowAt rows j) r := fun j hj => by
        obtain ⟨t', r, z1, z2, z3⟩ := done4 j hj
        exact ⟨t', r, z1, s6 _ _ z2, z3⟩
      generalize upd (upd H5 p2 (.lst (ys.map V.int))) t (.tup (ys.map V.int)) = H6 at s46 hM6 done6 ht ⊢
      have gn := tn.range hi'
      have tM : ∀ {t' : Addr} {r : List Int}, H6 t' = some (.tup (r.map V.int)) → t' ≠ M := fun h z => by
        rw [z, hM6] at h
        cases h
      refine ⟨_, rfl, _, rfl, _, rfl, N, _, _, _, rfl, rfl, seqL_same' s46 hN, tn.atI hi', M, vals, _, (nm ns i).toNat, rfl, rfl, hM6, ixN_nat gn.1 (by rw [lv]; exact gn.2), ?_⟩
      refine ⟨vals.set (nm ns i).toNat (.ref t), _, _, rfl, same_mut s46 nM0, upd_same, by rw [List.length_set]; exact lv, fun j hj => ?_⟩
      rcases Nat.lt_or_ge j i with y | y
      · obtain ⟨t', r, z1, z2, z3⟩ := done6 j y
        have gj := tn.range (x := (j : Int)) ⟨by omega, by omega⟩
        have ne : (nm ns i).toNat ≠ (nm ns j).toNat := fun e => by
          have := tn.inj hi' (y := (j : Int)) ⟨by omega, by omega⟩ (by omega)
          omega
        exact ⟨t', r, by rw [List.getElem?_set_ne ne]; exact z1, by rw [upd_ne (tM z2)]; exact z2, z3⟩
      · obtain rfl : j = i := by omega
        exact ⟨t, ys, List.getElem?_set_self (by omega), by rw [upd_ne (tM ht)]; exact ht, im⟩
  · rintro σ H3 ⟨vals, x3, x4, rfl, s3, hM3, lv, done⟩
    rw [hl] at done
    refine ⟨_, rfl, M, vals, rfl, .inl ⟨SqL.of hM3, fun t nt => ?_⟩⟩
    have sn := same_new (o := .tup vals) nt
    obtain ⟨as', rows', e1, l1, l2, hk⟩ := choose_rows (Q := fun k t' r => H3 t' = some (.tup (r.map V.int)) ∧ ∃ j : Nat, j < rows.length ∧ nm ns j = (k : Int) ∧ Img ns (rowAt rows j) r) lv fun k hk => by
      obtain ⟨j, hj, e⟩ := tn.surj (k := (k : Int)) ⟨by omega, by omega⟩
      obtain ⟨t', r, z1, z2, z3⟩ := done j hj
      refine ⟨t', r, ?_, z2, j, hj, e, z3⟩
      rw [← z1, e]
      rfl
    refine q t rows' _ (s3.trans sn) (none_of s3 nt) ⟨as', by rw [upd_same, e1], by omega, fun k t' r f1 f2 => sn _ _ (hk k t' r f1 f2).1⟩ ⟨l2, fun i hi => ?_⟩
    have gn := tn.range (x := (i : Int)) ⟨by omega, by omega⟩
    have f1 : as'[(nm ns i).toNat]? = some (as'[(nm ns i).toNat]'(by omega)) := List.getElem?_eq_getElem (by omega)
    have f2 : rows'[(nm ns i).toNat]? = some (rowAt rows' (nm ns i)) := by
      have z := rowAt_get (rows := rows') (i := (nm ns i).toNat) (by omega)
      rw [show (((nm ns i).toNat : Nat) : Int) = nm ns i by omega] at z
      exact z
    obtain ⟨_, j, hj, e, im⟩ := hk _ _ _ f1 f2
    have ej : (j : Int) = (i : Int) := tn.inj ⟨by omega, by omega⟩ ⟨by omega, by omega⟩ (by rw [e]; omega)
    rw [← Int.ofNat.inj ej]
    have e2 : rowAt rows' (nm ns i) = rowAt rows' (nm ns j) := by rw [Int.ofNat.inj ej]
    rw [← e2]
    exact im
theorem k_lots (B : Bl mg) (D : Dfn K mg "_law_lots" s_law_lots ["lots", "names"]) : Kept P w K mg base 1 "_law_lots" ["lots", "names"] (spLots K) := by
  refine D.keptC (N := N_law_lots) sc_law_lots (fun vs H Q E h => ?_) (fun f cdv A outer s H vs Q E hcd hr h => ?_)
  · obtain ⟨p, N, ks, ns, n, rfl, _⟩ := h
    rfl
  obtain ⟨p, N, ks, ns, n, rfl, gr, hN, n9, h9, hk, tn, q⟩ := h
  refine ⟨_, (pss_one (ps_ret (pe_callTy call_tuple_of (by rfl) B.b_tuple (by decide +kernel) (pa_cons (pe_callB (sortLT (K := K) rfl (room10 hr)) (by rfl) B.b_sorted (by decide +kernel) (pa_cons (pe_lc (own := [("lot", 3)]) (g := gName 3) (by rfl) sc_law_lots.nd (pi_tup (pv 0)) (blkOk_by (own := [("lot", 3)]) (N := N_law_lots) (sc := defScope s_law_lots) (by decide +kernel)) (fun _ _ _ _ _ => (pg_name (i := 3) sc_law_lots.nd rfl (Or.inl rfl))) (fun _ _ _ _ _ => pts_nil) (fun _ _ _ _ _ => (pe_callTy (tupleK (K := K) rfl) (by rfl) B.b_tuple (by decide +kernel) (pa_cons (pe_callB (sortIK (K := K) rfl) (by rfl) B.b_sorted (by decide +kernel) (pa_cons (pe_lc (own := [("one", 2)]) (g := gName 2) (by rfl) sc_law_lots.nd (pi_tupK (K := K) rfl (pv 3)) (blkOk_by (own := [("one", 2)]) (N := N_law_lots) (by dsimp only [Cx.blk, compEnvC, relabel, cxOf, Cx.nox, envOfC, Env.kindOf]; first | rfl | decide +kernel)) (fun _ _ _ _ _ => (pg_name (i := 2) sc_law_lots.nd rfl (Or.inl rfl))) (fun _ _ _ _ _ => pts_nil) (fun _ _ _ _ _ => (pe_ix (ix_listK (K := K) rfl) (pv 1) (pv 2) (fun _ _ => rfl)))) pa_nil)) pa_nil)))) pa_nil)) pa_nil)))), ?_⟩
  obtain ⟨as, g1, g2, g3⟩ := gr
  have g1T : SqT K H p (as.map V.ref) := g1
  have hl : (as.map V.ref).length = ks.length := by rw [List.length_map, g2]
  refine ⟨_, rfl, p, rfl, ⟨_, g1T⟩, fun D nD => ?_⟩
  refine lc_tup (xs := as.map V.ref) (fun i H' => ∃ As : List (Addr × List Int), Same H H' ∧ H' D = some (.lst (As.map fun q => V.ref q.1)) ∧ (∀ q ∈ As, H' q.1 = some (.tup (q.2.map V.int))) ∧ As.length = i ∧ ∀ (j : Nat) (q : Addr × List Int) (k : List Int), As[j]? = some q → ks[j]? = some k → Img ns k q.2)
    ⟨[], same_new nD, upd_same, fun q h => absurd h List.not_mem_nil, rfl, fun j q k e => by simp at e⟩ (fun i H' _ z => z.choose_spec.1.seqT g1T) ?_ ?_
  · rintro i x H1 hx ⟨As, s1, hD, hA, rfl, him⟩
    rw [List.getElem?_map] at hx
    obtain ⟨pu, hpu, rfl⟩ := Option.map_eq_some_iff.mp hx
    have hi : As.length < ks.length := by
      have := (List.getElem?_eq_some_iff.mp hpu).1
      omega
    obtain ⟨r, hr'⟩ : ∃ r, ks[As.length]? = some r := ⟨_, List.getElem?_eq_getElem hi⟩
    have hpr : SqT K H pu (r.map V.int) := g3 _ _ _ hpu hr'
    obtain ⟨l9, rnd, rne, rrg⟩ := hk r (List.mem_of_getElem? hr')
    refine ⟨rfl, _, rfl, pu, rfl, ⟨_, s1.seqT hpr⟩, fun E2 nE => ?_⟩
    refine lc_tup (xs := r.map V.int) (fun j H' => Same H1 H' ∧ H' E2 = some (.lst (((r.take j).map (nm ns)).map V.int))) ⟨same_new nE, upd_same⟩ (fun j H' _ z => z.1.seqT (s1.seqT hpr)) ?_ ?_
    · rintro j x H2 hx ⟨s2, hE⟩
      rw [List.getElem?_map] at hx
      obtain ⟨x0, hx0, rfl⟩ := Option.map_eq_some_iff.mp hx
      have tk : r.take (j + 1) = r.take j ++ [x0] := by
        rw [List.take_succ, hx0]
        rfl
      refine ⟨rfl, _, rfl, _, rfl, N, _, _, _, rfl, rfl, seqL_same' (s1.trans s2) hN, tn.atI (rrg _ (List.mem_of_getElem? hx0)), _, hE, ?_, same_mut s2 nE, ?_⟩
      · rw [List.length_map, List.length_map, List.length_take]
        exact len_lt (by omega)
      · rw [upd_same, tk, List.map_append, List.map_append]
        rfl
    · rintro H2 ⟨s2, hE⟩
      rw [List.length_map, List.take_length] at hE
      refine ⟨E2, _, rfl, SqL.of hE, by rw [List.length_map]; omega, fun ys p2 pm pw np => ⟨p2, _, rfl, .inl ⟨SqL.of upd_same, fun t nt => ?_⟩⟩⟩
      have im := perm_img tn rnd rrg pm pw
      have s3 := (s2.trans (same_new (o := .lst (ys.map V.int)) np)).trans (same_new (o := .tup (ys.map V.int)) nt)
      have hD3 := s3 _ _ hD
      refine ⟨_, hD3, by rw [List.length_map]; exact len_lt (by omega), As ++ [(t, ys)], same_mut (s1.trans s3) nD, by rw [upd_same, List.map_append]; rfl, fun q' hq' => ?_, by rw [List.length_append]; rfl, fun j q' k e1 e2 => ?_⟩
      · have e3 : upd (upd H2 p2 (.lst (ys.map V.int))) t (.tup (ys.map V.int)) q'.1 = some (.tup (q'.2.map V.int)) := by
          rcases List.mem_append.mp hq' with z | z
          · exact s3 _ _ (hA q' z)
          · rw [List.mem_singleton.mp z]
            exact upd_same
        rw [upd_ne (fun z => by rw [z, hD3] at e3; cases e3)]
        exact e3
      · rcases get_snoc e1 with z | ⟨z1, z2⟩
        · exact him j q' k z e2
        · rw [z1, hr'] at e2
          rw [z2, ← Option.some.inj e2]
          exact im
  · rintro H1 ⟨As, s1, hD, hA, lA, him⟩
    rw [hl] at lA
    have nee : ∀ q' ∈ As, q'.2 ≠ [] := fun q' h z => by
      obtain ⟨j, hj, e⟩ := List.getElem_of_mem h
      have e1 : As[j]? = some q' := by rw [← e]; exact List.getElem?_eq_getElem hj
      have e2 : ks[j]? = some (ks[j]'(by omega)) := List.getElem?_eq_getElem (by omega)
      have im := him j q' _ e1 e2
      obtain ⟨_, _, ne, _⟩ := hk _ (List.mem_of_getElem? e2)
      cases hc : ks[j]'(by omega) with
      | nil => exact ne hc
      | cons x r =>
        rw [hc] at im
        have m := (im.2 (nm ns x)).mpr ⟨x, List.mem_cons_self, rfl⟩
        rw [z] at m
        cases m
    refine ⟨D, As, rfl, SqL.of hD, fun q' h => SqT.of (hA q' h), nee, fun L' p2 pm pw np => ⟨p2, _, rfl, .inl ⟨SqL.of upd_same, fun t nt => ?_⟩⟩⟩
    have sa := same_new (o := .lst (L'.map fun q => V.ref q.1)) np
    have sb := sa.trans (same_new (o := .tup (L'.map fun q => V.ref q.1)) nt)
    refine q t (As.map (·.2)) (L'.map (·.2)) _ (s1.trans sb) (none_of s1 (none_of sa nt)) (webAt_pairs upd_same fun q' h => sb _ _ (hA q' (pm.mem_iff.mp h))) (by rw [List.length_map]; exact lA) (fun i k m e1 e2 => ?_) (pm.map (·.2)) ((List.pairwise_map (f := fun q : Addr × List Int => q.2)).mpr pw)
    rw [List.getElem?_map] at e2
    obtain ⟨q', hq', rfl⟩ := Option.map_eq_some_iff.mp e2
    exact him i q' k hq' e1
end
end Lw

set_option maxHeartbeats 4000000
namespace Lw
open PySem PySem.Spec PyProof.Rows L2 EF Hn
open PySem.W (Frag keepIn)
/-- who holds i's card -/
def turned (rows : List (List Int)) (n i : Nat) : List Int := ((List.range n).filter fun (j : Nat) => decide ((i : Int) ∈ rowAt rows (j : Nat))).map fun (k : Nat) => (k : Int)
theorem turned_succ (rows : List (List Int)) (n i : Nat) : turned rows (n + 1) i = if (i : Int) ∈ rowAt rows (n : Nat) then turned rows n i ++ [(n : Int)] else turned rows n i := by
  unfold turned
  rw [List.range_succ, List.filter_append, List.map_append]
  by_cases e : (i : Int) ∈ rowAt rows (n : Nat)
  · rw [if_pos e, List.filter_cons, if_pos (decide_eq_true e)]
    rfl
  · rw [if_neg e, List.filter_cons, if_neg (by rw [decide_eq_true_iff]; exact e), List.filter_nil, List.map_nil, List.append_nil]
theorem turned_few (rows : List (List Int)) (n i : Nat) : (turned rows n i).length ≤ n := by
  unfold turned
  rw [List.length_map]
  have := List.length_filter_le (fun (j : Nat) => decide ((i : Int) ∈ rowAt rows (j : Nat))) (List.range n)
  rw [List.length_range] at this
  exact this
section
variable {P : Program} {w : World} {K : Frag} {mg : Str → Option Value} {base : Heap} {C : Addr}
theorem k_about (B : Bl mg) (D : Dfn K mg "_law_turned_about" s_law_turned_about ["web"]) : Kept P w K mg base 1 "_law_turned_about" ["web"] (spAbout K) := by
  refine D.keptC (N := N_law_turned_about) sc_law_turned_about (fun vs H Q E h => ?_) (fun f cdv A outer s H vs Q E hcd hr h => ?_)
  · obtain ⟨p, rows, rfl, _⟩ := h
    rfl
  obtain ⟨p, rows, rfl, gr, h9, r9, q⟩ := h
  refine ⟨_, (pss_one (ps_ret (pe_callTy call_tuple_of (by rfl) B.b_tuple (by decide +kernel) (pa_cons (pe_lc (own := [("person", 2)]) (g := gName 2) (by rfl) sc_law_turned_about.nd (pi_range1 (by rfl) B.b_range (pa_cons (pe_callB call_len_seq (by rfl) B.b_len PySem.boot_len (pa_cons (pv 0) pa_nil)) pa_nil)) (blkOk_by (own := [("person", 2)]) (N := N_law_turned_about) (sc := defScope s_law_turned_about) (by decide +kernel)) (fun _ _ _ _ _ => (pg_name (i := 2) sc_law_turned_about.nd rfl (Or.inr rfl))) (fun _ _ _ _ _ => pts_nil) (fun _ _ _ _ _ => (pe_callTy (tupleK (K := K) rfl) (by rfl) B.b_tuple (by decide +kernel) (pa_cons (pe_lc (own := [("one", 1)]) (g := gName 1) (by rfl) sc_law_turned_about.nd (pi_range1 (by rfl) B.b_range (pa_cons (pe_callB (lenK (K := K) rfl) (by rfl) B.b_len PySem.boot_len (pa_cons (pv 0) pa_nil)) pa_nil)) (blkOk_by (own := [("one", 1)]) (N := N_law_turned_about) (by dsimp only [Cx.blk, compEnvC, relabel, cxOf, Cx.nox, envOfC, Env.kindOf]; first | rfl | decide +kernel)) (fun _ _ _ _ _ => (pg_name (i := 1) sc_law_turned_about.nd rfl (Or.inl rfl))) (fun _ _ _ _ _ => (pts_one (pt_cmpR (in_seqK (K := K) rfl) (pv 2) (pe_ix (ix_tupK (K := K) rfl) (pv 0) (pv 1) (fun _ _ => rfl)) (by rfl)))) (fun _ _ _ _ _ => (pv 1))) pa_nil)))) pa_nil)))), ?_⟩
  have gr0 := gr
  obtain ⟨as, g1, g2, g3⟩ := gr0
  have g1T : SqT K H p (as.map V.ref) := g1
  have hl : (as.map V.ref).length = rows.length := by rw [List.length_map, g2]
  have nn : (((as.map V.ref).length : Nat) : Int).toNat = rows.length := by omega
  refine ⟨_, rfl, p, _, rfl, .inr g1T, _, rfl, by omega, by omega, fun D nD => ?_⟩
  refine lc_range (lo := 0) (n := (((as.map V.ref).length : Nat) : Int).toNat) (fun i H' => ∃ As : List Addr, Same H H' ∧ H' D = some (.lst (As.map V.ref)) ∧ As.length = i ∧ ∀ (j : Nat) (q : Addr) (r : List Int), As[j]? = some q → ((List.range i).map (turned rows rows.length))[j]? = some r → H' q = some (.tup (r.map V.int)))
    ⟨[], same_new nD, upd_same, rfl, fun j q r e => by simp at e⟩ ?_ ?_
  · rintro i H1 hi ⟨As, s1, hD, rfl, hA⟩
    have e0 : (0 : Int) + (As.length : Nat) = (As.length : Int) := Int.zero_add _
    rw [e0]
    refine ⟨rfl, _, rfl, p, _, rfl, .inr (s1.seqT g1T), _, rfl, by omega, by omega, fun E2 nE => ?_⟩
    refine lc_range (lo := 0) (n := (((as.map V.ref).length : Nat) : Int).toNat) (fun j H' => Same H1 H' ∧ H' E2 = some (.lst ((turned rows j As.length).map V.int))) ⟨same_new nE, upd_same⟩ ?_ ?_
    · rintro j H2 hj ⟨s2, hE⟩
      obtain ⟨xs2, pu, hy2, hat, hp⟩ := (gr.same (s1.trans s2)).row (u := (j : Int)) ⟨by omega, by omega⟩
      have e1 : (0 : Int) + (j : Nat) = (j : Int) := Int.zero_add _
      rw [e1]
      have few := turned_few rows j As.length
      have e2 : inV (.int (As.length : Int)) ((rowAt rows j).map V.int) = decide ((As.length : Int) ∈ rowAt rows j) := inV_ints _ _
      refine ⟨rfl, _, rfl, _, rfl, _, rfl, p, _, _, .ref pu, rfl, rfl, hy2, hat, pu, _, rfl, .inr hp, rfl, flat_ints _, _, rfl, ite2 (fun e3 => ⟨_, rfl, _, hE, by rw [List.length_map]; exact len_lt (by omega), same_mut s2 nE, ?_⟩) (fun e3 => ⟨s2, ?_⟩)⟩
      · have m := of_decide_eq_true (e2.symm.trans e3)
        rw [upd_same, turned_succ, if_pos m, List.map_append]
        rfl
      · have m : ¬ (As.length : Int) ∈ rowAt rows (j : Nat) := fun z => e3 (e2.trans (decide_eq_true z))
        rw [turned_succ, if_neg m]
        exact hE
    · rintro H2 ⟨s2, hE⟩
      rw [nn] at hE
      refine ⟨E2, _, rfl, .inl ⟨SqL.of hE, fun t nt => ?_⟩⟩
      have s3 := s2.trans (same_new (o := .tup ((turned rows rows.length As.length).map V.int)) nt)
      have hD3 := s3 _ _ hD
      refine ⟨_, hD3, by rw [List.length_map]; exact len_lt (by omega), As ++ [t], same_mut (s1.trans s3) nD, by rw [upd_same, List.map_append]; rfl, by rw [List.length_append]; rfl, fun j q' r e1 e2 => ?_⟩
      rw [List.range_succ, List.map_append] at e2
      exact WebAt.snoc hD3 (fun j a r f1 f2 => s3 _ _ (hA j a r f1 f2)) (by rw [List.length_map, List.length_range]) upd_same j q' r e1 e2
  · rintro H1 ⟨As, s1, hD, lA, hA⟩
    rw [nn] at lA hA
    refine ⟨D, _, rfl, .inl ⟨SqL.of hD, fun t nt => ?_⟩⟩
    have sn := same_new (o := .tup (As.map V.ref)) nt
    refine q t ((List.range rows.length).map (turned rows rows.length)) _ (s1.trans sn) (none_of s1 nt) ⟨As, upd_same, by rw [List.length_map, List.length_range]; exact lA, fun i a r e1 e2 => sn _ _ (hA i a r e1 e2)⟩ ⟨by rw [List.length_map, List.length_range], fun i hi => ?_⟩
    have e : rowAt ((List.range rows.length).map (turned rows rows.length)) (i : Nat) = turned rows rows.length i := by
      unfold rowAt
      rw [List.getD_eq_getElem?_getD, Int.toNat_natCast, List.getElem?_map, List.getElem?_range hi]
      rfl
    rw [e]
    refine ⟨List.pairwise_map.mpr ((List.Pairwise.filter _ List.pairwise_lt_range).imp fun h => by omega), fun x => ?_⟩
    unfold turned
    rw [List.mem_map]
    constructor
    · rintro ⟨j, hj, rfl⟩
      rw [List.mem_filter, List.mem_range, decide_eq_true_iff] at hj
      exact ⟨j, hj.1, rfl, hj.2⟩
    · rintro ⟨j, hj, rfl, m⟩
      exact ⟨j, by rw [List.mem_filter, List.mem_range, decide_eq_true_iff]; exact ⟨hj, m⟩, rfl⟩
theorem k_small (B : Bl mg) (D : Dfn K mg "_law_small" s_law_small ["number"]) : Kept P w K mg base 1 "_law_small" ["number"] spSmall := by
  refine D.keptC (N := N_law_small) sc_law_small (fun vs H Q E h => ?_) (fun f cdv A outer s H vs Q E hcd hr h => ?_)
  · obtain ⟨k, rfl, _⟩ := h
    rfl
  obtain ⟨k, rfl, hk, q⟩ := h
  refine ⟨_, (pss_cons (ps_set (i := 1) sc_law_small.nd rfl (Or.inl rfl) (pe_lst pa_nil))
      (pss_cons (ps_for PassesOwn.never rfl (pi_range1 (by rfl) B.b_range (pa_cons pe_int pa_nil)) (pg_name (i := 2) sc_law_small.nd rfl (Or.inr rfl)) (pss_cons (ps_setLc (i := 3) (own := [("other", 4)]) (g := gName 4) (by rfl) sc_law_small.nd rfl rfl (sw_true rfl rfl rfl (by decide +kernel)) (pi_range1 (by rfl) B.b_range (pa_cons pe_int pa_nil)) (blkOk_by (own := [("other", 4)]) (N := N_law_small) (sc := defScope s_law_small) (by decide +kernel)) (fun _ _ _ _ _ => (pg_name (i := 4) sc_law_small.nd rfl (Or.inl rfl))) (fun _ _ _ _ _ => (pts_one (pt_cmpR op_ne (pv 4) (pv 2) (nomark _)))) (fun _ _ _ _ _ => (pv 4)))
      (pss_cons (ps_set (i := 5) sc_law_small.nd rfl (Or.inr rfl) (pe_op op_mod (pe_callTy call_int1 (by rfl) B.b_int (by decide +kernel) (pa_cons (pe_op op_fdiv (pv 0) (pe_ix ix_list (pe_lst (pa_cons pe_int (pa_cons pe_int (pa_cons pe_int pa_nil)))) (pv 2) (fun _ _ => rfl))) pa_nil)) pe_int))
      (pss_one (ps_expr (pe_bm PySem.F.plainAttrs_list PySem.F.slot_list_append PySem.F.type_list_append mt_append (pv 1) (pa_cons (pe_callTy call_tuple_of (by rfl) B.b_tuple (by decide +kernel) (pa_cons (pe_lc (own := [("at", 6), ("other", 4)]) (g := gTup K 2 (gCons (gName 6) (gCons (gName 4) (gNil)))) (by rfl) sc_law_small.nd (pi_enum (by rfl) B.b_enumerate (pa_cons (pv 3) pa_nil)) (blkOk_by (own := [("at", 6), ("other", 4)]) (N := N_law_small) (sc := defScope s_law_small) (by decide +kernel)) (fun _ _ _ _ _ => (pg_tup rfl (pgs_cons (pg_name (i := 6) sc_law_small.nd rfl (Or.inl rfl)) (pgs_cons (pg_name (i := 4) sc_law_small.nd rfl (Or.inl rfl)) pgs_nil)))) (fun _ _ _ _ _ => (pts_one (pt_cmpR op_eq (pe_op op_mod (pe_callTy call_int1 (by rfl) B.b_int (by decide +kernel) (pa_cons (pe_op op_fdiv (pv 5) (pe_op op_add pe_int (pv 6))) pa_nil)) pe_int) pe_int (nomark _)))) (fun _ _ _ _ _ => (pv 4))) pa_nil)) pa_nil)))))))
      (pss_one (ps_ret (pe_callTy call_tuple_of (by rfl) B.b_tuple (by decide +kernel) (pa_cons (pv 1) pa_nil)))))), ?_⟩
  refine ⟨len_le (by decide : 0 ≤ 1000), fun W nW => ?_⟩
  refine ⟨3, rfl, by decide, by decide, for_range (lo := 0) (n := 3) (fun i σ H' => ∃ (As : List Addr) (rows : List (List Int)) (x2 x3 x5 : Option V), σ = [some (.int k), some (.ref W), x2, x3, none, x5, none] ∧ Same H H' ∧ H' W = some (.lst (As.map V.ref)) ∧ As.length = i ∧ rows.length = i ∧
    (∀ (j : Nat) (q : Addr) (r : List Int), As[j]? = some q → rows[j]? = some r → H' q = some (.tup (r.map V.int))) ∧ GoodRows 3 rows) ⟨[], [], none, none, none, rfl, same_new nW, upd_same, rfl, rfl, fun j q r e => by simp at e, fun j r e => by simp at e⟩ ?_ ?_⟩
  · rintro i σ H1 hi ⟨As, rows, x2, x3, x5, rfl, s1, hW, rfl, lr, hA, gr⟩
    have e0 : (0 : Int) + (As.length : Nat) = (As.length : Int) := Int.zero_add _
    rw [e0]
    -- others
    refine ⟨3, rfl, by decide, by decide, fun D nD => ?_⟩
    refine lc_range (lo := 0) (n := 3) (fun j H' => ∃ oth : List Int, Same H1 H' ∧ H' D = some (.lst (oth.map V.int)) ∧ oth.Pairwise (· < ·) ∧ oth.length ≤ j ∧ ∀ x ∈ oth, 0 ≤ x ∧ x < (j : Int) ∧ x ≠ (As.length : Int)) ⟨[], same_new nD, upd_same, .nil, Nat.le_refl _, fun x h => absurd h List.not_mem_nil⟩ ?_ ?_
    · rintro j H2 hj ⟨oth, s2, hD, pw, lo, rg⟩
      have e1 : (0 : Int) + (j : Nat) = (j : Int) := Int.zero_add _
      rw [e1]
      refine ⟨rfl, _, rfl, _, rfl, rfl, _, rfl, ite2 (fun e => ?_) (fun e => ⟨oth, s2, hD, pw, by omega, fun x hx => ⟨(rg x hx).1, by have := (rg x hx).2.1; omega, (rg x hx).2.2⟩⟩)⟩
      have ne : (j : Int) ≠ (As.length : Int) := fun z => by
        rw [z, decide_eq_true rfl] at e
        cases e
      refine ⟨_, rfl, _, hD, by rw [List.length_map]; exact len_lt (by omega), oth ++ [(j : Int)], same_mut s2 nD, by rw [upd_same, List.map_append]; rfl, List.pairwise_append.mpr ⟨pw, List.pairwise_singleton _ _, fun x hx y hy => ?_⟩, by rw [List.length_append]; exact Nat.succ_le_succ lo, fun x hx => ?_⟩
      · rw [List.mem_singleton.mp hy]
        exact (rg x hx).2.1
      · rcases List.mem_append.mp hx with z | z
        · exact ⟨(rg x z).1, by have := (rg x z).2.1; omega, (rg x z).2.2⟩
        · rw [List.mem_singleton.mp z]
          exact ⟨by omega, by omega, ne⟩
    · rintro H2 ⟨oth, s2, hD, pw, lo, rg⟩
      have lo3 : oth.length ≤ 3 := lo
      -- bits
      refine ⟨_, rfl, len_le (by decide : 3 ≤ 1000), fun l nl => ?_⟩
      have sl := same_new (o := .lst [.int 1, .int 4, .int 16]) nl
      have hl3 := upd_same (H := H2) (a := l) (o := .lst [.int 1, .int 4, .int 16])
      have s3 := s2.trans sl
      have hD3 := sl _ _ hD
      obtain ⟨c, c0, c1, hat⟩ : ∃ c : Int, 0 < c ∧ c < 1073741824 ∧ atI [V.int 1, V.int 4, V.int 16] (As.length : Int) = some (.int c) := by
        have h3 : As.length < 3 := hi
        rcases Nat.lt_trichotomy As.length 1 with z | z | z
        · exact ⟨1, by decide, by decide, by rw [show As.length = 0 by omega]; exact atI_nat (j := 0) rfl⟩
        · exact ⟨4, by decide, by decide, by rw [z]; exact atI_nat (j := 1) rfl⟩
        · exact ⟨16, by decide, by decide, by rw [show As.length = 2 by omega]; exact atI_nat (j := 2) rfl⟩
      refine ⟨_, rfl, l, _, _, .int c, rfl, rfl, SqL.of hl3, hat, _, _, rfl, rfl, ⟨c0, c1⟩, .inl ⟨_, rfl, _, _, rfl, rfl, (show (0 : Int) < 4 by decide), ?_⟩⟩
      generalize upd H2 l (.lst [.int 1, .int 4, .int 16]) = H3 at s3 hD3 ⊢
      have hW3 := s3 _ _ hW
      refine ⟨_, rfl, .inl ⟨rfl, _, SqL.of hW3⟩, _, rfl, D, _, rfl, SqL.of hD3, fun E2 nE => ?_⟩
      refine lc_enumL (xs := oth.map V.int) (fun j H' => ∃ rr : List Int, Same H3 H' ∧ H' E2 = some (.lst (rr.map V.int)) ∧ rr.Sublist (oth.take j)) ⟨[], same_new nE, upd_same, List.Sublist.refl _⟩ (fun j H' z => SqL.of (z.choose_spec.1 _ _ hD3)) ?_ ?_
      · rintro j x T H4 hx ⟨rr, s4, hE, sub⟩ nT
        rw [List.getElem?_map] at hx
        obtain ⟨v, hv, rfl⟩ := Option.map_eq_some_iff.mp hx
        have tk : oth.take (j + 1) = oth.take j ++ [v] := by
          rw [List.take_succ, hv]
          rfl
        have sT := same_new (o := .tup [.int (j : Nat), .int v]) nT
        have hE5 := sT _ _ hE
        have lrr : rr.length ≤ 3 := Nat.le_trans sub.length_le (by rw [List.length_take]; omega)
        have hj : j < 3 := by have := (List.getElem?_eq_some_iff.mp hv).1; omega
        refine ⟨T, _, rfl, SqT.of upd_same, rfl, _, _, rfl, _, _, rfl, rfl, rfl, ?_⟩
        refine ⟨_, rfl, _, rfl, _, _, rfl, rfl, _, _, rfl, rfl, ⟨by omega, by omega⟩, .inl ⟨_, rfl, _, _, rfl, rfl, (show (0 : Int) < 2 by decide), rfl, _, rfl, ite2 (fun e => ?_) (fun e => ?_)⟩⟩
        · refine ⟨_, rfl, _, hE5, by rw [List.length_map]; exact len_lt (by omega), rr ++ [v], same_mut (s4.trans sT) nE, by rw [upd_same, List.map_append]; rfl, ?_⟩
          rw [tk]
          exact sub.append (List.Sublist.refl _)
        · refine ⟨rr, s4.trans sT, hE5, ?_⟩
          rw [tk]
          exact sub.trans (List.sublist_append_left _ _)
      · rintro H4 ⟨rr, s4, hE, sub⟩
        rw [List.length_map, List.take_length] at sub
        refine ⟨E2, _, rfl, .inl ⟨SqL.of hE, fun t nt => ?_⟩⟩
        have st := same_new (o := .tup (rr.map V.int)) nt
        have s5 := s4.trans st
        have hW5 := s5 _ _ hW3
        refine ⟨W, _, _, rfl, rfl, hW5, by rw [List.length_map]; exact len_lt (by have : As.length < 3 := hi; omega), ?_⟩
        have g3 : GoodRow 3 rows.length rr := by
          refine ⟨pw.sublist sub, fun x hx => ?_, fun h => ?_⟩
          · have z := rg x (sub.subset hx)
            exact ⟨z.1, z.2.1⟩
          · have z := (rg _ (sub.subset h)).2.2
            rw [lr] at z
            exact z rfl
        refine ⟨As ++ [t], rows ++ [rr], _, _, _, rfl, same_mut (s1.trans (s3.trans s5)) nW, by rw [upd_same, List.map_append]; rfl, by rw [List.length_append]; rfl, by rw [List.length_append, lr]; rfl, ?_, gr.snoc g3⟩
        exact WebAt.snoc hW5 (fun j a r f1 f2 => (s3.trans s5) _ _ (hA j a r f1 f2)) (by omega) upd_same
  · rintro σ H1 ⟨As, rows, x2, x3, x5, rfl, s1, hW, lA, lr, hA, gr⟩
    refine ⟨_, rfl, W, _, rfl, .inl ⟨SqL.of hW, fun t nt => ?_⟩⟩
    have sn := same_new (o := .tup (As.map V.ref)) nt
    have at' : ∀ r ∈ rows, ∃ i : Nat, rows[i]? = some r := fun r hr => by
      obtain ⟨i, hi, e⟩ := List.getElem_of_mem hr
      exact ⟨i, by rw [← e]; exact List.getElem?_eq_getElem hi⟩
    refine q t rows _ (s1.trans sn) (none_of s1 nt) ⟨As, upd_same, by omega, fun i a r e1 e2 => sn _ _ (hA i a r e1 e2)⟩ ⟨by omega, by omega, fun r hr x hx => ?_, fun r hr => ?_, fun i r e => (gr i r e).2.2, fun r hr => ?_⟩
    · obtain ⟨i, e⟩ := at' r hr
      rw [lr]
      exact (gr i r e).2.1 x hx
    · obtain ⟨i, e⟩ := at' r hr
      exact (gr i r e).1
    · obtain ⟨i, e⟩ := at' r hr
      exact Nat.le_trans (gr i r e).few (by decide)
end
end Lw

set_option maxHeartbeats 4000000
/-! a card more; knots within pieces -/
namespace Hn
open PySem PySem.Spec PyProof.Rows L2 EF
open PySem.W (Frag keepIn)
/-- of two classes joined by a pair one head is lost -/
theorem heads_join {n : Nat} {R R2 : Int → Int → Prop} {A B a b : Int} (sy : ∀ u v, R u v → R v u) (tr : ∀ u v w, R u v → R v w → R u w) (h2 : ∀ u w : Int, R2 u w ↔ R u w ∨ (R u A ∧ R B w) ∨ (R u B ∧ R A w))
    (rg : ∀ w, R A w → 0 ≤ w ∧ w < (n : Int)) (rgB : ∀ w, R B w → 0 ≤ w ∧ w < (n : Int)) (ha : R A a) (hb : R B b) (la : ∀ w, R A w → a ≤ w) (lb : ∀ w, R B w → b ≤ w) (lt : a < b) {u : Nat} (hu : u < n) :
    (∀ w : Nat, w < n → R2 u w → u ≤ w) ↔ (∀ w : Nat, w < n → R u w → u ≤ w) ∧ (u : Int) ≠ b := by
  have ga := rg a ha
  have gb := rgB b hb
  constructor
  · intro h
    refine ⟨fun w hw r => h w hw ((h2 _ _).mpr (.inl r)), fun e => ?_⟩
    have z := h a.toNat (by omega) ((h2 _ _).mpr (.inr (.inr ⟨by rw [e]; exact sy _ _ hb, by rw [show ((a.toNat : Nat) : Int) = a by omega]; exact ha⟩)))
    omega
  · rintro ⟨h, ne⟩ w hw r
    rcases (h2 _ _).mp r with r | ⟨r1, r2⟩ | ⟨r1, r2⟩
    · exact h w hw r
    · have z := h a.toNat (by omega) (by rw [show ((a.toNat : Nat) : Int) = a by omega]; exact tr _ _ _ r1 ha)
      have y := lb _ r2
      omega
    · have z := h b.toNat (by omega) (by rw [show ((b.toNat : Nat) : Int) = b by omega]; exact tr _ _ _ r1 hb)
      have y := lb _ (sy _ _ r1)
      exact absurd (by omega : (u : Int) = b) ne
theorem heads_less {n : Nat} {p p2 : Nat → Bool} {b : Nat} (hb : b < n) (pb : p b = true) (h : ∀ u, u < n → (p2 u = true ↔ p u = true ∧ u ≠ b)) : ((List.range n).filter p2).length + 1 = ((List.range n).filter p).length := by
  have e : (List.range n).filter p2 = ((List.range n).filter p).filter (· != b) := by
    rw [List.filter_filter]
    refine List.filter_congr fun u hu => ?_
    rw [Bool.eq_iff_iff, h u (List.mem_range.mp hu), Bool.and_eq_true, bne_iff_ne, and_comm]
  have nd : ((List.range n).filter p).Nodup := List.Pairwise.filter _ List.nodup_range
  have m : b ∈ (List.range n).filter p := List.mem_filter.mpr ⟨List.mem_range.mpr hb, pb⟩
  rw [e, ← nd.erase_eq_filter, List.length_erase_of_mem m]
  have := List.length_pos_of_mem m
  omega
section
variable {rows rows2 : List (List Int)} {A B : Int}
/-- what hangs together with one card more -/
theorem joined_more (hin : InRange rows) (hl : rows2.length = rows.length) (hA : 0 ≤ A ∧ A < (rows.length : Int)) (hB : 0 ≤ B ∧ B < (rows.length : Int)) (hr : ∀ v w : Int, (0 ≤ v ∧ v < (rows.length : Int)) → (w ∈ rowAt rows2 v ↔ w ∈ rowAt rows v ∨ (v = A ∧ w = B))) {u : Int} (hu : 0 ≤ u ∧ u < (rows.length : Int)) (w : Int) :
    Joined rows2 u w ↔ Joined rows u w ∨ (Joined rows u A ∧ Joined rows B w) ∨ (Joined rows u B ∧ Joined rows A w) := by
  have up : ∀ {x y : Int}, (0 ≤ x ∧ x < (rows.length : Int)) → Joined rows x y → Joined rows2 x y := fun {x y} hx r => by
    induction r with
    | refl => exact .refl
    | fwd a hw ih => exact .fwd ih ((hr _ _ (a.range hin hx)).mpr (.inl hw))
    | bwd a h1 h2 hw ih => exact .bwd ih h1 (by rw [hl]; exact h2) ((hr _ _ ⟨h1, h2⟩).mpr (.inl hw))
  constructor
  · intro r
    have go : ∀ {v w : Int}, (Joined rows u v ∨ (Joined rows u A ∧ Joined rows B v) ∨ (Joined rows u B ∧ Joined rows A v)) → (Joined rows v w) → (Joined rows u w ∨ (Joined rows u A ∧ Joined rows B w) ∨ (Joined rows u B ∧ Joined rows A w)) := fun h s => by
      rcases h with h | ⟨h1, h2⟩ | ⟨h1, h2⟩
      · exact .inl (h.trans s)
      · exact .inr (.inl ⟨h1, h2.trans s⟩)
      · exact .inr (.inr ⟨h1, h2.trans s⟩)
    have rng : ∀ {v : Int}, (Joined rows u v ∨ (Joined rows u A ∧ Joined rows B v) ∨ (Joined rows u B ∧ Joined rows A v)) → 0 ≤ v ∧ v < (rows.length : Int) := fun h => by
      rcases h with h | ⟨_, h⟩ | ⟨_, h⟩
      · exact h.range hin hu
      · exact h.range hin hB
      · exact h.range hin hA
    induction r with
    | refl => exact .inl .refl
    | @fwd v w a hw ih =>
      rcases (hr _ _ (rng ih)).mp hw with z | ⟨rfl, rfl⟩
      · exact go ih (.fwd .refl z)
      · rcases ih with h | ⟨h1, h2⟩ | ⟨h1, h2⟩
        · exact .inr (.inl ⟨h, .refl⟩)
        · exact .inr (.inl ⟨h1, .refl⟩)
        · exact .inl h1
    | @bwd v w a h1 h2 hw ih =>
      rw [hl] at h2
      rcases (hr _ _ ⟨h1, h2⟩).mp hw with z | ⟨rfl, rfl⟩
      · exact go ih (.bwd .refl h1 h2 z)
      · rcases ih with h | ⟨h1, h2⟩ | ⟨h1, h2⟩
        · exact .inr (.inr ⟨h, .refl⟩)
        · exact .inl h1
        · exact .inr (.inr ⟨h1, .refl⟩)
  · have hAB : Joined rows2 A B := .fwd .refl ((hr _ _ hA).mpr (.inr ⟨rfl, rfl⟩))
    have hBA : Joined rows2 B A := .bwd .refl hA.1 (by rw [hl]; exact hA.2) ((hr _ _ hA).mpr (.inr ⟨rfl, rfl⟩))
    rintro (h | ⟨h1, h2⟩ | ⟨h1, h2⟩)
    · exact up hu h
    · exact ((up hu h1).trans hAB).trans (up hB h2)
    · exact ((up hu h1).trans hBA).trans (up hA h2)
theorem reach_more (hin : InRange rows) (hr : ∀ v w : Int, (0 ≤ v ∧ v < (rows.length : Int)) → w ∈ rowAt rows v → w ∈ rowAt rows2 v) {u w : Int} (hu : 0 ≤ u ∧ u < (rows.length : Int)) (r : Reach rows u w) : Reach rows2 u w := by
  induction r with
  | refl => exact .refl
  | step a hw ih => exact .step ih (hr _ _ (a.range hin hu) hw)
/-- the least of a class -/
theorem cls_least {n : Nat} {R : Int → Int → Prop} {ks : List (List Int)} (a : ClassList n R ks) {u : Nat} (hu : u < n) (rf : R u u) : ∃ x, R u x ∧ ∀ w, R u w → x ≤ w := by
  obtain ⟨k, hk, c⟩ := a.all u hu
  cases k with
  | nil => exact absurd ((c.2 u).mpr rf) List.not_mem_nil
  | cons x r =>
    refine ⟨x, (c.2 x).mp List.mem_cons_self, fun w hw => ?_⟩
    rcases List.mem_cons.mp ((c.2 w).mpr hw) with z | z
    · omega
    · have := (List.pairwise_cons.mp c.1).1 w z
      omega
/-- just the one piece, or two become one -/
theorem pieces_more (hin : InRange rows) (hin2 : InRange rows2) (hl : rows2.length = rows.length) (hA : 0 ≤ A ∧ A < (rows.length : Int)) (hB : 0 ≤ B ∧ B < (rows.length : Int)) (hr : ∀ v w : Int, (0 ≤ v ∧ v < (rows.length : Int)) → (w ∈ rowAt rows2 v ↔ w ∈ rowAt rows v ∨ (v = A ∧ w = B)))
    {ks ks2 : List (List Int)} (a : ClassList rows.length (Joined rows) ks) (a2 : ClassList rows.length (Joined rows2) ks2) : ks.length = ks2.length ∨ ks.length = ks2.length + 1 := by
  have nu : ∀ u : Nat, u < rows.length → 0 ≤ (u : Int) ∧ (u : Int) < (rows.length : Int) := fun u hu => ⟨by omega, by omega⟩
  by_cases j : Joined rows A B
  · left
    have z : ClassList rows.length (Joined rows) ks2 := a2.congr fun u w hu => by
      rw [joined_more hin hl hA hB hr (nu u hu) w]
      constructor
      · rintro (h | ⟨h1, h2⟩ | ⟨h1, h2⟩)
        · exact h
        · exact (h1.trans j).trans h2
        · exact (h1.trans (j.symm hin hA)).trans h2
      · exact .inl
    rw [a.ext z]
  · right
    -- within the people
    let R : Int → Int → Prop := fun u w => (0 ≤ u ∧ u < (rows.length : Int)) ∧ Joined rows u w
    let R2 : Int → Int → Prop := fun u w => (0 ≤ u ∧ u < (rows.length : Int)) ∧ Joined rows2 u w
    have c1 : ClassList rows.length R ks := a.congr fun u w hu => ⟨fun h => ⟨nu u hu, h⟩, fun h => h.2⟩
    have c2 : ClassList rows.length R2 ks2 := a2.congr fun u w hu => ⟨fun h => ⟨nu u hu, h⟩, fun h => h.2⟩
    have rg : ∀ {u w : Int}, R u w → 0 ≤ w ∧ w < (rows.length : Int) := fun h => h.2.range hin h.1
    have rg2 : ∀ {u w : Int}, R2 u w → 0 ≤ w ∧ w < (rows.length : Int) := fun {u w} h => by
      have z := h.2.range hin2 (by rw [hl]; exact h.1)
      rw [hl] at z
      exact z
    have sy : ∀ u v, R u v → R v u := fun u v h => ⟨rg h, h.2.symm hin h.1⟩
    have tr : ∀ u v w, R u v → R v w → R u w := fun u v w h k => ⟨h.1, h.2.trans k.2⟩
    have sy2 : ∀ u v, R2 u v → R2 v u := fun u v h => ⟨rg2 h, h.2.symm hin2 (by rw [hl]; exact h.1)⟩
    have tr2 : ∀ u v w, R2 u v → R2 v w → R2 u w := fun u v w h k => ⟨h.1, h.2.trans k.2⟩
    have h2 : ∀ u w : Int, R2 u w ↔ R u w ∨ (R u A ∧ R B w) ∨ (R u B ∧ R A w) := fun u w => by
      constructor
      · rintro ⟨hu, h⟩
        rcases (joined_more hin hl hA hB hr hu w).mp h with z | ⟨z1, z2⟩ | ⟨z1, z2⟩
        · exact .inl ⟨hu, z⟩
        · exact .inr (.inl ⟨⟨hu, z1⟩, hB, z2⟩)
        · exact .inr (.inr ⟨⟨hu, z1⟩, hA, z2⟩)
      · rintro (h | ⟨h, k⟩ | ⟨h, k⟩)
        · exact ⟨h.1, (joined_more hin hl hA hB hr h.1 w).mpr (.inl h.2)⟩
        · exact ⟨h.1, (joined_more hin hl hA hB hr h.1 w).mpr (.inr (.inl ⟨h.2, k.2⟩))⟩
        · exact ⟨h.1, (joined_more hin hl hA hB hr h.1 w).mpr (.inr (.inr ⟨h.2, k.2⟩))⟩
    have h2' : ∀ u w : Int, R2 u w ↔ R u w ∨ (R u B ∧ R A w) ∨ (R u A ∧ R B w) := fun u w => (h2 u w).trans ⟨fun h => h.elim .inl fun z => .inr z.symm, fun h => h.elim .inl fun z => .inr z.symm⟩
    obtain ⟨nA, eA⟩ : ∃ nA : Nat, A = (nA : Int) := ⟨A.toNat, by omega⟩
    obtain ⟨nB, eB⟩ : ∃ nB : Nat, B = (nB : Int) := ⟨B.toNat, by omega⟩
    obtain ⟨x, hx, lx⟩ := cls_least c1 (u := nA) (by omega) ⟨nu nA (by omega), .refl⟩
    obtain ⟨y, hy, ly⟩ := cls_least c1 (u := nB) (by omega) ⟨nu nB (by omega), .refl⟩
    rw [← eA] at hx lx
    rw [← eB] at hy ly
    have gx := rg hx
    have gy := rg hy
    have nxy : x ≠ y := fun e => j (by
      rw [← e] at hy
      exact hx.2.trans (sy _ _ hy).2)
    have p1 := c1.heads (p := fun u => @decide (∀ w : Nat, w < rows.length → R u w → u ≤ w) (Classical.propDecidable _)) (fun u v hu hv r w => ⟨fun k => tr _ _ _ (sy _ _ r) k, fun k => tr _ _ _ r k⟩) (fun u hu => ⟨nu u hu, .refl⟩) (fun u w _ r => rg r) (fun u hu => @decide_eq_true_iff _ (Classical.propDecidable _))
    have p2 := c2.heads (p := fun u => @decide (∀ w : Nat, w < rows.length → R2 u w → u ≤ w) (Classical.propDecidable _)) (fun u v hu hv r w => ⟨fun k => tr2 _ _ _ (sy2 _ _ r) k, fun k => tr2 _ _ _ r k⟩) (fun u hu => ⟨nu u hu, .refl⟩) (fun u w _ r => rg2 r) (fun u hu => @decide_eq_true_iff _ (Classical.propDecidable _))
    rw [p1, p2]
    rcases Int.lt_or_lt_of_ne nxy with lt | lt
    · refine (heads_less (b := y.toNat) (by omega) (@decide_eq_true _ (Classical.propDecidable _) fun w hw r => ?_) fun u hu => ?_).symm
      · rw [show ((y.toNat : Nat) : Int) = y by omega] at r
        have := ly _ (tr _ _ _ hy r)
        omega
      · have z := heads_join sy tr h2 (fun w h => rg h) (fun w h => rg h) hx hy lx ly lt hu
        rw [@decide_eq_true_iff _ (Classical.propDecidable _), @decide_eq_true_iff _ (Classical.propDecidable _)]
        exact z.trans ⟨fun h => ⟨h.1, fun e => h.2 (by omega)⟩, fun h => ⟨h.1, fun e => h.2 (by omega)⟩⟩
    · refine (heads_less (b := x.toNat) (by omega) (@decide_eq_true _ (Classical.propDecidable _) fun w hw r => ?_) fun u hu => ?_).symm
      · rw [show ((x.toNat : Nat) : Int) = x by omega] at r
        have := lx _ (tr _ _ _ hx r)
        omega
      · have z := heads_join sy tr h2' (fun w h => rg h) (fun w h => rg h) hy hx ly lx lt hu
        rw [@decide_eq_true_iff _ (Classical.propDecidable _), @decide_eq_true_iff _ (Classical.propDecidable _)]
        exact z.trans ⟨fun h => ⟨h.1, fun e => h.2 (by omega)⟩, fun h => ⟨h.1, fun e => h.2 (by omega)⟩⟩
/-- a knot lies in one piece alone -/
theorem knot_piece (hin : InRange rows) {ks ps : List (List Int)} (a : ClassList rows.length (Mutual rows) ks) (b : ClassList rows.length (Joined rows) ps) {k : List Int} (hk : k ∈ ks) : (ps.filter fun q => k.all fun x => decide (x ∈ q)).length = 1 := by
  obtain ⟨u, hu, c⟩ := a.cls k hk
  have hu' : 0 ≤ (u : Int) ∧ (u : Int) < (rows.length : Int) := ⟨by omega, by omega⟩
  have uk : (u : Int) ∈ k := (c.2 u).mpr ⟨.refl, .refl⟩
  obtain ⟨q, hq, d⟩ := b.all u hu
  have e : (ps.filter fun q => k.all fun x => decide (x ∈ q)) = ps.filter (· == q) := by
    refine List.filter_congr fun r hr => ?_
    rw [Bool.eq_iff_iff, List.all_eq_true, beq_iff_eq]
    constructor
    · intro h
      have ur := of_decide_eq_true (h u uk)
      obtain ⟨v, hv, d'⟩ := b.cls r hr
      have vu := (d'.2 u).mp ur
      have hv' : 0 ≤ (v : Int) ∧ (v : Int) < (rows.length : Int) := ⟨by omega, by omega⟩
      refine IsCls.uniq (R := Joined rows) (u := u) ⟨d'.1, fun w => (d'.2 w).trans ⟨fun h => (vu.symm hin hv').trans h, fun h => vu.trans h⟩⟩ d
    · rintro rfl x hx
      exact decide_eq_true ((d.2 x).mpr ((c.2 x).mp hx).1.joined)
  rw [e, ← List.countP_eq_length_filter]
  have z := b.nd.count (a := q)
  rw [if_pos hq] at z
  exact z
end
end Hn

set_option maxHeartbeats 4000000
/-! webs called otherwise, turned about, with a card more: what is told of them -/
namespace Lw
open PySem PySem.Spec PyProof.Rows L2 EF Hn
open PySem.W (Frag keepIn)
theorem turn_of {n : Nat} {ns : List Int} (h : ns.Perm ((List.range n).map fun (k : Nat) => (k : Int))) : Turn n ns := by
  refine ⟨by rw [h.length_eq, List.length_map, List.length_range], h.nodup_iff.mpr ?_, fun x hx => ?_⟩
  · refine List.pairwise_map.mpr (List.nodup_range.imp fun {a b} ne e => ne ?_)
    exact Int.ofNat.inj e
  · obtain ⟨k, hk, rfl⟩ := List.mem_map.mp (h.mem_iff.mp hx)
    have := List.mem_range.mp hk
    exact ⟨by omega, by omega⟩
section
variable {rows rows' fs gs ks ms ks' : List (List Int)} {ns : List Int}
theorem mem_rowAt {r : List Int} (h : r ∈ rows) : ∃ i : Nat, i < rows.length ∧ r = rowAt rows (i : Nat) ∧ rows[i]? = some r := by
  obtain ⟨i, hi, e⟩ := List.getElem_of_mem h
  have z := rowAt_get hi
  have y : rows[i]? = some r := by rw [← e]; exact List.getElem?_eq_getElem hi
  exact ⟨i, hi, Option.some.inj (y.symm.trans z), y⟩
theorem _root_.Hn.WebRows.few_of {rows : List (List Int)} (h1 : 1 ≤ rows.length) (h9 : rows.length ≤ 9) (hr : ∀ i : Nat, i < rows.length → (rowAt rows i).Pairwise (· < ·) ∧ (∀ w ∈ rowAt rows i, 0 ≤ w ∧ w < (rows.length : Int)) ∧ (i : Int) ∉ rowAt rows i) : WebRows rows := by
  refine ⟨h1, h9, fun r hr' w hw => ?_, fun r hr' => ?_, fun i r e => ?_, fun r hr' => ?_⟩
  · obtain ⟨i, hi, rfl, _⟩ := mem_rowAt hr'
    exact (hr i hi).2.1 w hw
  · obtain ⟨i, hi, rfl, _⟩ := mem_rowAt hr'
    exact (hr i hi).1
  · have hi := (List.getElem?_eq_some_iff.mp e).1
    have z := rowAt_get hi
    rw [Option.some.inj (e.symm.trans z)]
    exact (hr i hi).2.2
  · obtain ⟨i, hi, rfl, _⟩ := mem_rowAt hr'
    have z := few_below (asc_nodup (hr i hi).1) (hr i hi).2.1
    omega
theorem wr_row (wr : WebRows rows) {i : Nat} (hi : i < rows.length) : (rowAt rows i).Pairwise (· < ·) ∧ (∀ w ∈ rowAt rows i, 0 ≤ w ∧ w < (rows.length : Int)) ∧ (i : Int) ∉ rowAt rows i := by
  have z := rowAt_get hi
  exact ⟨wr.up _ (List.mem_of_getElem? z), fun w hw => wr.rng _ (List.mem_of_getElem? z) w hw, wr.own i _ z⟩
theorem called_web (wr : WebRows rows) (t : Turn rows.length ns) (c : Called ns rows rows') : WebRows rows' := by
  refine WebRows.few_of (by rw [c.1]; exact wr.one) (by rw [c.1]; exact wr.nine) fun j hj => ?_
  rw [c.1] at hj
  obtain ⟨i, hi, e⟩ := t.surj (k := (j : Int)) ⟨by omega, by omega⟩
  have im := c.2 i hi
  rw [e] at im
  have g := wr_row wr hi
  refine ⟨im.1, fun w hw => ?_, fun h => ?_⟩
  · obtain ⟨x, hx, rfl⟩ := (im.2 w).mp hw
    rw [c.1]
    exact t.range (g.2.1 x hx)
  · obtain ⟨x, hx, e2⟩ := (im.2 _).mp h
    rw [← e] at e2
    have z := t.inj ⟨by omega, by omega⟩ (g.2.1 x hx) e2
    rw [← z] at hx
    exact g.2.2 hx
/-- whom they find, called otherwise -/
theorem called_finds (wr : WebRows rows) (t : Turn rows.length ns) (c : Called ns rows rows') (f : Finds rows fs) (d : Called ns fs gs) (g : Finds rows' ks) : ks = gs := by
  refine finds_uniq g ⟨by rw [d.1, f.1, c.1], fun j r e => ?_⟩
  have hj := (List.getElem?_eq_some_iff.mp e).1
  rw [d.1, f.1] at hj
  obtain ⟨i, hi, ei⟩ := t.surj (k := (j : Int)) ⟨by omega, by omega⟩
  have z := rowAt_get (rows := gs) (i := j) (by rw [d.1, f.1]; exact hj)
  obtain rfl := Option.some.inj (e.symm.trans z)
  have im := d.2 i (by rw [f.1]; exact hi)
  rw [ei] at im
  have fi := f.2 i _ (rowAt_get (by rw [f.1]; exact hi))
  have hi' : 0 ≤ (i : Int) ∧ (i : Int) < (rows.length : Int) := ⟨by omega, by omega⟩
  have mem : ∀ k, k ∈ rowAt gs (j : Nat) ↔ Reach rows' j k := fun k => by
    rw [im.2 k, ← ei, c.reach t wr.rng hi' k]
    exact ⟨fun ⟨x, hx, e⟩ => ⟨x, (fi.2.1 x).mp hx, e⟩, fun ⟨x, hx, e⟩ => ⟨x, (fi.2.1 x).mpr hx, e⟩⟩
  refine ⟨im.1, mem, ?_⟩
  have few := few_below (n := rows.length) (asc_nodup im.1) fun k hk => by
    have z := ((mem k).mp hk).range (called_web wr t c).rng ⟨by omega, by rw [c.1]; omega⟩
    rw [c.1] at z
    exact z
  have := wr.nine
  omega
theorem called_pieces (wr : WebRows rows) (t : Turn rows.length ns) (c : Called ns rows rows') (a : isPieces rows ks) (hl : ms.length = ks.length) (hm : ∀ (i : Nat) (k m : List Int), ks[i]? = some k → ms[i]? = some m → Img ns k m) (pm : ks'.Perm ms) (srt : ks'.Pairwise fun q r => ¬ r < q) (b : isPieces rows' gs) : gs = ks' := by
  have z := ClassList.called a t (R' := Joined rows') (fun u hu y => c.joined t wr.rng ⟨by omega, by omega⟩ y) (fun u w hu h => h.range wr.rng ⟨by omega, by omega⟩) hl hm pm srt
  unfold isPieces at b
  rw [c.1] at b
  exact b.ext z
theorem called_knots (wr : WebRows rows) (t : Turn rows.length ns) (c : Called ns rows rows') (a : isKnots rows ks) (hl : ms.length = ks.length) (hm : ∀ (i : Nat) (k m : List Int), ks[i]? = some k → ms[i]? = some m → Img ns k m) (pm : ks'.Perm ms) (srt : ks'.Pairwise fun q r => ¬ r < q) (b : isKnots rows' gs) : gs = ks' := by
  have z := ClassList.called a t (R' := Mutual rows') (fun u hu y => c.mutual t wr.rng ⟨by omega, by omega⟩ y) (fun u w hu h => h.1.range wr.rng ⟨by omega, by omega⟩) hl hm pm srt
  unfold isKnots at b
  rw [c.1] at b
  exact b.ext z
/-- each card turned about -/
def About (rows rows' : List (List Int)) : Prop := rows'.length = rows.length ∧ ∀ i : Nat, i < rows.length → (rowAt rows' i).Pairwise (· < ·) ∧ ∀ w, w ∈ rowAt rows' i ↔ ∃ j : Nat, j < rows.length ∧ w = j ∧ (i : Int) ∈ rowAt rows j
theorem about_web (wr : WebRows rows) (c : About rows rows') : WebRows rows' := by
  refine WebRows.few_of (by rw [c.1]; exact wr.one) (by rw [c.1]; exact wr.nine) fun j hj => ?_
  rw [c.1] at hj
  have im := c.2 j hj
  refine ⟨im.1, fun w hw => ?_, fun h => ?_⟩
  · obtain ⟨x, hx, rfl, _⟩ := (im.2 w).mp hw
    rw [c.1]
    exact ⟨by omega, by omega⟩
  · obtain ⟨x, hx, e, m⟩ := (im.2 _).mp h
    rw [← Int.ofNat.inj e] at m
    exact (wr_row wr hj).2.2 m
theorem about_reach (wr : WebRows rows) (c : About rows rows') {u w : Int} (hu : 0 ≤ u ∧ u < (rows.length : Int)) (hw : 0 ≤ w ∧ w < (rows.length : Int)) : Reach rows' u w ↔ Reach rows w u := by
  have hin2 := (about_web wr c).rng
  constructor
  · intro r
    clear hw
    induction r with
    | refl => exact .refl
    | @step v w a hv ih =>
      have g := a.range hin2 (by rw [c.1]; exact hu)
      rw [c.1] at g
      obtain ⟨m, rfl⟩ : ∃ m : Nat, v = (m : Int) := ⟨v.toNat, by omega⟩
      obtain ⟨j, hj, rfl, mj⟩ := ((c.2 m (by omega)).2 w).mp hv
      exact .head mj ih
  · intro r
    clear hu
    induction r with
    | refl => exact .refl
    | @step v u a hv ih =>
      have g := a.range wr.rng hw
      have gu := row_range wr.rng hv
      obtain ⟨m, rfl⟩ : ∃ m : Nat, v = (m : Int) := ⟨v.toNat, by omega⟩
      obtain ⟨x, rfl⟩ : ∃ x : Nat, u = (x : Int) := ⟨u.toNat, by omega⟩
      exact .head (((c.2 x (by omega)).2 m).mpr ⟨m, by omega, rfl, hv⟩) ih
theorem about_knots (wr : WebRows rows) (c : About rows rows') (a : isKnots rows ks) (b : isKnots rows' gs) : gs = ks := by
  unfold isKnots at b
  rw [c.1] at b
  have wr2 := about_web wr c
  refine b.ext (ClassList.congr a fun u w hu => ?_)
  have hu' : 0 ≤ (u : Int) ∧ (u : Int) < (rows.length : Int) := ⟨by omega, by omega⟩
  constructor
  · rintro ⟨h1, h2⟩
    have hw := h1.range wr.rng hu'
    exact ⟨(about_reach wr c hu' hw).mpr h2, (about_reach wr c hw hu').mpr h1⟩
  · rintro ⟨h1, h2⟩
    have hw := h1.range wr2.rng (by rw [c.1]; exact hu')
    rw [c.1] at hw
    exact ⟨(about_reach wr c hw hu').mp h2, (about_reach wr c hu' hw).mp h1⟩
/-- a card more -/
theorem set_row {A : Nat} {r : List Int} (hA : A < rows.length) (v : Int) (hv : 0 ≤ v) : rowAt (rows.set A r) v = if v = (A : Int) then r else rowAt rows v := by
  unfold rowAt
  by_cases e : v = (A : Int)
  · rw [if_pos e, e, Int.toNat_natCast, List.getD_eq_getElem?_getD, List.getElem?_set_self hA]
    rfl
  · rw [if_neg e, List.getD_eq_getElem?_getD, List.getElem?_set_ne (by omega), List.getD_eq_getElem?_getD]
theorem more_mem {A : Nat} {c : Int} {r : List Int} (hA : A < rows.length) (hr : ∀ w, w ∈ r ↔ w ∈ rowAt rows (A : Nat) ∨ w = c) (v w : Int) (hv : 0 ≤ v ∧ v < (rows.length : Int)) : w ∈ rowAt (rows.set A r) v ↔ w ∈ rowAt rows v ∨ (v = (A : Int) ∧ w = c) := by
  rw [set_row hA v hv.1]
  by_cases e : v = (A : Int)
  · rw [if_pos e, hr w, e]
    exact ⟨fun h => h.imp_right fun z => ⟨rfl, z⟩, fun h => h.imp_right fun z => z.2⟩
  · rw [if_neg e]
    exact ⟨.inl, fun h => h.elim (fun z => z) fun z => absurd z.1 e⟩
theorem more_web {A : Nat} {c : Int} {r : List Int} (wr : WebRows rows) (hA : A < rows.length) (hc : 0 ≤ c ∧ c < (rows.length : Int)) (ne : (A : Int) ≠ c) (up : r.Pairwise (· < ·)) (hr : ∀ w, w ∈ r ↔ w ∈ rowAt rows (A : Nat) ∨ w = c) : WebRows (rows.set A r) := by
  refine WebRows.few_of (by rw [List.length_set]; exact wr.one) (by rw [List.length_set]; exact wr.nine) fun j hj => ?_
  rw [List.length_set] at hj ⊢
  have g := wr_row wr hj
  rw [set_row hA j (by omega)]
  by_cases e : (j : Int) = (A : Int)
  · rw [if_pos e]
    have eA : j = A := Int.ofNat.inj e
    rw [eA] at g ⊢
    refine ⟨up, fun w hw => ?_, fun h => ?_⟩
    · rcases (hr w).mp hw with z | z
      · exact g.2.1 w z
      · rw [z]
        exact hc
    · rcases (hr _).mp h with z | z
      · exact g.2.2 z
      · exact ne z
  · rw [if_neg e]
    exact g
theorem more_finds {A : Nat} {c : Int} {r : List Int} (wr : WebRows rows) (hA : A < rows.length) (hc : 0 ≤ c ∧ c < (rows.length : Int)) (hr : ∀ w, w ∈ r ↔ w ∈ rowAt rows (A : Nat) ∨ w = c) (f : Finds rows fs) (g : Finds (rows.set A r) gs) :
    fs.length = gs.length ∧ (∀ i : Nat, i < fs.length → ∀ x ∈ rowAt fs i, x ∈ rowAt gs i) ∧ c ∈ rowAt gs (A : Nat) := by
  have lg : gs.length = rows.length := by rw [g.1, List.length_set]
  refine ⟨by rw [f.1, lg], fun i hi x hx => ?_, ?_⟩
  · rw [f.1] at hi
    have z := f.2 i _ (rowAt_get (by rw [f.1]; exact hi))
    have y := g.2 i _ (rowAt_get (by rw [lg]; exact hi))
    exact (y.2.1 x).mpr (reach_more wr.rng (fun v w hv hw => (more_mem hA hr v w hv).mpr (.inl hw)) ⟨by omega, by omega⟩ ((z.2.1 x).mp hx))
  · have y := g.2 A _ (rowAt_get (by rw [lg]; exact hA))
    exact (y.2.1 c).mpr (.step .refl ((more_mem hA hr A c ⟨by omega, by omega⟩).mpr (.inr ⟨rfl, rfl⟩)))
theorem more_has {A : Nat} {c : Int} {r : List Int} (hA : A < rows.length) (hr : ∀ w, w ∈ r ↔ w ∈ rowAt rows (A : Nat) ∨ w = c) (g : Finds (rows.set A r) gs) : gs.length = rows.length ∧ c ∈ rowAt gs (A : Nat) := by
  have lg : gs.length = rows.length := by rw [g.1, List.length_set]
  have y := g.2 A _ (rowAt_get (by rw [lg]; exact hA))
  exact ⟨lg, (y.2.1 c).mpr (.step .refl ((more_mem hA hr A c ⟨by omega, by omega⟩).mpr (.inr ⟨rfl, rfl⟩)))⟩
theorem more_pieces {A : Nat} {c : Int} {r : List Int} (wr : WebRows rows) (wr2 : WebRows (rows.set A r)) (hA : A < rows.length) (hc : 0 ≤ c ∧ c < (rows.length : Int)) (hr : ∀ w, w ∈ r ↔ w ∈ rowAt rows (A : Nat) ∨ w = c) (f : isPieces rows ks) (g : isPieces (rows.set A r) ms) : ks.length = ms.length ∨ ks.length = ms.length + 1 := by
  unfold isPieces at g
  rw [List.length_set] at g
  exact pieces_more wr.rng wr2.rng List.length_set ⟨by omega, by omega⟩ hc (more_mem hA hr) f g
end
end Lw

set_option maxHeartbeats 8000000
namespace Lw
open PySem PySem.Spec PyProof.Rows L2 EF Hn
open PySem.W (Frag keepIn)
abbrev s_law_right : Stmt := top 38
abbrev N_law_right : List Str := ["bag", "web", "many", "left", "names", "other", "person", "card", "pocket", "more", "knot", "piece", "one"]
theorem sc_law_right : FnScope N_law_right ["bag", "web"] (defScope s_law_right) := ⟨rfl, rfl, rfl, by decide +kernel, rfl, by decide +kernel, by decide +kernel⟩
def spRight : Sp := fun vs H Q _ => ∃ (b g p : Addr) (rows : List (List Int)), vs = [.ref b, .ref p] ∧ BagAt H b g ∧ WebAt H p rows ∧ WebRows rows ∧ ∀ H', But b g H H' → BagAt H' b g → Q (.bl true) H'
theorem eqvs_rows : ∀ rs : List (List Int), PyData.eqvAll (rs.map rowD) (rs.map rowD) = true
  | [] => rfl
  | r :: rs => by
    show (PyData.eqv (rowD r) (rowD r) && PyData.eqvAll (rs.map rowD) (rs.map rowD)) = true
    rw [eqvs_rows rs, eqv_row, decide_eq_true rfl]
    rfl
theorem ne_grid {K : Frag} {H : Hp} {p q : Addr} {rs : List (List Int)} {Q : VK} (a : Grid K true H p rs) (b : Grid K true H q rs) (h : Q (.bl false) H) : rNeD K (.ref p) (.ref q) H Q :=
  ⟨gridD rs, gridD rs, a.dp, b.dp, (shaped_rows rs).2, (shaped_rows rs).2, by
    rw [show PyData.eqv (gridD rs) (gridD rs) = true from eqvs_rows rs]
    exact h⟩
theorem sl_tup' {K : Frag} {H : Hp} {a : Addr} {xs : List V} {lo hi : Option Int} {Q : VK} (h : H a = some (.tup xs)) (q : ∀ p H', Same H H' → H' p = some (.tup (cutV xs lo hi)) → Q (.ref p) H') : rSlA K (.ref a) lo hi H Q :=
  ⟨a, xs, rfl, SqT.of h, fun e => q a H (Same.refl H) (by rw [cut_all e]; exact h), fun _ p np => q p _ (same_new np) upd_same⟩
theorem cat_tup' {K : Frag} {H : Hp} {a c : Addr} {xs ys : List V} {Q : VK} (h : H a = some (.tup xs)) (k : H c = some (.tup ys)) (hl : xs.length + ys.length ≤ 1000) (q : ∀ p H', Same H H' → H' p = some (.tup (xs ++ ys)) → Q (.ref p) H') : rCatA K (.ref a) (.ref c) H Q :=
  ⟨a, c, xs, ys, rfl, rfl, SqT.of h, SqT.of k, len_le hl, fun e => q c H (Same.refl H) (by rw [e]; exact k), fun _ e => q a H (Same.refl H) (by rw [e, List.append_nil]; exact h), fun _ _ p np => q p _ (same_new np) upd_same⟩
theorem set_split {α : Type} : ∀ {xs : List α} {i : Nat} {y : α}, i < xs.length → (xs.take i ++ [y]) ++ xs.drop (i + 1) = xs.set i y
  | [], i, y, h => absurd h (Nat.not_lt_zero _)
  | x :: xs, 0, y, _ => rfl
  | x :: xs, i + 1, y, h => by
    show x :: ((xs.take i ++ [y]) ++ xs.drop (i + 1)) = x :: xs.set i y
    rw [set_split (Nat.lt_of_succ_lt_succ h)]
theorem webAt_set {H H' : Hp} {m t : Addr} {rows : List (List Int)} {as : List Addr} {A : Nat} {r : List Int} (h2 : as.length = rows.length) (h3 : ∀ (i : Nat) (q : Addr) (r : List Int), as[i]? = some q → rows[i]? = some r → H q = some (.tup (r.map V.int))) (s : Same H H') (hA : A < rows.length)
    (ht : H' t = some (.tup (r.map V.int))) (hm : H' m = some (.tup ((as.set A t).map V.ref))) : WebAt H' m (rows.set A r) := by
  refine ⟨as.set A t, hm, by rw [List.length_set, List.length_set]; exact h2, fun i q r' e1 e2 => ?_⟩
  by_cases e : A = i
  · rw [← e, List.getElem?_set_self (by omega)] at e1
    rw [← e, List.getElem?_set_self hA] at e2
    rw [← Option.some.inj e1, ← Option.some.inj e2]
    exact ht
  · rw [List.getElem?_set_ne e] at e1 e2
    exact s _ _ (h3 i q r' e1 e2)
theorem erase_perm : ∀ {lf : List Int} {k : Nat} {x : Int}, lf[k]? = some x → (x :: lf.eraseIdx k).Perm lf
  | [], k, x, h => by simp at h
  | y :: lf, 0, x, h => by
    cases h
    exact List.Perm.refl _
  | y :: lf, k + 1, x, h => by
    show (x :: y :: lf.eraseIdx k).Perm (y :: lf)
    exact (List.Perm.swap y x _).trans ((erase_perm (lf := lf) h).cons y)
theorem erase_map : ∀ {lf : List Int} {k : Nat}, (lf.map V.int).eraseIdx k = (lf.eraseIdx k).map V.int
  | [], k => rfl
  | y :: lf, 0 => rfl
  | y :: lf, k + 1 => by
    show V.int y :: (lf.map V.int).eraseIdx k = V.int y :: (lf.eraseIdx k).map V.int
    rw [erase_map]
theorem pop_perm {lf ns : List Int} {X : List Int} {k : Nat} {x : Int} (hx : lf[k]? = some x) (h : (ns ++ lf).Perm X) : ((ns ++ [x]) ++ lf.eraseIdx k).Perm X := by
  refine List.Perm.trans ?_ h
  rw [List.append_assoc]
  exact List.Perm.append_left ns (erase_perm hx)
section
variable {P : Program} {w : World} {K : Frag} {mg : Str → Option Value} {base : Heap} {C : Addr}
theorem k_right (B : Bl mg) (D : Dfn K mg "_law_right" s_law_right ["bag", "web"]) (G_law_pick : Kept P w K mg base 1 "_law_pick" ["bag", "many"] spPick)
    (Gfinds : KeptX P w K mg base 7 "finds" ["web"] (spRows K Finds)) (Gpieces : KeptX P w K mg base 7 "pieces" ["web"] (spRows K isPieces)) (Gknots : KeptX P w K mg base 7 "knots" ["web"] (spRows K isKnots))
    (G_law_called : Kept P w K mg base 1 "_law_called" ["web", "names"] (spCalled K)) (G_law_lots : Kept P w K mg base 1 "_law_lots" ["lots", "names"] (spLots K)) (G_law_turned_about : Kept P w K mg base 1 "_law_turned_about" ["web"] (spAbout K)) (G_law_are_kept : Kept P w K mg base 1 "_law_are_kept" ["here", "there"] (spKept K)) :
    Kept P w K mg base 8 "_law_right" ["bag", "web"] spRight := by
  refine D.keptC (N := N_law_right) sc_law_right (fun vs H Q E h => ?_) (fun f cdv A outer s H vs Q E hcd hr h => ?_)
  · obtain ⟨b, g, p, rows, rfl, _⟩ := h
    rfl
  obtain ⟨b, g, p, rows, rfl, hb, wa, wr, q⟩ := h
  refine ⟨_, (pss_cons (ps_set (i := 2) sc_law_right.nd rfl (Or.inl rfl) (pe_callB call_len_seq (by rfl) B.b_len PySem.boot_len (pa_cons (pv 1) pa_nil)))
      (pss_cons (ps_par (i := 3) (j := 4) rfl sc_law_right.nd rfl rfl (by decide) rfl rfl (pa_cons (pe_listRg rfl (by rfl) B.b_list (prg_1 (by rfl) B.b_range (pv 2))) (pa_cons (pe_lst pa_nil) pa_nil)) (by rfl))
      (pss_cons (ps_while PassesOwn.never (pt_cmpR op_gt (pe_callB call_len_seq (by rfl) B.b_len PySem.boot_len (pa_cons (pv 3) pa_nil)) pe_int (nomark _)) (pss_one (ps_expr (pe_bm PySem.F.plainAttrs_list PySem.F.slot_list_append PySem.F.type_list_append mt_append (pv 4) (pa_cons (pe_bm PySem.F.plainAttrs_list PySem.F.slot_list_pop PySem.F.type_list_pop mt_popAt (pv 3) (pa_cons (pe_k G_law_pick (hr.mono (by first | decide | omega)) (by rfl) (pa_cons (pv 0) (pa_cons (pe_callB call_len_seq (by rfl) B.b_len PySem.boot_len (pa_cons (pv 3) pa_nil)) pa_nil))) pa_nil)) pa_nil)))))
      (pss_cons (ps_set (i := 5) sc_law_right.nd rfl (Or.inl rfl) (pe_k G_law_called (hr.mono (by first | decide | omega)) (by rfl) (pa_cons (pv 1) (pa_cons (pv 4) pa_nil))))
      (pss_cons (ps_if (pw_or (pt_cmpR (op_neD hr.units) (pe_kx Gfinds (hr.mono (by first | decide | omega)) (by rfl) (fun σ => passAt takes0 σ) (pa_cons (pv 5) pa_nil)) (pe_k G_law_called (hr.mono (by first | decide | omega)) (by rfl) (pa_cons (pe_kx Gfinds (hr.mono (by first | decide | omega)) (by rfl) (fun σ => passAt takes0 σ) (pa_cons (pv 1) pa_nil)) (pa_cons (pv 4) pa_nil))) (nomark _)) (pw_or1 (pt_cmpR (op_neD hr.units) (pe_kx Gpieces (hr.mono (by first | decide | omega)) (by rfl) (fun σ => passAt takes0 σ) (pa_cons (pv 5) pa_nil)) (pe_k G_law_lots (hr.mono (by first | decide | omega)) (by rfl) (pa_cons (pe_kx Gpieces (hr.mono (by first | decide | omega)) (by rfl) (fun σ => passAt takes0 σ) (pa_cons (pv 1) pa_nil)) (pa_cons (pv 4) pa_nil))) (nomark _)))).pt (pss_one (ps_ret pe_bl)) pss_nil)
      (pss_cons (ps_if (pw_or (pt_cmpR (op_neD hr.units) (pe_kx Gknots (hr.mono (by first | decide | omega)) (by rfl) (fun σ => passAt takes0 σ) (pa_cons (pv 5) pa_nil)) (pe_k G_law_lots (hr.mono (by first | decide | omega)) (by rfl) (pa_cons (pe_kx Gknots (hr.mono (by first | decide | omega)) (by rfl) (fun σ => passAt takes0 σ) (pa_cons (pv 1) pa_nil)) (pa_cons (pv 4) pa_nil))) (nomark _)) (pw_or1 (pt_cmpR (op_neD hr.units) (pe_kx Gknots (hr.mono (by first | decide | omega)) (by rfl) (fun σ => passAt takes0 σ) (pa_cons (pe_k G_law_turned_about (hr.mono (by first | decide | omega)) (by rfl) (pa_cons (pv 1) pa_nil)) pa_nil)) (pe_kx Gknots (hr.mono (by first | decide | omega)) (by rfl) (fun σ => passAt takes0 σ) (pa_cons (pv 1) pa_nil)) (nomark _)))).pt (pss_one (ps_ret pe_bl)) pss_nil)
      (pss_cons (ps_par (i := 6) (j := 7) rfl sc_law_right.nd rfl rfl (by decide) rfl rfl (pa_cons (pe_k G_law_pick (hr.mono (by first | decide | omega)) (by rfl) (pa_cons (pv 0) (pa_cons (pv 2) pa_nil))) (pa_cons (pe_k G_law_pick (hr.mono (by first | decide | omega)) (by rfl) (pa_cons (pv 0) (pa_cons (pv 2) pa_nil))) pa_nil)) (by rfl))
      (pss_cons (ps_if (pt_cmpR op_ne (pv 6) (pv 7) (nomark _)) (pss_cons (ps_set (i := 8) sc_law_right.nd rfl (Or.inl rfl) (pe_callTy call_tuple_of (by rfl) B.b_tuple (by decide +kernel) (pa_cons (pe_callB (cr_sortedSet rfl) (by rfl) B.b_sorted (by decide +kernel) (pa_cons (pe_callTy (cr_setLI (K := K) (w := w) rfl rfl rfl) (by rfl) B.b_set (by decide +kernel) (pa_cons (pe_op op_catA (pe_ix ix_tup (pv 1) (pv 6) (fun _ _ => rfl)) (pe_tup (pa_cons (pv 7) pa_nil))) pa_nil)) pa_nil)) pa_nil)))
      (pss_cons (ps_set (i := 9) sc_law_right.nd rfl (Or.inl rfl) (pe_op op_catA (pe_op op_catA (pe_slice sl_tupA (pv 1) po_none (po_some (pv 6))) (pe_tup (pa_cons (pv 8) pa_nil))) (pe_slice sl_tupA (pv 1) (po_some (pe_op op_add (pv 6) pe_int)) po_none)))
      (pss_cons (ps_if (pt_not (pt_val (pe_k G_law_are_kept (hr.mono (by first | decide | omega)) (by rfl) (pa_cons (pe_kx Gfinds (hr.mono (by first | decide | omega)) (by rfl) (fun σ => passAt takes0 σ) (pa_cons (pv 1) pa_nil)) (pa_cons (pe_kx Gfinds (hr.mono (by first | decide | omega)) (by rfl) (fun σ => passAt takes0 σ) (pa_cons (pv 9) pa_nil)) pa_nil))))) (pss_one (ps_ret pe_bl)) pss_nil)
      (pss_one (ps_if (pw_or (pt_cmpR op_notIn_seq (pe_op op_sub (pe_callB call_len_seq (by rfl) B.b_len PySem.boot_len (pa_cons (pe_kx Gpieces (hr.mono (by first | decide | omega)) (by rfl) (fun σ => passAt takes0 σ) (pa_cons (pv 1) pa_nil)) pa_nil)) (pe_callB call_len_seq (by rfl) B.b_len PySem.boot_len (pa_cons (pe_kx Gpieces (hr.mono (by first | decide | omega)) (by rfl) (fun σ => passAt takes0 σ) (pa_cons (pv 9) pa_nil)) pa_nil))) (pe_lst (pa_cons pe_int (pa_cons pe_int pa_nil))) (by rfl)) (pw_or1 (pt_cmpR op_notIn_seq (pv 7) (pe_ix ix_tup (pe_kx Gfinds (hr.mono (by first | decide | omega)) (by rfl) (fun σ => passAt takes0 σ) (pa_cons (pv 9) pa_nil)) (pv 6) (fun _ _ => rfl)) (by rfl)))).pt (pss_one (ps_ret pe_bl)) pss_nil))))) pss_nil)
      (pss_cons (ps_for PassesOwn.never rfl (pi_tup (pe_kx Gknots (hr.mono (by first | decide | omega)) (by rfl) (fun σ => passAt takes0 σ) (pa_cons (pv 1) pa_nil))) (pg_name (i := 10) sc_law_right.nd rfl (Or.inr rfl)) (pss_one (ps_if (pt_cmpR op_ne (pe_callB call_len_seq (by rfl) B.b_len PySem.boot_len (pa_cons (pe_lc (own := [("piece", 11)]) (g := gName 11) (by rfl) sc_law_right.nd (pi_tup (pe_kx Gpieces (hr.mono (by first | decide | omega)) (by rfl) (fun σ => passAt takes0 σ) (pa_cons (pv 1) pa_nil))) (blkOk_by (own := [("piece", 11)]) (N := N_law_right) (sc := defScope s_law_right) (by decide +kernel)) (fun _ _ _ _ _ => (pg_name (i := 11) sc_law_right.nd rfl (Or.inr rfl))) (fun _ _ _ _ _ => (pts_one (pt_val (pe_callB (allK (K := K) rfl rfl) (by rfl) B.b_all (by decide +kernel) (pa_cons (pe_lc (own := [("one", 12)]) (g := gName 12) (by rfl) sc_law_right.nd (pi_tupK (K := K) rfl (pv 10)) (blkOk_by (own := [("one", 12)]) (N := N_law_right) (by dsimp only [Cx.blk, compEnvC, relabel, cxOf, Cx.nox, envOfC, Env.kindOf]; first | rfl | decide +kernel)) (fun _ _ _ _ _ => (pg_name (i := 12) sc_law_right.nd rfl (Or.inl rfl))) (fun _ _ _ _ _ => pts_nil) (fun _ _ _ _ _ => (pe_cmpR (in_seqK (K := K) rfl) (pv 12) (pv 11) (by rfl)))) pa_nil))))) (fun _ _ _ _ _ => (pv 11))) pa_nil)) pe_int (nomark _)) (pss_one (ps_ret pe_bl)) pss_nil)))
      (pss_one (ps_ret pe_bl))))))))))), ?_⟩
  have wa0 := wa
  obtain ⟨as, h1, h2, h3⟩ := wa0
  have h1T : SqT K H p (as.map V.ref) := SqT.of h1
  have n1 := wr.one
  have n9 := wr.nine
  have hl : (as.map V.ref).length = rows.length := by rw [List.length_map, h2]
  -- many = len(web)
  refine ⟨_, rfl, p, _, rfl, .inr h1T, ?_⟩
  show gName 2 (V.int (((as.map V.ref).length : Nat) : Int)) _ _ _
  rw [hl]
  dsimp only [gName]
  -- left, names = (list(range(many)), [])
  refine ⟨_, rfl, _, rfl, RgOk.of_le (by decide) (by omega) (by decide) (by omega), fun L nL => ⟨len_le (by decide : 0 ≤ 1000), fun N nN => ⟨_, _, rfl, ?_⟩⟩⟩
  have er : rgV 0 ((rows.length : Nat) : Int) = ((List.range rows.length).map fun (k : Nat) => (k : Int)).map V.int := by
    rw [List.map_map]
    unfold rgV
    rw [show (((rows.length : Nat) : Int) - 0).toNat = rows.length by omega]
    refine List.map_congr_left fun k _ => ?_
    rw [Int.zero_add]
    rfl
  rw [er] at nN ⊢
  have sL := same_new (o := .lst (((List.range rows.length).map fun (k : Nat) => (k : Int)).map V.int)) nL
  have sN := same_new (o := .lst []) nN
  have nN0 := none_of sL nN
  have hL2 := sN _ _ (upd_same (H := H) (a := L) (o := .lst (((List.range rows.length).map fun (k : Nat) => (k : Int)).map V.int)))
  have LN : L ≠ N := lst_ne upd_same nN
  have hN2 := upd_same (H := upd H L (.lst (((List.range rows.length).map fun (k : Nat) => (k : Int)).map V.int))) (a := N) (o := .lst [])
  have s2 := sL.trans sN
  generalize upd (upd H L (.lst (((List.range rows.length).map fun (k : Nat) => (k : Int)).map V.int))) N (.lst []) = H2 at hL2 hN2 s2 ⊢
  have hb2 := hb.same s2
  obtain ⟨Lb, Lg⟩ := hb.ne nL
  obtain ⟨Nb, Ng⟩ := hb.ne nN0
  dsimp only
  show tSeq (tWhile _ _) _ _ [some (.ref b), some (.ref p), some (.int (rows.length : Nat)), some (.ref L), some (.ref N), none, none, none, none, none, none, none, none] H2
  refine cutS (fun σ H' => ∃ ns, σ = [some (.ref b), some (.ref p), some (.int (rows.length : Nat)), some (.ref L), some (.ref N), none, none, none, none, none, none, none, none] ∧ But b g H H' ∧ BagAt H' b g ∧ H' N = some (.lst (ns.map V.int)) ∧ Turn rows.length ns) ?rest1 (fun go => ?loop)
  case loop =>
    refine while_by (fun σ H' => ∃ lf ns : List Int, σ = [some (.ref b), some (.ref p), some (.int (rows.length : Nat)), some (.ref L), some (.ref N), none, none, none, none, none, none, none, none] ∧ But b g H H' ∧ BagAt H' b g ∧ H' L = some (.lst (lf.map V.int)) ∧ H' N = some (.lst (ns.map V.int)) ∧ (ns ++ lf).Perm ((List.range rows.length).map fun (k : Nat) => (k : Int)))
      (fun _ H' => match H' L with | some (.lst xs) => xs.length | _ => 0) ⟨_, [], rfl, .of s2, hb2, hL2, hN2, List.Perm.refl _⟩ ?_ ?_
    · rintro σ H3 ⟨lf, ns, rfl, bt, hb3, hL, hN, pm⟩
      have ll : ns.length + lf.length = rows.length := by
        have z := pm.length_eq
        rw [List.length_append, List.length_map, List.length_range] at z
        exact z
      refine ⟨_, rfl, L, _, rfl, .inl (SqL.of hL), _, 0, rfl, rfl, _, rfl, ite2 (fun e => ?_) (fun e => ?_)⟩
      · have e1 : (0 : Int) < ((lf.map V.int).length : Nat) := of_decide_eq_true e
        rw [List.length_map] at e1
        refine ⟨_, rfl, .inl ⟨rfl, _, SqL.of hN⟩, _, rfl, .inl ⟨rfl, _, SqL.of hL⟩, _, rfl, _, rfl, L, _, rfl, .inl (SqL.of hL), b, g, _, rfl, hb3, by rw [List.length_map]; exact e1, by rw [List.length_map]; omega, fun r H4 bt4 hb4 r0 r1 => ?_⟩
        rw [List.length_map] at r1
        have hL4 := bt4 _ _ Lb Lg hL
        have hN4 := bt4 _ _ Nb Ng hN
        have hr : r.toNat < lf.length := by omega
        have hx : lf[r.toNat]? = some (lf[r.toNat]'hr) := List.getElem?_eq_getElem hr
        refine ⟨L, _, r, r.toNat, .int (lf[r.toNat]'hr), rfl, rfl, hL4, by omega, by omega, ?_, by rw [List.getElem?_map, hx]; rfl, N, ns.map V.int, _, rfl, rfl, ?_, by rw [List.length_map]; exact len_lt (by omega), ⟨lf.eraseIdx r.toNat, ns ++ [lf[r.toNat]'hr], rfl, ((bt.trans bt4).mut nL).mut nN0, (hb4.mut Lb Lg).mut Nb Ng, ?_, ?_, pop_perm hx pm⟩, ?_⟩
        · exact PySem.StrLaws.seqIndex_nonneg r0 (by rw [List.length_map]; exact r1)
        · rw [upd_ne (Ne.symm LN)]
          exact hN4
        · rw [upd_ne LN, upd_same, erase_map]
        · rw [upd_same, List.map_append]
          rfl
        · rw [upd_ne LN, upd_same, hL]
          show ((lf.map V.int).eraseIdx r.toNat).length < (lf.map V.int).length
          rw [List.length_eraseIdx, List.length_map, if_pos hr]
          omega
      · have e1 : lf = [] := by
          cases lf with
          | nil => rfl
          | cons x r => exact absurd (decide_eq_true (show (0 : Int) < (((x :: r).map V.int).length : Nat) by rw [List.length_map, List.length_cons]; omega)) e
        rw [e1, List.append_nil] at pm
        exact go _ _ ⟨ns, rfl, bt, hb3, hN, turn_of pm⟩
    · rintro σ H3 Q Q' hq ⟨v, e1, a, ys, e2, e3, i, j, e4, e5, k, e6, e7⟩
      exact ⟨v, e1, a, ys, e2, e3, i, j, e4, e5, k, e6, hq _ _ e7⟩
  case rest1 =>
    rintro σ H3 ⟨ns, rfl, bt3, hb3, hN, tn⟩
    have wa3 := wa.but hb bt3
    have gr3 : Grid K true H3 p rows := wa3.grid
    -- other
    refine ⟨_, rfl, _, rfl, p, N, rows, ns, rfl, gr3, SqL.of hN, n9, n1, wr.rng, wr.few, fun r hr => asc_nodup (wr.up r hr), tn, fun o rows' H4 s4 _ wo c => ?_⟩
    have wr' := called_web wr tn c
    have bt4 := bt3.trans (.of s4)
    have hb4 := hb3.same s4
    have wa4 := wa3.same s4
    have hN4 := s4 _ _ hN
    clear s4 wa3 gr3 hN hb3 bt3
    dsimp only [gName]
    have l1 : rows'.length = rows.length := c.1
    have rge : ∀ (u : Nat) (w : Int), u < rows.length → Joined rows u w → 0 ≤ w ∧ w < (rows.length : Int) := fun u w hu h => h.range wr.rng ⟨by omega, by omega⟩
    have rgm : ∀ (u : Nat) (w : Int), u < rows.length → Mutual rows u w → 0 ≤ w ∧ w < (rows.length : Int) := fun u w hu h => h.1.range wr.rng ⟨by omega, by omega⟩
    -- the first if
    show tSeq (tIfS _ _ _) _ _ [some (.ref b), some (.ref p), some (.int (rows.length : Nat)), some (.ref L), some (.ref N), some (.ref o), none, none, none, none, none, none, none] H4
    refine cutS (fun σ H' => σ = [some (.ref b), some (.ref p), some (.int (rows.length : Nat)), some (.ref L), some (.ref N), some (.ref o), none, none, none, none, none, none, none] ∧ Same H4 H') ?rest2 (fun go => ?if1)
    case if1 =>
      refine ⟨_, rfl, o, rows', rfl, wo, wr', fun q1 f1 H5 s5 _ g5 ff1 => ⟨_, rfl, p, rows, rfl, wa4.same s5, wr, fun q2 f2 H6 s6 _ g6 ff2 => ⟨_, rfl, q2, N, f2, ns, rfl, g6, SqL.of ((s5.trans s6) _ _ hN4), by have := ff2.1; omega, by have := ff2.1; omega, (finds_rows ff2 wr.rng).1, (finds_rows ff2 wr.rng).2, fun r hr => ?_, by rw [ff2.1]; exact tn, fun q3 f3 H7 s7 _ w7 c7 => ?_⟩⟩⟩
      · obtain ⟨i, hi, _, e⟩ := mem_rowAt hr
        exact asc_nodup (ff2.2 i r e).1
      · obtain rfl := called_finds wr tn c ff2 c7 ff1
        refine ne_grid (g5.same (s6.trans s7)) w7.grid ⟨_, rfl, ite2 (fun z => by cases z) (fun _ => ?_)⟩
        have s47 := (s5.trans s6).trans s7
        clear s5 s6 s7 g5 g6 w7 ff1 ff2 c7
        refine ⟨_, rfl, o, rows', rfl, wo.same s47, wr', fun q8 k1 H8 s8 _ g8 pp1 => ⟨_, rfl, p, rows, rfl, wa4.same (s47.trans s8), wr, fun q9 k2 H9 s9 _ g9 pp2 => ⟨_, rfl, q9, N, k2, ns, rows.length, rfl, g9, SqL.of (((s47.trans s8).trans s9) _ _ hN4), n9, Nat.le_trans (cls_len pp2) n9, fun k hk => ?_, tn, fun q10 ms ks' H10 s10 _ w10 lm him pm srt => ?_⟩⟩⟩
        · obtain ⟨u, hu, z⟩ := pp2.cls k hk
          exact ⟨Nat.le_trans (cls_few pp2 rge k hk) n9, asc_nodup z.1, (fun y => by
            have m := (z.2 u).mpr .refl
            rw [y] at m
            cases m), fun x hx => rge u x hu ((z.2 x).mp hx)⟩
        · obtain rfl := called_pieces wr tn c pp2 lm him pm srt pp1
          exact ne_grid (g8.same (s9.trans s10)) w10.grid ⟨_, rfl, ite2 (fun z => by cases z) (fun _ => go _ _ ⟨rfl, ((s47.trans s8).trans s9).trans s10⟩)⟩
    case rest2 =>
    rintro _ H5 ⟨rfl, s5⟩
    show tSeq (tIfS _ _ _) _ _ [some (.ref b), some (.ref p), some (.int (rows.length : Nat)), some (.ref L), some (.ref N), some (.ref o), none, none, none, none, none, none, none] H5
    refine cutS (fun σ H' => σ = [some (.ref b), some (.ref p), some (.int (rows.length : Nat)), some (.ref L), some (.ref N), some (.ref o), none, none, none, none, none, none, none] ∧ Same H4 H') ?rest3 (fun go => ?if2)
    case if2 =>
      refine ⟨_, rfl, o, rows', rfl, wo.same s5, wr', fun q8 k1 H8 s8 _ g8 pp1 => ⟨_, rfl, p, rows, rfl, wa4.same (s5.trans s8), wr, fun q9 k2 H9 s9 _ g9 pp2 => ⟨_, rfl, q9, N, k2, ns, rows.length, rfl, g9, SqL.of (((s5.trans s8).trans s9) _ _ hN4), n9, Nat.le_trans (cls_len pp2) n9, fun k hk => ?_, tn, fun q10 ms ks' H10 s10 _ w10 lm him pm srt => ?_⟩⟩⟩
      · obtain ⟨u, hu, z⟩ := pp2.cls k hk
        exact ⟨Nat.le_trans (cls_few pp2 rgm k hk) n9, asc_nodup z.1, (fun y => by
          have m := (z.2 u).mpr ⟨.refl, .refl⟩
          rw [y] at m
          cases m), fun x hx => rgm u x hu ((z.2 x).mp hx)⟩
      · obtain rfl := called_knots wr tn c pp2 lm him pm srt pp1
        refine ne_grid (g8.same (s9.trans s10)) w10.grid ⟨_, rfl, ite2 (fun z => by cases z) (fun _ => ?_)⟩
        have s4x := ((s5.trans s8).trans s9).trans s10
        clear s8 s9 s10 g8 g9 w10 pp1 him pm srt lm
        refine ⟨_, rfl, p, rows, rfl, (wa4.same s4x).grid, n9, wr.few, fun q11 ab H11 s11 _ w11 aa => ⟨q11, ab, rfl, w11, about_web wr aa, fun q12 ka H12 s12 _ g12 pa => ⟨_, rfl, p, rows, rfl, wa4.same ((s4x.trans s11).trans s12), wr, fun q13 kb H13 s13 _ g13 pb => ?_⟩⟩⟩
        obtain rfl := about_knots wr aa pb pa
        exact ne_grid (g12.same s13) g13 ⟨_, rfl, ite2 (fun z => by cases z) (fun _ => go _ _ ⟨rfl, ((s4x.trans s11).trans s12).trans s13⟩)⟩
    case rest3 =>
    clear s5 H5
    rintro _ H5 ⟨rfl, s5⟩
    have bt5 := bt4.trans (.of s5)
    have hb5 := hb4.same s5
    -- person, card
    refine ⟨_, rfl, _, rfl, b, g, _, rfl, hb5, by omega, by omega, fun r6 H6 bt6 hb6 r60 r61 => ⟨_, rfl, _, rfl, b, g, _, rfl, hb6, by omega, by omega, fun r7 H7 bt7 hb7 r70 r71 => ⟨_, _, rfl, ?_⟩⟩⟩
    have bt := (bt5.trans bt6).trans bt7
    have wa7 := wa.but hb bt
    clear bt4 bt5 bt6 hb4 hb5 hb6 s5 wa4 wo hN4 bt7
    obtain ⟨pe, rfl⟩ : ∃ pe : Nat, r6 = (pe : Int) := ⟨r6.toNat, by omega⟩
    have hpe : pe < rows.length := by omega
    dsimp only
    show tSeq (tIfS _ _ _) _ _ [some (.ref b), some (.ref p), some (.int (rows.length : Nat)), some (.ref L), some (.ref N), some (.ref o), some (.int pe), some (.int r7), none, none, none, none, none] H7
    refine cutS (fun σ H' => ∃ x8 x9, σ = [some (.ref b), some (.ref p), some (.int (rows.length : Nat)), some (.ref L), some (.ref N), some (.ref o), some (.int pe), some (.int r7), x8, x9, none, none, none] ∧ Same H7 H') ?rest4 (fun go => ?if3)
    case if3 =>
      refine ⟨_, rfl, _, rfl, rfl, _, rfl, ite2 (fun e => ?_) (fun e => go _ _ ⟨none, none, rfl, Same.refl _⟩)⟩
      have ne : (pe : Int) ≠ r7 := fun z => by
        rw [z] at e
        revert e
        simp
      have hc : 0 ≤ r7 ∧ r7 < (rows.length : Int) := ⟨r70, r71⟩
      obtain ⟨as7, k1, k2, k3⟩ := wa7
      obtain ⟨pu, hpu⟩ : ∃ pu, as7[pe]? = some pu := ⟨_, List.getElem?_eq_getElem (by omega)⟩
      have hrow := k3 pe pu _ hpu (rowAt_get hpe)
      have wg := wr_row wr hpe
      have lrow : (rowAt rows (pe : Nat)).length ≤ 9 := wr.few _ (List.mem_of_getElem? (rowAt_get hpe))
      -- pocket
      refine ⟨_, rfl, _, rfl, p, _, _, .ref pu, rfl, rfl, SqT.of k1, atI_nat (by rw [List.getElem?_map, hpu]; rfl), _, rfl, len_le (by decide : 1 ≤ 1000), fun t nt => ?_⟩
      have st := same_new (o := .tup [.int r7]) nt
      refine cat_tup' (st _ _ hrow) upd_same (by rw [List.length_map]; show _ + 1 ≤ 1000; omega) fun c H8 s8 h8 => ?_
      rw [show (rowAt rows (pe : Nat)).map V.int ++ [V.int r7] = (rowAt rows (pe : Nat) ++ [r7]).map V.int by rw [List.map_append]; rfl] at h8
      have ll : (rowAt rows (pe : Nat) ++ [r7]).length ≤ 10 := by
        rw [List.length_append]
        exact Nat.succ_le_succ lrow
      refine ⟨c, _, rfl, .inr (SqT.of h8), by omega, fun S cnt nS lc => ?_⟩
      refine ⟨S, _, cnt, rfl, upd_same, by omega, fun ns2 p2 up mem ln np => ?_⟩
      have memr : ∀ w, w ∈ ns2 ↔ w ∈ rowAt rows (pe : Nat) ∨ w = r7 := fun w => by
        rw [mem w, decide_eq_true_iff, List.mem_append, List.mem_singleton]
      have s9 := (((st.trans s8).trans (same_new (o := SetO w S (fun j => decide (j ∈ rowAt rows (pe : Nat) ++ [r7])) cnt) nS)).trans (same_new (o := .lst (ns2.map V.int)) np))
      refine ⟨p2, _, rfl, .inl ⟨SqL.of upd_same, fun t2 nt2 => ?_⟩⟩
      have s10 := s9.trans (same_new (o := .tup (ns2.map V.int)) nt2)
      have ht2 := upd_same (H := upd (upd H8 S (SetO w S (fun j => decide (j ∈ rowAt rows (pe : Nat) ++ [r7])) cnt)) p2 (.lst (ns2.map V.int))) (a := t2) (o := .tup (ns2.map V.int))
      generalize upd (upd (upd H8 S (SetO w S (fun j => decide (j ∈ rowAt rows (pe : Nat) ++ [r7])) cnt)) p2 (.lst (ns2.map V.int))) t2 (.tup (ns2.map V.int)) = H10 at s10 ht2 ⊢
      dsimp only [gName]
      -- more
      have i1' : ((pe : Int) + 1) = ((pe + 1 : Nat) : Int) := rfl
      have hla : (as7.map V.ref).length = rows.length := by rw [List.length_map, k2]
      refine ⟨_, rfl, _, rfl, _, rfl, ?_⟩
      refine sl_tup' (s10 _ _ k1) fun q1 H11 s11 h11 => ⟨_, rfl, len_le (by decide : 1 ≤ 1000), fun t3 nt3 => ?_⟩
      have s12 := same_new (o := .tup [.ref t2]) nt3
      rw [cut_to] at h11
      refine cat_tup' (s12 _ _ h11) upd_same (by rw [List.length_take]; show _ + 1 ≤ 1000; omega) fun q2 H13 s13 h13 => ⟨_, rfl, _, rfl, _, _, rfl, rfl, _, rfl, ?_⟩
      have s7x := ((s10.trans s11).trans s12).trans s13
      dsimp only [tNoPart]
      refine sl_tup' (s7x _ _ k1) fun q3 H14 s14 h14 => ?_
      rw [i1', cut_from] at h14
      refine cat_tup' (s14 _ _ h13) h14 (by rw [List.length_append, List.length_take, List.length_drop]; show _ + 1 + _ ≤ 1000; omega) fun m H15 s15 h15 => ?_
      rw [set_split (by omega), ← List.map_set] at h15
      have s715 := (s7x.trans s14).trans s15
      have wm : WebAt H15 m (rows.set pe ns2) := webAt_set k2 k3 s715 hpe ((((s11.trans s12).trans s13).trans s14).trans s15 _ _ ht2) h15
      have wp : WebAt H15 p rows := ⟨as7, s715 _ _ k1, k2, fun i q r e1 e2 => s715 _ _ (k3 i q r e1 e2)⟩
      have wr2 := more_web wr hpe hc ne up memr
      clear s7x s10 s11 s12 s13 s14 s15 h11 h13 h14 h15 ht2 s9 s8 h8 st nt nS np nt2 nt3 hrow
      dsimp only [gName]
      -- kept
      refine ⟨_, rfl, p, rows, rfl, wp, wr, fun q5 f1 H16 s16 _ g16 ff1 => ⟨_, rfl, m, _, rfl, wm.same s16, wr2, fun q6 f2 H17 s17 _ g17 ff2 => ?_⟩⟩
      obtain ⟨lf, kp, _⟩ := more_finds wr hpe hc memr ff1 ff2
      refine ⟨q5, q6, f1, f2, rfl, g16.same s17, g17, by have := ff1.1; omega, lf, (finds_rows ff1 wr.rng).2, kp, fun H18 s18 => ⟨_, rfl, ite2 (fun z => by cases z) (fun _ => ?_)⟩⟩
      have s1518 := (s16.trans s17).trans s18
      clear s16 s17 s18 g16 g17 ff1 ff2 kp lf
      -- pieces
      refine ⟨_, rfl, p, rows, rfl, wp.same s1518, wr, fun q7 ks1 H19 s19 _ g19 pp1 => ?_⟩
      obtain ⟨bs1, b1, b2, _⟩ := g19
      have b1T : SqT K H19 q7 (bs1.map V.ref) := b1
      refine ⟨q7, _, rfl, .inr b1T, _, rfl, m, _, rfl, wm.same (s1518.trans s19), wr2, fun q8 ks2 H20 s20 _ g20 pp2 => ?_⟩
      obtain ⟨bs2, c1, c2, _⟩ := g20
      have c1T : SqT K H20 q8 (bs2.map V.ref) := c1
      have two := more_pieces wr wr2 hpe hc memr pp1 pp2
      refine ⟨q8, _, rfl, .inr c1T, _, _, rfl, rfl, len_le (by decide : 2 ≤ 1000), fun l nl => ⟨l, _, rfl, .inl (SqL.of upd_same), rfl, rfl, _, rfl, ?_⟩⟩
      have s21 := ((s1518.trans s19).trans s20).trans (same_new (o := .lst [.int 0, .int 1]) nl)
      have inn : inV (V.int ((((bs1.map V.ref).length : Nat) : Int) - (((bs2.map V.ref).length : Nat) : Int))) [V.int 0, V.int 1] = true := by
        rw [List.length_map, List.length_map, b2, c2]
        rcases two with z | z
        · rw [z, Int.sub_self]
          rfl
        · rw [z, show (((ks2.length + 1 : Nat) : Int) - (ks2.length : Nat)) = 1 by omega]
          rfl
      refine ite2 (fun z => ?_) (fun _ => ?_)
      · have y : (!inV (V.int ((((bs1.map V.ref).length : Nat) : Int) - (((bs2.map V.ref).length : Nat) : Int))) [V.int 0, V.int 1]) = true := z
        rw [inn] at y
        cases y
      · refine ⟨_, rfl, _, rfl, m, _, rfl, wm.same s21, wr2, fun q9 f3 H22 s22 _ g22 ff3 => ?_⟩
        obtain ⟨lg, hm⟩ := more_has hpe memr ff3
        obtain ⟨xs2, pu2, hy2, hat, hp2⟩ := g22.row (u := (pe : Int)) ⟨by omega, by omega⟩
        refine ⟨_, rfl, q9, xs2, (pe : Int), .ref pu2, rfl, rfl, hy2, hat, pu2, _, rfl, .inr hp2, rfl, flat_ints _, _, rfl, ite2 (fun z => ?_) (fun _ => ?_)⟩
        · have e2 : inV (.int r7) ((rowAt f3 (pe : Nat)).map V.int) = true := (inV_ints _ _).trans (decide_eq_true hm)
          have y : (!inV (.int r7) ((rowAt f3 (pe : Nat)).map V.int)) = true := z
          rw [e2] at y
          cases y
        · exact go _ _ ⟨_, _, rfl, (s715.trans s21).trans s22⟩
    case rest4 =>
    rintro _ H8 ⟨x8, x9, rfl, s8⟩
    have bt8 := bt.trans (.of s8)
    have hb8 := hb7.same s8
    have wa8 := wa7.same s8
    -- for knot in knots(web)
    refine ⟨_, rfl, p, rows, rfl, wa8, wr, fun q1 ks H9 s9 _ g9 kk => ?_⟩
    obtain ⟨cs, c1, c2, c3⟩ := g9
    have c1T : SqT K H9 q1 (cs.map V.ref) := c1
    refine ⟨q1, rfl, ⟨_, c1T⟩, for_tup (xs := cs.map V.ref) (fun i σ H' => ∃ x10, σ = [some (.ref b), some (.ref p), some (.int (rows.length : Nat)), some (.ref L), some (.ref N), some (.ref o), some (.int pe), some (.int r7), x8, x9, x10, none, none] ∧ Same H9 H') ⟨none, rfl, Same.refl _⟩ (fun i σ H' _ z => z.choose_spec.2.seqT c1T) ?_ ?_⟩
    · rintro i x σ H10 hx ⟨x10, rfl, s10⟩
      rw [List.getElem?_map] at hx
      obtain ⟨kq, hkq, rfl⟩ := Option.map_eq_some_iff.mp hx
      obtain ⟨k, hk⟩ : ∃ k, ks[i]? = some k := ⟨_, List.getElem?_eq_getElem (by have := (List.getElem?_eq_some_iff.mp hkq).1; omega)⟩
      have hkT : SqT K H9 kq (k.map V.int) := c3 i kq k hkq hk
      have mk := List.mem_of_getElem? hk
      have k9 : k.length ≤ 9 := Nat.le_trans (cls_few kk rgm k mk) n9
      dsimp only [gName]
      refine ⟨_, rfl, p, rows, rfl, wa8.same (s9.trans s10), wr, fun q2 ps H11 s11 _ g11 pp => ?_⟩
      have lone := knot_piece wr.rng kk pp mk
      obtain ⟨ds, d1, d2, d3⟩ := g11
      have d1T : SqT K H11 q2 (ds.map V.ref) := d1
      have p9 : ps.length ≤ 9 := Nat.le_trans (cls_len pp) n9
      refine ⟨q2, rfl, ⟨_, d1T⟩, fun D nD => ?_⟩
      refine lc_tup (xs := ds.map V.ref) (fun i H' => ∃ acc : List V, Same H11 H' ∧ H' D = some (.lst acc) ∧ acc.length = ((ps.take i).filter fun q => k.all fun x => decide (x ∈ q)).length) ⟨[], same_new nD, upd_same, rfl⟩ (fun i H' _ z => z.choose_spec.1.seqT d1T) ?_ ?_
      · rintro i2 x H12 hx2 ⟨acc, s12, hD, la⟩
        rw [List.getElem?_map] at hx2
        obtain ⟨pq, hpq, rfl⟩ := Option.map_eq_some_iff.mp hx2
        obtain ⟨pc, hpc⟩ : ∃ pc, ps[i2]? = some pc := ⟨_, List.getElem?_eq_getElem (by have := (List.getElem?_eq_some_iff.mp hpq).1; omega)⟩
        have hpT : SqT K H11 pq (pc.map V.int) := d3 i2 pq pc hpq hpc
        have tk : ps.take (i2 + 1) = ps.take i2 ++ [pc] := by
          rw [List.take_succ, hpc]
          rfl
        have la9 : acc.length ≤ 9 := by
          have h1 := List.length_filter_le (fun q => k.all fun x => decide (x ∈ q)) (ps.take i2)
          rw [List.length_take] at h1
          omega
        refine ⟨rfl, _, rfl, kq, rfl, ⟨_, (s10.trans (s11.trans s12)).seqT hkT⟩, fun E2 nE => ?_⟩
        refine lc_tup (xs := k.map V.int) (fun j H' => Same H12 H' ∧ H' E2 = some (.lst (((k.take j).map fun x => decide (x ∈ pc)).map V.bl))) ⟨same_new nE, upd_same⟩ (fun j H' _ z => z.1.seqT ((s10.trans (s11.trans s12)).seqT hkT)) ?_ ?_
        · rintro j y H13 hy ⟨s13, hE⟩
          rw [List.getElem?_map] at hy
          obtain ⟨x0, hx0, rfl⟩ := Option.map_eq_some_iff.mp hy
          have tk2 : k.take (j + 1) = k.take j ++ [x0] := by
            rw [List.take_succ, hx0]
            rfl
          refine ⟨rfl, _, rfl, _, rfl, pq, _, rfl, .inr ((s12.trans s13).seqT hpT), rfl, flat_ints _, _, hE, ?_, same_mut s13 nE, ?_⟩
          · rw [List.length_map, List.length_map, List.length_take]
            exact len_lt (by omega)
          · rw [upd_same, tk2, List.map_append, List.map_append]
            show some (HO.lst (_ ++ [V.bl (inV (.int x0) (pc.map V.int))])) = _
            rw [inV_ints]
            rfl
        · rintro H13 ⟨s13, hE⟩
          rw [List.length_map, List.take_length] at hE
          have ea : ((k.map fun x => decide (x ∈ pc)).all id) = (k.all fun x => decide (x ∈ pc)) := List.all_map
          refine ⟨E2, _, rfl, SqL.of hE, _, rfl, ite2 (fun e => ?_) (fun e => ?_)⟩
          · rw [ea] at e
            refine ⟨_, rfl, acc, s13 _ _ hD, len_lt (by omega), acc ++ [.ref pq], same_mut (s12.trans s13) nD, upd_same, ?_⟩
            rw [tk, List.filter_append, List.length_append, List.length_append, la, List.filter_cons, if_pos e]
            rfl
          · rw [ea] at e
            refine ⟨acc, s12.trans s13, s13 _ _ hD, ?_⟩
            rw [tk, List.filter_append, List.length_append, la, List.filter_cons, if_neg e]
            rfl
      · rintro H12 ⟨acc, s12, hD, la⟩
        rw [List.length_map, d2, List.take_length, lone] at la
        refine ⟨D, _, rfl, .inl (SqL.of hD), rfl, _, rfl, ite2 (fun z => ?_) (fun _ => ?_)⟩
        · rw [la] at z
          revert z
          simp
        · exact ⟨_, rfl, s10.trans (s11.trans s12)⟩
    · rintro σ H10 ⟨x10, rfl, s10⟩
      exact q H10 (bt8.trans (.of (s9.trans s10))) (hb8.same (s9.trans s10))
end
end Lw

set_option maxHeartbeats 8000000
namespace Lw
open PySem PySem.Spec PyProof.Rows L2 EF Hn
open PySem.W (Frag keepIn)
abbrev slaw : Stmt := top 39
abbrev Nlaw : List Str := ["script", "bag", "first", "number", "web", "turn"]
theorem sclaw : FnScope Nlaw ["script"] (defScope slaw) := ⟨rfl, rfl, rfl, by decide +kernel, rfl, by decide +kernel, by decide +kernel⟩
def spLaw (K : Frag) : Sp := fun vs H Q _ => ∃ (a : Addr) (ns : List Int), vs = [.ref a] ∧ SqL K H a (ns.map V.int) ∧ ns.length ≤ 63 ∧ ∀ H', Q (.bl true) H'
theorem web_one {H : Hp} {a m : Addr} {xs : List V} (r : List Int) (e : xs = r.map V.int) (n1 : H a = none) (n2 : upd H a (.tup xs) m = none) : WebAt (upd (upd H a (.tup xs)) m (.tup [.ref a])) m [r] ∧ Same H (upd (upd H a (.tup xs)) m (.tup [.ref a])) := by
  subst e
  refine ⟨⟨[a], upd_same, rfl, fun i q r' e1 e2 => ?_⟩, (same_new n1).trans (same_new n2)⟩
  match i with
  | 0 =>
    cases e1
    cases e2
    exact same_new n2 _ _ upd_same
  | i + 1 => simp at e1
theorem web_two {H : Hp} {a c m : Addr} {xs ys : List V} (r s : List Int) (e : xs = r.map V.int) (f : ys = s.map V.int) (n1 : H a = none) (n2 : upd H a (.tup xs) c = none) (n3 : upd (upd H a (.tup xs)) c (.tup ys) m = none) :
    WebAt (upd (upd (upd H a (.tup xs)) c (.tup ys)) m (.tup [.ref a, .ref c])) m [r, s] ∧ Same H (upd (upd (upd H a (.tup xs)) c (.tup ys)) m (.tup [.ref a, .ref c])) := by
  subst e f
  refine ⟨⟨[a, c], upd_same, rfl, fun i q r' e1 e2 => ?_⟩, ((same_new n1).trans (same_new n2)).trans (same_new n3)⟩
  match i with
  | 0 =>
    cases e1
    cases e2
    exact (same_new n3) _ _ (same_new n2 _ _ upd_same)
  | 1 =>
    cases e1
    cases e2
    exact same_new n3 _ _ upd_same
  | i + 2 => simp at e1
section
variable {P : Program} {w : World} {K : Frag} {mg : Str → Option Value} {base : Heap} {C : Addr}
theorem ok_law {f : Addr} {fd : FuncData} (F : Fun K "law" "law" slaw f fd) (B : Bl mg)
    (G_law_bag : Kept P w K mg base 1 "_law_bag" ["script"] (spBag K)) (G_law_pick : Kept P w K mg base 1 "_law_pick" ["bag", "many"] spPick) (G_law_web : Kept P w K mg base 3 "_law_web" ["bag", "most"] spDraw)
    (G_law_small : Kept P w K mg base 1 "_law_small" ["number"] spSmall) (G_law_is_told : Kept P w K mg base 25 "_law_is_told" ["web"] spTold) (G_law_right : Kept P w K mg base 8 "_law_right" ["bag", "web"] spRight) :
    FnOk P w K mg base CX0 26 f fd ["script"] (spLaw K) := by
  refine F.ok (N := Nlaw) sclaw (fun vs H Q E h => ?_) (fun cdv A outer s H vs Q E hr h => ?_)
  · obtain ⟨a, ns, rfl, _⟩ := h
    rfl
  obtain ⟨a, ns, rfl, hS, h63, q⟩ := h
  refine ⟨_, (pss_cons (ps_set (i := 1) sclaw.nd rfl (Or.inl rfl) (pe_k G_law_bag (hr.mono (by first | decide | omega)) (by rfl) (pa_cons (pv 0) pa_nil)))
      (pss_cons (ps_set (i := 2) sclaw.nd rfl (Or.inl rfl) (pe_k G_law_pick (hr.mono (by first | decide | omega)) (by rfl) (pa_cons (pv 1) (pa_cons pe_int pa_nil))))
      (pss_cons (ps_for PassesOwn.never rfl (pi_range3 (by rfl) B.b_range (pa_cons (pv 2) (pa_cons pe_int (pa_cons pe_int pa_nil)))) (pg_name (i := 3) sclaw.nd rfl (Or.inl rfl)) (pss_one (ps_if (pt_not (pt_val (pe_k G_law_is_told (hr.mono (by first | decide | omega)) (by rfl) (pa_cons (pe_k G_law_small (hr.mono (by first | decide | omega)) (by rfl) (pa_cons (pv 3) pa_nil)) pa_nil)))) (pss_one (ps_ret pe_bl)) pss_nil)))
      (pss_cons (ps_for PassesOwn.never rfl (pi_list (pe_lst (pa_cons (pe_tup (pa_cons (pe_tup pa_nil) pa_nil)) (pa_cons (pe_tup (pa_cons (pe_tup pa_nil) (pa_cons (pe_tup pa_nil) pa_nil))) (pa_cons (pe_tup (pa_cons (pe_tup (pa_cons pe_int pa_nil)) (pa_cons (pe_tup pa_nil) pa_nil))) (pa_cons (pe_tup (pa_cons (pe_tup pa_nil) (pa_cons (pe_tup (pa_cons pe_int pa_nil)) pa_nil))) (pa_cons (pe_tup (pa_cons (pe_tup (pa_cons pe_int pa_nil)) (pa_cons (pe_tup (pa_cons pe_int pa_nil)) pa_nil))) pa_nil))))))) (pg_name (i := 4) sclaw.nd rfl (Or.inl rfl)) (pss_one (ps_if (pt_not (pt_val (pe_k G_law_is_told (hr.mono (by first | decide | omega)) (by rfl) (pa_cons (pv 4) pa_nil)))) (pss_one (ps_ret pe_bl)) pss_nil)))
      (pss_cons (ps_for PassesOwn.never rfl (pi_range1 (by rfl) B.b_range (pa_cons pe_int pa_nil)) (pg_name (i := 5) sclaw.nd rfl (Or.inl rfl)) (pss_cons (ps_set (i := 4) sclaw.nd rfl (Or.inl rfl) (pe_k G_law_web (hr.mono (by first | decide | omega)) (by rfl) (pa_cons (pv 1) (pa_cons pe_int pa_nil))))
      (pss_one (ps_if (pw_or (pt_not (pt_val (pe_k G_law_is_told (hr.mono (by first | decide | omega)) (by rfl) (pa_cons (pv 4) pa_nil)))) (pw_or1 (pt_not (pt_val (pe_k G_law_right (hr.mono (by first | decide | omega)) (by rfl) (pa_cons (pv 1) (pa_cons (pv 4) pa_nil))))))).pt (pss_one (ps_ret pe_bl)) pss_nil))))
      (pss_one (ps_ret pe_bl))))))), ?_⟩
  -- bag = _law_bag(script)
  refine ⟨_, rfl, a, ns, rfl, hS, h63, fun b g H1 s1 nb ng hb => ?_⟩
  -- first = _law_pick(bag, 8)
  refine ⟨_, rfl, b, g, 8, rfl, hb, by decide, by decide, fun r H2 bt2 hb2 r0 r8 => ?_⟩
  dsimp only [gName]
  -- for number in range(first, 64, 8)
  have wrs : ∀ rows : List (List Int), (1 ≤ rows.length ∧ rows.length ≤ 9 ∧ ∀ i : Nat, i < rows.length → (rowAt rows i).Pairwise (· < ·) ∧ (∀ w ∈ rowAt rows i, 0 ≤ w ∧ w < (rows.length : Int)) ∧ (i : Int) ∉ rowAt rows i) → WebRows rows := fun rows h => WebRows.few_of h.1 h.2.1 h.2.2
  have w1 : WebRows [[]] := wrs _ (by decide)
  have w2 : WebRows [[], []] := wrs _ (by decide)
  have w3 : WebRows [[1], []] := wrs _ (by decide)
  have w4 : WebRows [[], [0]] := wrs _ (by decide)
  have w5 : WebRows [[1], [0]] := wrs _ (by decide)
  clear wrs
  refine ⟨_, rfl, r, 64, 8, 8, rfl, ?_, ?_⟩
  · have e : r = 0 ∨ r = 1 ∨ r = 2 ∨ r = 3 ∨ r = 4 ∨ r = 5 ∨ r = 6 ∨ r = 7 := by omega
    rcases e with rfl | rfl | rfl | rfl | rfl | rfl | rfl | rfl <;> exact ⟨by decide, by decide, by decide, by decide⟩
  refine for_rangeC (n := 8) (fun i σ H' => ∃ x3, σ = [some (.ref a), some (.ref b), some (.int r), x3, none, none] ∧ Same H2 H') ⟨none, rfl, Same.refl _⟩ ?_ ?_
  · rintro i σ H3 hi ⟨x3, rfl, s3⟩
    refine ⟨_, rfl, _, rfl, ⟨by omega, by omega⟩, fun p rows H4 s4 _ wa wr => ⟨p, rows, rfl, wa, wr, fun H5 s5 => ⟨_, rfl, ite2 (fun z => by cases z) (fun _ => ⟨_, rfl, (s3.trans s4).trans s5⟩)⟩⟩⟩
  rintro σ H3 ⟨x3, rfl, s3⟩
  have hb3 := hb2.same s3
  -- the five written webs
  refine ⟨len_le (by decide : 0 ≤ 1000), fun a1 n1 => ⟨len_le (by decide : 1 ≤ 1000), fun m1 k1 => ?_⟩⟩
  obtain ⟨v1, t1⟩ := web_one (xs := []) [] rfl n1 k1
  generalize upd (upd H3 a1 (.tup [])) m1 (.tup [.ref a1]) = J1 at v1 t1 ⊢
  refine ⟨len_le (by decide : 0 ≤ 1000), fun a2 n2 => ⟨len_le (by decide : 0 ≤ 1000), fun c2 d2 => ⟨len_le (by decide : 2 ≤ 1000), fun m2 k2 => ?_⟩⟩⟩
  obtain ⟨v2, t2⟩ := web_two (xs := []) (ys := []) [] [] rfl rfl n2 d2 k2
  generalize upd (upd (upd J1 a2 (.tup [])) c2 (.tup [])) m2 (.tup [.ref a2, .ref c2]) = J2 at v2 t2 ⊢
  refine ⟨len_le (by decide : 1 ≤ 1000), fun a3 n3 => ⟨len_le (by decide : 0 ≤ 1000), fun c3 d3 => ⟨len_le (by decide : 2 ≤ 1000), fun m3 k3 => ?_⟩⟩⟩
  obtain ⟨v3, t3⟩ := web_two (xs := [.int 1]) (ys := []) [1] [] rfl rfl n3 d3 k3
  generalize upd (upd (upd J2 a3 (.tup [.int 1])) c3 (.tup [])) m3 (.tup [.ref a3, .ref c3]) = J3 at v3 t3 ⊢
  refine ⟨len_le (by decide : 0 ≤ 1000), fun a4 n4 => ⟨len_le (by decide : 1 ≤ 1000), fun c4 d4 => ⟨len_le (by decide : 2 ≤ 1000), fun m4 k4 => ?_⟩⟩⟩
  obtain ⟨v4, t4⟩ := web_two (xs := []) (ys := [.int 0]) [] [0] rfl rfl n4 d4 k4
  generalize upd (upd (upd J3 a4 (.tup [])) c4 (.tup [.int 0])) m4 (.tup [.ref a4, .ref c4]) = J4 at v4 t4 ⊢
  refine ⟨len_le (by decide : 1 ≤ 1000), fun a5 n5 => ⟨len_le (by decide : 1 ≤ 1000), fun c5 d5 => ⟨len_le (by decide : 2 ≤ 1000), fun m5 k5 => ?_⟩⟩⟩
  obtain ⟨v5, t5⟩ := web_two (xs := [.int 1]) (ys := [.int 0]) [1] [0] rfl rfl n5 d5 k5
  generalize upd (upd (upd J4 a5 (.tup [.int 1])) c5 (.tup [.int 0])) m5 (.tup [.ref a5, .ref c5]) = J5 at v5 t5 ⊢
  refine ⟨len_le (by decide : 5 ≤ 1000), fun l nl => ?_⟩
  have tl := same_new (o := .lst [.ref m1, .ref m2, .ref m3, .ref m4, .ref m5]) nl
  have hl := upd_same (H := J5) (a := l) (o := .lst [.ref m1, .ref m2, .ref m3, .ref m4, .ref m5])
  have all : ∀ x ∈ [V.ref m1, V.ref m2, V.ref m3, V.ref m4, V.ref m5], ∃ p rows, x = .ref p ∧ WebAt (upd J5 l (.lst [.ref m1, .ref m2, .ref m3, .ref m4, .ref m5])) p rows ∧ WebRows rows := fun x hx => by
    simp only [List.mem_cons, List.not_mem_nil, or_false] at hx
    rcases hx with rfl | rfl | rfl | rfl | rfl
    · exact ⟨m1, _, rfl, v1.same ((((t2.trans t3).trans t4).trans t5).trans tl), w1⟩
    · exact ⟨m2, _, rfl, v2.same (((t3.trans t4).trans t5).trans tl), w2⟩
    · exact ⟨m3, _, rfl, v3.same ((t4.trans t5).trans tl), w3⟩
    · exact ⟨m4, _, rfl, v4.same (t5.trans tl), w4⟩
    · exact ⟨m5, _, rfl, v5.same tl, w5⟩
  have hb6 := hb3.same (((((t1.trans t2).trans t3).trans t4).trans t5).trans tl)
  generalize upd J5 l (.lst [.ref m1, .ref m2, .ref m3, .ref m4, .ref m5]) = H6 at hl all hb6 ⊢
  refine ⟨l, rfl, ⟨_, SqL.of hl⟩, for_list (xs := [V.ref m1, V.ref m2, V.ref m3, V.ref m4, V.ref m5]) (fun i σ H' => ∃ x4, σ = [some (.ref a), some (.ref b), some (.int r), x3, x4, none] ∧ Same H6 H') ⟨none, rfl, Same.refl _⟩ (fun i σ H' _ z => SqL.of (z.choose_spec.2 _ _ hl)) ?_ ?_⟩
  · rintro i x σ H7 hx ⟨x4, rfl, s7⟩
    obtain ⟨p, rows, rfl, wa, wr⟩ := all x (List.mem_of_getElem? hx)
    exact ⟨_, rfl, p, rows, rfl, wa.same s7, wr, fun H8 s8 => ⟨_, rfl, ite2 (fun z => by cases z) (fun _ => ⟨_, rfl, s7.trans s8⟩)⟩⟩
  rintro σ H7 ⟨x4, rfl, s7⟩
  have hb7 := hb6.same s7
  -- four drawn webs
  refine ⟨4, rfl, by decide, by decide, for_range (n := 4) (fun i σ H' => ∃ x4 x5, σ = [some (.ref a), some (.ref b), some (.int r), x3, x4, x5] ∧ BagAt H' b g) ⟨x4, none, rfl, hb7⟩ ?_ (fun σ H' _ => q H')⟩
  rintro i σ H8 _ ⟨y4, y5, rfl, hb8⟩
  refine ⟨_, rfl, b, g, 9, rfl, hb8, by decide, by decide, fun p rows H9 bt9 hb9 _ wa wr _ => ?_⟩
  dsimp only [gName]
  refine ⟨_, rfl, p, rows, rfl, wa, wr, fun H10 s10 => ⟨_, rfl, ite2 (fun z => by cases z) (fun _ => ?_)⟩⟩
  exact ⟨_, rfl, _, rfl, b, g, p, rows, rfl, hb9.same s10, wa.same s10, wr, fun H11 bt11 hb11 => ⟨_, rfl, ite2 (fun z => by cases z) (fun _ => ⟨_, _, rfl, hb11⟩)⟩⟩
end
end Lw

set_option maxHeartbeats 8000000
namespace Lw
open PySem PySem.Spec PyProof.Rows L2 EF Hn
open PySem.W (Frag keepIn)
/-- a def of the text, as the written part tells it -/
theorem dfn_mk {K : Frag} {h : Heap} {mg : Str → Option Value} {x : Str} {st : Stmt} {ps : List Str} {f : Addr} {od an : Option Addr} {sl : Array (Option Value)} {oc kV dc pm cd ct : Value} (X : K.In h) (G : h.Ns mainGlobals mg)
    (a : PySem.W.nsIn K mainGlobals x = some (some (.ref f))) (l : K.lookup f = some ⟨oc, od, .func (PySem.W.fnOf x x (defArgs st) (defBody st) (defScope st) .none kV dc pm an cd ct), sl⟩) (c : PySem.W.codeIn K cd x = true) (k : keepIn K (.ref f) = true)
    (hb : ∀ (kV doc pm : Value) (an : Option Addr) (cdv ct : Value) (us : List Value), us.length = ps.length → bindArgs (PySem.W.fnOf x x (defArgs st) (defBody st) (defScope st) .none kV doc pm an cdv ct) ⟨us, []⟩ = pure (ps.zip us)) : Dfn K mg x st ps :=
  have F := fun_mk (st := st) l c k
  ⟨f, _, F, F.binds hb, PySem.W.mg_of X G a⟩
def errB (K : Frag) (C : Addr) : Bool := keepIn K (.ref C) && PySem.W.excIn K C PySem.HandSPX.veTail "ValueError.__new__" && (PySem.W.subIn K (.ref C) (.type "BaseException") == some true) && (PySem.W.typeIn K (.ref C) == some (.type "type"))
theorem err_of {K : Frag} {mg : Str → Option Value} {x : Str} {C : Addr} (g : mg x = some (.ref C)) (h : errB K C = true) : Err K mg x C := by
  unfold errB at h
  simp only [Bool.and_eq_true] at h
  obtain ⟨⟨⟨h1, h2⟩, h3⟩, h4⟩ := h
  exact ⟨g, h1, h2, eq_of_beq h3, eq_of_beq h4⟩
theorem all_mk {l : PySem.W.OpenLaw} {w : World} {K : Frag} {h : Heap} {mg : Str → Option Value} {fa fl CNoWeb : Addr} {od an : Option Addr} {sl : Array (Option Value)} {oc kV dc pm cd ct : Value} {tkMOST_PEOPLE : Tok} (X : K.In h) (G : h.Ns mainGlobals mg) (hfa : mg "law" = some (.ref fa))
    (al : PySem.W.nsIn K mainGlobals "law" = some (some (.ref fl))) (ll : K.lookup fl = some ⟨oc, od, .func (PySem.W.fnOf "law" "law" (defArgs slaw) (defBody slaw) (defScope slaw) .none kV dc pm an cd ct), sl⟩) (cl : PySem.W.codeIn K cd "law" = true) (kl : keepIn K (.ref fl) = true)
    (zlen : PySem.W.nsIn K mainGlobals "len" = some none)
    (zint : PySem.W.nsIn K mainGlobals "int" = some none)
    (zabs : PySem.W.nsIn K mainGlobals "abs" = some none)
    (zsum : PySem.W.nsIn K mainGlobals "sum" = some none)
    (zisinstance : PySem.W.nsIn K mainGlobals "isinstance" = some none)
    (zall : PySem.W.nsIn K mainGlobals "all" = some none)
    (zany : PySem.W.nsIn K mainGlobals "any" = some none)
    (zrange : PySem.W.nsIn K mainGlobals "range" = some none)
    (zenumerate : PySem.W.nsIn K mainGlobals "enumerate" = some none)
    (zzip : PySem.W.nsIn K mainGlobals "zip" = some none)
    (ztuple : PySem.W.nsIn K mainGlobals "tuple" = some none)
    (zlist : PySem.W.nsIn K mainGlobals "list" = some none)
    (zbool : PySem.W.nsIn K mainGlobals "bool" = some none)
    (zsorted : PySem.W.nsIn K mainGlobals "sorted" = some none)
    (zset : PySem.W.nsIn K mainGlobals "set" = some none)
    (zValueError : PySem.W.nsIn K mainGlobals "ValueError" = some none)
    (zmin : PySem.W.nsIn K mainGlobals "min" = some none)
    (D_law_bag : Dfn K mg "_law_bag" s_law_bag ["script"])
    (D_law_pick : Dfn K mg "_law_pick" s_law_pick ["bag", "many"])
    (D_law_some : Dfn K mg "_law_some" s_law_some ["bag", "things"])
    (D_law_is : Dfn K mg "_law_is" s_law_is ["thing", "due"])
    (D_law_web : Dfn K mg "_law_web" s_law_web ["bag", "most"])
    (D_law_found : Dfn K mg "_law_found" s_law_found ["web"])
    (D_law_pieces : Dfn K mg "_law_pieces" s_law_pieces ["web"])
    (D_law_knots : Dfn K mg "_law_knots" s_law_knots ["web"])
    (D_law_are_kept : Dfn K mg "_law_are_kept" s_law_are_kept ["here", "there"])
    (D_law_small : Dfn K mg "_law_small" s_law_small ["number"])
    (D_law_called : Dfn K mg "_law_called" s_law_called ["web", "names"])
    (D_law_lots : Dfn K mg "_law_lots" s_law_lots ["lots", "names"])
    (D_law_is_told : Dfn K mg "_law_is_told" s_law_is_told ["web"])
    (D_law_turned_about : Dfn K mg "_law_turned_about" s_law_turned_about ["web"])
    (D_law_right : Dfn K mg "_law_right" s_law_right ["bag", "web"])
    (Dis_integer : Dfn K mg "is_integer" sis_integer ["thing"])
    (Dis_between : Dfn K mg "is_between" sis_between ["thing", "least", "most"])
    (Dis_person : Dfn K mg "is_person" sis_person ["thing", "many"])
    (Dis_ascending : Dfn K mg "is_ascending" sis_ascending ["row"])
    (Dis_web : Dfn K mg "is_web" sis_web ["thing"])
    (Dis_pocket : Dfn K mg "is_pocket" sis_pocket ["thing", "u", "many"])
    (Dcheck_web : Dfn K mg "check_web" scheck_web ["thing"])
    (Dfinds : Dfn K mg "finds" sfinds ["web"])
    (Dpieces : Dfn K mg "pieces" spieces ["web"])
    (Dknots : Dfn K mg "knots" sknots ["web"])
    (Dsteps_from : Dfn K mg "steps_from" ssteps_from ["pockets", "start"])
    (Dfound_from : Dfn K mg "found_from" sfound_from ["pockets", "start"])
    (Dall_found : Dfn K mg "all_found" sall_found ["pockets"])
    (Dboth_ways : Dfn K mg "both_ways" sboth_ways ["pockets"])
    (Dpieces_among : Dfn K mg "pieces_among" spieces_among ["pockets"])
    (Dknots_among : Dfn K mg "knots_among" sknots_among ["found"])
    (Dknot_around : Dfn K mg "knot_around" sknot_around ["u", "found"])
    (cMOST_PEOPLE : PySem.W.nsIn K mainGlobals "MOST_PEOPLE" = some (some (.int 9 tkMOST_PEOPLE)))
    (aNoWeb : PySem.W.nsIn K mainGlobals "NoWeb" = some (some (.ref CNoWeb)))
    (bErr : errB K CNoWeb = true) :
    ∃ fd : FuncData, (∀ (s : Shared) (v : Value), BindsTo s fd ⟨[v], []⟩ [("script", v)]) ∧ ∀ base : Heap, K.In base → base.Ns mainGlobals mg → FnOk l.prog w K mg base CX0 26 fa fd ["script"] (spLaw K) := by
  have e := hfa.symm.trans (PySem.W.mg_of X G al)
  cases e
  have F := fun_mk (st := slaw) ll cl kl
  have B : Bl mg := ⟨PySem.W.mg_none_of X G zlen, PySem.W.mg_none_of X G zint, PySem.W.mg_none_of X G zabs, PySem.W.mg_none_of X G zsum, PySem.W.mg_none_of X G zisinstance, PySem.W.mg_none_of X G zall, PySem.W.mg_none_of X G zany, PySem.W.mg_none_of X G zrange, PySem.W.mg_none_of X G zenumerate, PySem.W.mg_none_of X G zzip, PySem.W.mg_none_of X G ztuple, PySem.W.mg_none_of X G zlist, PySem.W.mg_none_of X G zbool, PySem.W.mg_none_of X G zsorted, PySem.W.mg_none_of X G zset, PySem.W.mg_none_of X G zValueError⟩
  refine ⟨PySem.W.fnOf "law" "law" (defArgs slaw) (defBody slaw) (defScope slaw) .none kV dc pm an cd ct, fun s v => .of_eq rfl, fun base _ _ => ?_⟩
  have T : TX K mg CNoWeb := ⟨err_of (PySem.W.mg_of X G aNoWeb) bErr⟩
  have kpick := k_pick (P := l.prog) (w := w) (base := base) B D_law_pick
  have ksome := k_some B D_law_some kpick
  have kint := k_integer (P := l.prog) (w := w) (base := base) B Dis_integer
  have kper := k_person B Dis_person (k_between B Dis_between kint)
  have kpoc := k_pocket B Dis_pocket kper (k_ascending B Dis_ascending)
  have kweb := k_is_web B (PySem.W.mg_of X G cMOST_PEOPLE) Dis_web kpoc
  have kchk := k_check_web B T Dcheck_web kweb
  have kall := k_all_found B Dall_found (k_found_from B Dfound_from (k_steps_from (P := l.prog) (w := w) (base := base) B Dsteps_from))
  have kkn := k_knots_among B Dknots_among (k_knot_around (P := l.prog) (w := w) (base := base) B Dknot_around)
  have kpie := k_pieces_among B Dpieces_among (k_both_ways B Dboth_ways) kall kkn
  have kfinds := finds_R (k_finds B Dfinds kchk kall)
  have kpieces := pieces_R (k_pieces B Dpieces kchk kpie)
  have kknots := knots_R (k_knots B Dknots kchk kall kkn)
  have klf := k_found (P := l.prog) (w := w) (base := base) B D_law_found
  have klk := k_lknots B D_law_knots klf
  have klp := k_lpieces (P := l.prog) (w := w) (base := base) B (PySem.W.mg_none_of X G zmin) D_law_pieces
  have ktold := k_told B D_law_is_told (k_isD B D_law_is 24) kfinds kpieces kknots klf klp klk
  have kright := k_right B D_law_right kpick kfinds kpieces kknots (k_called B D_law_called) (k_lots B D_law_lots) (k_about B D_law_turned_about) (k_kept B D_law_are_kept)
  exact ok_law F B (k_bag B D_law_bag) kpick (k_web B D_law_web kpick ksome) (k_small B D_law_small) ktold kright
end Lw
open PySem PySem.W PyProof.Rows
set_option maxHeartbeats 0 in
theorem PySem.Challenge.cw_stillfound_k02_whole_finds_pieces_knots_holds : PySem.Challenge.rw_stillfound_k02_whole_finds_pieces_knots.Holds := by
  w_on; o_law; k_head; (case hw => w_witness2)
  k_fill
  refine L2.walk_of (l := PySem.Challenge.rw_stillfound_k02_whole_finds_pieces_knots) (n := 63) (k := 26) (x := "script") (CX := fun _ => L2.CX0) (sp := fun w => Lw.spLaw _) rfl (by decide) rfl ⟨rfl, by decide, by decide⟩ (fun w h Y => PySem.W.kIn_of Y) ?F (fun _ _ a ns hl _ hS => ⟨a, ns, rfl, hS, hl, fun _ => rfl⟩) (fun _ _ _ _ _ h => h)
  case F =>
    intro w mg fa h KX G hmg
    refine' Lw.all_mk KX G hmg ?al ?ll ?cl ?kl ?zlen ?zint ?zabs ?zsum ?zisinstance ?zall ?zany ?zrange ?zenumerate ?zzip ?ztuple ?zlist ?zbool ?zsorted ?zset ?zValueError ?zmin ?D_law_bag ?D_law_pick ?D_law_some ?D_law_is ?D_law_web ?D_law_found ?D_law_pieces ?D_law_knots ?D_law_are_kept ?D_law_small ?D_law_called ?D_law_lots ?D_law_is_told ?D_law_turned_about ?D_law_right ?Dis_integer ?Dis_between ?Dis_person ?Dis_ascending ?Dis_web ?Dis_pocket ?Dcheck_web ?Dfinds ?Dpieces ?Dknots ?Dsteps_from ?Dfound_from ?Dall_found ?Dboth_ways ?Dpieces_among ?Dknots_among ?Dknot_around ?cMOST_PEOPLE ?aNoWeb ?bErr
    (case al => k_is)
    (case ll => k_is)
    (case cl => k_is)
    (case kl => k_is)
    (case zlen => k_is)
    (case zint => k_is)
    (case zabs => k_is)
    (case zsum => k_is)
    (case zisinstance => k_is)
    (case zall => k_is)
    (case zany => k_is)
    (case zrange => k_is)
    (case zenumerate => k_is)
    (case zzip => k_is)
    (case ztuple => k_is)
    (case zlist => k_is)
    (case zbool => k_is)
    (case zsorted => k_is)
    (case zset => k_is)
    (case zValueError => k_is)
    (case zmin => k_is)
    (case D_law_bag => refine' Lw.dfn_mk KX G ?a ?l ?c ?k (fun _ _ _ _ _ _ us hl => match us, hl with | [_], _ => rfl); (case a => k_is); (case l => k_is); (case c => k_is); (case k => k_is))
    (case D_law_pick => refine' Lw.dfn_mk KX G ?a ?l ?c ?k (fun _ _ _ _ _ _ us hl => match us, hl with | [_, _], _ => rfl); (case a => k_is); (case l => k_is); (case c => k_is); (case k => k_is))
    (case D_law_some => refine' Lw.dfn_mk KX G ?a ?l ?c ?k (fun _ _ _ _ _ _ us hl => match us, hl with | [_, _], _ => rfl); (case a => k_is); (case l => k_is); (case c => k_is); (case k => k_is))
    (case D_law_is => refine' Lw.dfn_mk KX G ?a ?l ?c ?k (fun _ _ _ _ _ _ us hl => match us, hl with | [_, _], _ => rfl); (case a => k_is); (case l => k_is); (case c => k_is); (case k => k_is))
    (case D_law_web => refine' Lw.dfn_mk KX G ?a ?l ?c ?k (fun _ _ _ _ _ _ us hl => match us, hl with | [_, _], _ => rfl); (case a => k_is); (case l => k_is); (case c => k_is); (case k => k_is))
    (case D_law_found => refine' Lw.dfn_mk KX G ?a ?l ?c ?k (fun _ _ _ _ _ _ us hl => match us, hl with | [_], _ => rfl); (case a => k_is); (case l => k_is); (case c => k_is); (case k => k_is))
    (case D_law_pieces => refine' Lw.dfn_mk KX G ?a ?l ?c ?k (fun _ _ _ _ _ _ us hl => match us, hl with | [_], _ => rfl); (case a => k_is); (case l => k_is); (case c => k_is); (case k => k_is))
    (case D_law_knots => refine' Lw.dfn_mk KX G ?a ?l ?c ?k (fun _ _ _ _ _ _ us hl => match us, hl with | [_], _ => rfl); (case a => k_is); (case l => k_is); (case c => k_is); (case k => k_is))
    (case D_law_are_kept => refine' Lw.dfn_mk KX G ?a ?l ?c ?k (fun _ _ _ _ _ _ us hl => match us, hl with | [_, _], _ => rfl); (case a => k_is); (case l => k_is); (case c => k_is); (case k => k_is))
    (case D_law_small => refine' Lw.dfn_mk KX G ?a ?l ?c ?k (fun _ _ _ _ _ _ us hl => match us, hl with | [_], _ => rfl); (case a => k_is); (case l => k_is); (case c => k_is); (case k => k_is))
    (case D_law_called => refine' Lw.dfn_mk KX G ?a ?l ?c ?k (fun _ _ _ _ _ _ us hl => match us, hl with | [_, _], _ => rfl); (case a => k_is); (case l => k_is); (case c => k_is); (case k => k_is))
    (case D_law_lots => refine' Lw.dfn_mk KX G ?a ?l ?c ?k (fun _ _ _ _ _ _ us hl => match us, hl with | [_, _], _ => rfl); (case a => k_is); (case l => k_is); (case c => k_is); (case k => k_is))
    (case D_law_is_told => refine' Lw.dfn_mk KX G ?a ?l ?c ?k (fun _ _ _ _ _ _ us hl => match us, hl with | [_], _ => rfl); (case a => k_is); (case l => k_is); (case c => k_is); (case k => k_is))
    (case D_law_turned_about => refine' Lw.dfn_mk KX G ?a ?l ?c ?k (fun _ _ _ _ _ _ us hl => match us, hl with | [_], _ => rfl); (case a => k_is); (case l => k_is); (case c => k_is); (case k => k_is))
    (case D_law_right => refine' Lw.dfn_mk KX G ?a ?l ?c ?k (fun _ _ _ _ _ _ us hl => match us, hl with | [_, _], _ => rfl); (case a => k_is); (case l => k_is); (case c => k_is); (case k => k_is))
    (case Dis_integer => refine' Lw.dfn_mk KX G ?a ?l ?c ?k (fun _ _ _ _ _ _ us hl => match us, hl with | [_], _ => rfl); (case a => k_is); (case l => k_is); (case c => k_is); (case k => k_is))
    (case Dis_between => refine' Lw.dfn_mk KX G ?a ?l ?c ?k (fun _ _ _ _ _ _ us hl => match us, hl with | [_, _, _], _ => rfl); (case a => k_is); (case l => k_is); (case c => k_is); (case k => k_is))
    (case Dis_person => refine' Lw.dfn_mk KX G ?a ?l ?c ?k (fun _ _ _ _ _ _ us hl => match us, hl with | [_, _], _ => rfl); (case a => k_is); (case l => k_is); (case c => k_is); (case k => k_is))
    (case Dis_ascending => refine' Lw.dfn_mk KX G ?a ?l ?c ?k (fun _ _ _ _ _ _ us hl => match us, hl with | [_], _ => rfl); (case a => k_is); (case l => k_is); (case c => k_is); (case k => k_is))
    (case Dis_web => refine' Lw.dfn_mk KX G ?a ?l ?c ?k (fun _ _ _ _ _ _ us hl => match us, hl with | [_], _ => rfl); (case a => k_is); (case l => k_is); (case c => k_is); (case k => k_is))
    (case Dis_pocket => refine' Lw.dfn_mk KX G ?a ?l ?c ?k (fun _ _ _ _ _ _ us hl => match us, hl with | [_, _, _], _ => rfl); (case a => k_is); (case l => k_is); (case c => k_is); (case k => k_is))
    (case Dcheck_web => refine' Lw.dfn_mk KX G ?a ?l ?c ?k (fun _ _ _ _ _ _ us hl => match us, hl with | [_], _ => rfl); (case a => k_is); (case l => k_is); (case c => k_is); (case k => k_is))
    (case Dfinds => refine' Lw.dfn_mk KX G ?a ?l ?c ?k (fun _ _ _ _ _ _ us hl => match us, hl with | [_], _ => rfl); (case a => k_is); (case l => k_is); (case c => k_is); (case k => k_is))
    (case Dpieces => refine' Lw.dfn_mk KX G ?a ?l ?c ?k (fun _ _ _ _ _ _ us hl => match us, hl with | [_], _ => rfl); (case a => k_is); (case l => k_is); (case c => k_is); (case k => k_is))
    (case Dknots => refine' Lw.dfn_mk KX G ?a ?l ?c ?k (fun _ _ _ _ _ _ us hl => match us, hl with | [_], _ => rfl); (case a => k_is); (case l => k_is); (case c => k_is); (case k => k_is))
    (case Dsteps_from => refine' Lw.dfn_mk KX G ?a ?l ?c ?k (fun _ _ _ _ _ _ us hl => match us, hl with | [_, _], _ => rfl); (case a => k_is); (case l => k_is); (case c => k_is); (case k => k_is))
    (case Dfound_from => refine' Lw.dfn_mk KX G ?a ?l ?c ?k (fun _ _ _ _ _ _ us hl => match us, hl with | [_, _], _ => rfl); (case a => k_is); (case l => k_is); (case c => k_is); (case k => k_is))
    (case Dall_found => refine' Lw.dfn_mk KX G ?a ?l ?c ?k (fun _ _ _ _ _ _ us hl => match us, hl with | [_], _ => rfl); (case a => k_is); (case l => k_is); (case c => k_is); (case k => k_is))
    (case Dboth_ways => refine' Lw.dfn_mk KX G ?a ?l ?c ?k (fun _ _ _ _ _ _ us hl => match us, hl with | [_], _ => rfl); (case a => k_is); (case l => k_is); (case c => k_is); (case k => k_is))
    (case Dpieces_among => refine' Lw.dfn_mk KX G ?a ?l ?c ?k (fun _ _ _ _ _ _ us hl => match us, hl with | [_], _ => rfl); (case a => k_is); (case l => k_is); (case c => k_is); (case k => k_is))
    (case Dknots_among => refine' Lw.dfn_mk KX G ?a ?l ?c ?k (fun _ _ _ _ _ _ us hl => match us, hl with | [_], _ => rfl); (case a => k_is); (case l => k_is); (case c => k_is); (case k => k_is))
    (case Dknot_around => refine' Lw.dfn_mk KX G ?a ?l ?c ?k (fun _ _ _ _ _ _ us hl => match us, hl with | [_, _], _ => rfl); (case a => k_is); (case l => k_is); (case c => k_is); (case k => k_is))
    (case cMOST_PEOPLE => k_is)
    (case aNoWeb => k_is)
    (case bErr => kernel_rfl)

