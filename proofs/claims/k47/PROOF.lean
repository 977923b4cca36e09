import PyProof.Rows.All
import Wide.All
import OpenK.AllK
import Wide.FinOn
import PyProof.EqAt
import PyProof.EqKinds
import PyProof.TupleCall
import KE.KExcSuper
import HandS.ForMost
import HandS.ExcInit
import HandS.ExcValue
import HandS.IsInst
import KE.KExcIs
import HandS.Zip
import HandS.More
import HandS.TupAny
import HandS.TupSets
import HandS.Strs
import HandS.SetBool
import KE.SortData
import KE.LtData
import HandS.SortOrd
import HandS.Deep
import HandS.SetFor
import PyProof.WalksMore
import HandS.ForExc
import PyProof.P3In
import HandS.TupMul
import HandS.Star
import HandS.WordsDict
import HandS.SetIn
import KE.KSetDisp
import KE.GoesEnum
import KE.GoesMore
import HandS.Small
import HandS.ExcIs
import HandS.SortInts
import KE.SortCalls
import KE.LtSeq
import KE.KSortTup
import HandS.Style
import HandS.CallLocal
import KE.KRevSl
import HandS.TryMany
import KE.DataFind
import HandS.SortKw
import HandS.DictComp
import PyProof.DictFindH
import HandS.Conv
import PyProof.CallType
import PyProof.Walk
import PyProof.WalkLemmas
import PyProof.RulesTry
import HandS.RepeatKit
import HandS.Iter
import HandS.Sort
import KE.DatumOrd
import HandS.NoneIn
import HandS.Text
import HandS.FStr
import HandS.RaiseMore
import PySem.Challenge.RW_stillfound_k47_vanishing_and_texts_refus
import KE.OsArith
import PyProof.Rows.BitMore
set_option Elab.async false
set_option linter.all false
set_option maxRecDepth 100000
set_option maxHeartbeats 4000000
/-! Errors with one field, whose __init__ says super().__init__(a text) and then keeps the field. -/
namespace EF
open PySem PySem.W PySem.Calls PyProof.Rows
def eA (f : Str) (p1 p2 : Pos) : Arguments :=
  { posonlyargs := [], args := [⟨"self", none, p1⟩, ⟨f, none, p2⟩], vararg := none, kwonlyargs := [], kw_defaults := [], kwarg := none, defaults := [] }
def eB (f tx : Str) (q1 q2 q3 q4 q5 q6 q7 q8 q9 q10 : Pos) : List Stmt :=
  [.Expr (.Call (.Attribute (.Call (.Name "super" q1) [] [] q2) "__init__" q3) [.Constant (.str tx) 0 q4] [] q5) q6,
   .Assign [.Attribute (.Name "self" q7) f q8] (.Name f q9) q10]
def eS (f : Str) : Scope :=
  { kind := .function, names := [("self", .local), (f, .local), ("__class__", .free), ("super", .globalImplicit)], isGenerator := false, isCoroutine := false, more := [] }
/-- the field's name is none of the other names -/
structure FOk (f : Str) : Prop where
  l1 : (eS f).names.lookup ("self" : Str) = some .local
  l2 : (eS f).names.lookup f = some .local
  l3 : (eS f).names.lookup ("__class__" : Str) = some .free
  l4 : (eS f).names.lookup ("super" : Str) = some .globalImplicit
  ne : ("self" : Str) ≠ f
  nd : (f == ("__debug__" : Str)) = false
  bd : ∀ (qual : Str) (p1 p2 : Pos) (body : List Stmt) (kV dc pm : Value) (an : Option Addr) (cdv ct : Value) (cc : Addr) (a b : Value),
    bindArgs (ksFn "__init__" qual (eA f p1 p2) body (eS f) .none kV dc pm an cdv ct cc) ⟨[a, b], []⟩ = pure [(("self" : Str), a), (f, b)]
/-- what the written part says of such a class, at C; its __init__ is at fI -/
structure ErrC (prog : Program) (K : Frag) (mg : Str → Option Value) (C : Addr) (f : Str) : Prop where
  fok : FOk f
  cls : ∃ nm q N bs bm sn sub ab col dd k0 k1 k2 k3 k5, K.lookup C = some (excClassObj nm q C N bs bm true sn sub ab col dd k0 k1 k2 k3 k5 "ValueError.__new__") ∧ PySem.HandSPX.refsVE bm = true
  sa : findIn K (.ref C) "__setattr__" = some (some (.builtin "object.__setattr__"))
  ga : findIn K (.ref C) "__getattribute__" = some (some (.builtin "BaseException.__getattribute__"))
  gg : findIn K (.ref C) "__getattr__" = some none
  noF : findIn K (.ref C) f = some none
  exC : subIn K (.ref C) (.type "BaseException") = some true
  veC : subIn K (.ref C) (.type "ValueError") = some true
  meC : mroIn K C (.ref C) = some true
  tyC : typeIn K (.ref C) = some (.type "type")
  hdC : hasDictIn K C = true
  kC : keepIn K (.ref C) = true
  noSup : mg "super" = none
  noTop : (prog.main.scope.names.lookup ("super" : Str)).isSome = false
  sup : ks_superIn K C C "__init__" = some (some (.builtin "ValueError.__init__"))
  any : nsIn K cStatics "thirdparty.any" = some none
  ini : ∃ fI : Addr, findIn K (.ref C) "__init__" = some (some (.ref fI)) ∧ typeIn K (.ref fI) = some (.type "function") ∧
    ∃ (oc dc pm ct qt : Value) (od an : Option Addr) (osl : Array (Option Value)) (qual tx : Str) (cda cc : Addr) (p1 p2 q1 q2 q3 q4 q5 q6 q7 q8 q9 q10 : Pos),
      K.lookup fI = some ⟨oc, od, .func (ksFn "__init__" qual (eA f p1 p2) (eB f tx q1 q2 q3 q4 q5 q6 q7 q8 q9 q10) (eS f) .none qt dc pm an (.ref cda) ct cc), osl⟩ ∧
      codeIn K (.ref cda) qual = true ∧ (q3.endLine == q5.line) = true ∧
      (∃ (c1 : Value) (c2 : Option Addr) (vs : Array Value) (c3 : Array (Option Value)) (file : Str) (tf : Tok), K.lookup cda = some ⟨c1, c2, .fields vs, c3⟩ ∧ vs[2]? = some (.str file tf) ∧ ((prog.main.file : Str) == file) = true) ∧
      ∃ (c1 : Value) (c2 : Option Addr) (c3 : Array (Option Value)), K.lookup cc = some ⟨c1, c2, .cell (some (.ref C)), c3⟩
/-- what __init__ leaves of a fresh error at x -/
structure InitEnd (f : Str) (h h' : Heap) (x C dx t1 : Addr) (v : Value) : Prop where
  keep : ∀ b o, b ≠ x → h.get? b = some o → h'.get? b = some o
  obj : h'.get? x = some { cls := .ref C, dict := some dx, data := .fields #[.ref t1, .none, .none, .none, .bool false, .none] }
  dbig : h.objs.size ≤ dx
  dne : dx ≠ x
  ns : h'.Ns1 dx (fun y => if y = f then some v else none)
section
variable {prog : Program} {w : World} {A : Around} {E : Value → Shared → Prop} {R : Result → Shared → Prop} {s : Shared} {K : Frag} {mg mb : Str → Option Value} {C : Addr} {f : Str}
/-- the built-in __init__, bound to the error at x, is called -/
theorem bound_called (T : ErrC prog K mg C f) (X : K.In s.heap) {u x t0 : Addr} {rest : List Value} {Q : Value → Shared → Prop} (hu : s.heap.get? u = some (kxs_mw "ValueError.__init__" x)) (hx : s.heap.get? x = some (PySem.HandSPX.excO C t0))
    (hr : rest.length ≤ sizeLine) (hq : ∀ h' t1, (∀ b o, b ≠ x → s.heap.get? b = some o → h'.get? b = some o) → h'.get? x = some (PySem.HandSPX.excO C t1) → Q .none { s with heap := h' }) :
    wpAny (model prog w) A (call (.ref u) rest) Q E s := by
  obtain ⟨nm, q, N, bs, bm, sn, sub, ab, col, dd, k0, k1, k2, k3, k5, hC, hbm⟩ := T.cls
  have FB := F.excBase_ValueError
  obtain ⟨hh, g, d, tk, os⟩ := s
  refine wpAny_call (codeAny_of_tree (show wpAny _ A.in1 (callAny (.ref u) ⟨rest, []⟩) _ _ _ from ?_))
  unfold callAny
  refine wpAny_bind (wpAny_load hu ?_)
  have tm : (Value.type "method-wrapper" == Value.type "method" || Value.type "method-wrapper" == Value.type "builtin_function_or_method" || Value.type "method-wrapper" == Value.type "method-wrapper") = true := by decide
  simp only [kxs_mw, tm, if_true]
  refine KFB.if_so (by decide) (wpAny_bind (check_bound_init FB.toExcCallFacts (X _ _ hC) hx rfl (wpAny_bind (wpAny_pure (wpAny_pure ⟨plainId_quiet FB.init.plain _, codeAny_builtin FB.initEntry ?_⟩)))))
  exact exc_init_tree (cls := .ref C) (t0 := t0) (dv := none) (c2 := .none) (c3 := .none) (b4 := .bool false) hx hr fun h' k e _ => hq h' _ k e
theorem meth_call {env : Env} {q1 q2 q3 q4 q5 : Pos} {name tx : Str} (hl : (q3.endLine == q5.line) = true) :
    eval (.Call (.Attribute (.Call (.Name "super" q1) [] [] q2) name q3) [.Constant (.str tx) 0 q4] [] q5) env = (do
      let ov ← attributeBase (.Call (.Name "super" q1) [] [] q2) name env (eval (.Call (.Name "super" q1) [] [] q2) env)
      standAt q3.atName
      let (f, first) ← holding [ov] (getMethod ov name (do return (← importBound (.Call (.Name "super" q1) [] [] q2) env).getD true))
      callWith q5 f first (backTo q5 (starEach [.Constant (.str tx) 0 q4] env)) []) := by
  show (do
    let ov ← attributeBase (.Call (.Name "super" q1) [] [] q2) name env (eval (.Call (.Name "super" q1) [] [] q2) env)
    standAt q3.atName
    methodCall (.Call (.Name "super" q1) [] [] q2) name q3 q5 env ov 1 (backTo q5 (starEach [.Constant (.str tx) 0 q4] env)) []) = _
  have e : ∀ b : Bool, methodCallPos b (.Call (.Name "super" q1) [] [] q2) env q3 q5 = pure q5 := fun b => by
    unfold methodCallPos
    rw [hl, Bool.or_true, if_pos rfl]
  have e2 : ∀ ov, methodCall (.Call (.Name "super" q1) [] [] q2) name q3 q5 env ov 1 (backTo q5 (starEach [.Constant (.str tx) 0 q4] env)) [] = (do
      let (f, first) ← holding [ov] (getMethod ov name (do return (← importBound (.Call (.Name "super" q1) [] [] q2) env).getD true))
      callWith q5 f first (backTo q5 (starEach [.Constant (.str tx) 0 q4] env)) []) := fun ov => by
    unfold methodCall
    simp only [e, pure_bind]
    rfl
  simp only [e2]
/-- __init__ run over a fresh error at x -/
theorem init_run (T : ErrC prog K mg C f) (X : K.In s.heap) (hlim : s.heap.NoLimit) (hg : s.heap.Ns mainGlobals mg) (hb : s.heap.Ns builtinsNs mb) (hbs : mb "super" = some (.type "super")) {fI x t0 : Addr} {v : Value}
    (hfI : findIn K (.ref C) "__init__" = some (some (.ref fI))) (hx : s.heap.get? x = some (PySem.HandSPX.excO C t0)) (hxK : K.lookup x = none) (hroom : A.depth < recursionLimit)
    (hq : ∀ h' tk dx t1, InitEnd f s.heap h' x C dx t1 v → R (.ok (.ret .none)) { s with heap := h', toks := tk }) :
    codeAny (model prog w) A (.call (.ref fI) ⟨[.ref x, v], []⟩) R s := by
  obtain ⟨fI', hfI', tI, oc, dc, pm, ct, qt, od, an, osl, qual, tx, cda, cc, p1, p2, q1, q2, q3, q4, q5, q6, q7, q8, q9, q10, lk, hcd, hln, ⟨c1, c2, vs, c3, file, tf, lcda, hvs, hfile⟩, ⟨e1, e2, e3, lcc⟩⟩ := T.ini
  obtain rfl : fI' = fI := by
    rw [hfI] at hfI'
    cases hfI'
    rfl
  obtain ⟨nm, q, N, bs, bm, sn, sub, ab, col, dd, k0, k1', k2, k3, k5, hC, hbm⟩ := T.cls
  have hcl : clsIn K C = some { name := nm, bases := bs, mro := .ref C :: bm, ns := N, qualname := q, hasDict := true, slotNames := sn, subclasses := sub, abstract := ab, collection := col, hasDel := false } := by
    unfold clsIn; rw [hC] <;> rfl
  have nsf := T.fok.ne
  refine ks_codeAny_call_defAt (fd := ksFn "__init__" qual (eA f p1 p2) (eB f tx q1 q2 q3 q4 q5 q6 q7 q8 q9 q10) (eS f) .none qt dc pm an (.ref cda) ct cc) (body := eB f tx q1 q2 q3 q4 q5 q6 q7 q8 q9 q10) (binds := [("self", .ref x), (f, v)])
    hroom (X _ _ lk) rfl hlim (codeRec_of X hcd) rfl ?_ ?_ ?_ (fun h1 hns k1 => ?_)
  · exact BindsTo.of_eq (T.fok.bd _ _ _ _ _ _ _ _ _ _ _ _ _)
  · intro y hy
    rcases List.mem_cons.mp hy with rfl | hy
    · decide
    rcases List.mem_cons.mp hy with rfl | hy
    · show NameKind.local ≠ NameKind.cell
      decide
    rcases List.mem_cons.mp hy with rfl | hy
    · decide
    rcases List.mem_cons.mp hy with rfl | hy
    · decide
    · cases hy
  · intro y hy
    rcases List.mem_cons.mp hy with rfl | hy
    · exact T.fok.l1
    rcases List.mem_cons.mp hy with rfl | hy
    · exact T.fok.l2
    · cases hy
  · have X1 : K.In h1 := X.keeps k1
    have hx1 := k1 _ _ hx
    have m1 : ([(("self" : Str), Value.ref x), (f, v)].reverse.lookup ("self" : Str)) = some (.ref x) := by
      simp [List.lookup, beq_false_of_ne nsf]
    have m2 : ([(("self" : Str), Value.ref x), (f, v)].reverse.lookup f) = some v := by
      simp [List.lookup]
    show _root_.PySem.wpAt (model prog w) (A.deeper (ksEnv qual (eS f) s.heap.objs.size fI' (.ref cda) cc)) (.func _ (ksEnv qual (eS f) s.heap.objs.size fI' (.ref cda) cc)) (execs _ (ksEnv qual (eS f) s.heap.objs.size fI' (.ref cda) cc)) _ _ _
    have hD : h1.get? C = some (excClassObj nm q C N bs bm true sn sub ab col dd k0 k1' k2 k3 k5 "ValueError.__new__") := X1 _ _ hC
    refine ks_wpAt_execs_cons (ks_wpAt_Expr_any (ks_wpAt_MethodCall ?_ (meth_call hln)))
    refine ks_wpAt_super_base (env := ksEnv qual (eS f) s.heap.objs.size fI' (.ref cda) cc) T.fok.l4 T.fok.l3 (by decide) rfl (X1 _ _ lk) rfl rfl rfl (X1 _ _ lcda) rfl hvs hfile T.noTop ?_
    refine ks_loadName_global rfl T.fok.l4 (loadGlobal_builtin (env := ksEnv qual (eS f) s.heap.objs.size fI' (.ref cda) cc) (hg.keeps k1) T.noSup (hb.keeps k1) hbs ⟨rfl, ?_⟩)
    refine wpAny_loadName_free rfl T.fok.l3 rfl ⟨_, X1 _ _ lcc, rfl⟩ ?_
    refine wpAny_loadName_local rfl T.fok.l1 hns m1 ?_
    refine ks_wpAny_isType_cls hD rfl ⟨rfl, ?_⟩
    refine ks_wpAny_call_super hD rfl hx1 rfl (fun c e => nomatch e) (looks_mroIn X1 T.meC) (fun h2 hso k2' => ?_)
    have X2 : K.In h2 := X1.keeps k2'
    have hx2 := k2' _ _ hx1
    have ne : ∀ {b : Addr} {o : Obj}, s.heap.get? b = some o → b ≠ s.heap.objs.size := fun {b o} z => Nat.ne_of_lt (Heap.lt_size z)
    have hsp : alongIn K "__init__" ((((Value.ref C :: bm).dropWhile (· != .ref C))).drop 1) = some (some (.builtin "ValueError.__init__")) := by
      have z := T.sup
      unfold ks_superIn at z
      rw [hcl] at z
      exact z
    have I2 : InstAt h2 x (PySem.HandSPX.excO C t0) C none := ⟨hx2, rfl, rfl, trivial⟩
    have xC : x ≠ C := ks_ne X2 I2 hcl
    refine kxs_getMethod kxs_ValueError hso (looks_opaque X2 T.any) (l₀ := .ref C :: bm) (fun A Q E s k q => wpAny_bind ((looks_clsIn X2 hcl) A _ E s k (wpAny_pure q))) rfl X2 hsp (I2.type.andThen (looks_subIn X2 T.veC)) xC (by decide) ?_
    have hu3 : (h2.push (kxs_mw "ValueError.__init__" x)).get? h2.objs.size = some (kxs_mw "ValueError.__init__" x) := Heap.get?_push_at rfl rfl
    have k3 : ∀ b o, h2.get? b = some o → (h2.push (kxs_mw "ValueError.__init__" x)).get? b = some o := fun b o e => Heap.get?_push_of_some _ e
    generalize h2.push (kxs_mw "ValueError.__init__" x) = h3 at hu3 k3 ⊢
    refine kxs_callWith (i := "ValueError.__init__") (x := x) rfl (evalArgs_plain ?_)
    show wpAny _ _ (spliced [(false, eval (.Constant (.str tx) 0 q4) (ksEnv qual (eS f) s.heap.objs.size fI' (.ref cda) cc))]) _ _ _
    refine Calls.spliced_cons ?_
    refine Calls.Constant_str ?_
    refine Calls.spliced_nil ?_
    refine ⟨hu3, ?_⟩
    have X3 : K.In h3 := X2.keeps k3
    refine bound_called (s := ⟨h3, _, _, _, _⟩) T X3 hu3 (k3 _ _ hx2) (by show 1 ≤ sizeLine; rw [sizeLine_eq]; decide) fun h4 t1 k4 hx4 => ?_
    have old : ∀ b o, b ≠ x → h1.get? b = some o → h4.get? b = some o := fun b o hb e => k4 b o hb (k3 _ _ (k2' _ _ e))
    have X4 : K.In h4 := fun b o e => old b o (fun z => by
      rw [z, hxK] at e
      cases e) (X1 _ _ e)
    have hns4 : h4.Ns s.heap.objs.size (fun y => [(("self" : Str), Value.ref x), (f, v)].reverse.lookup y) :=
      hns.at fun o e => old _ o (fun z => (ne hx) z.symm) e
    refine wpAt_of_wpAny ?_
    show wpAny _ _ (execs _ _) _ _ _
    refine wpAny_execs_cons (plainObj_wpAny_Assign_Attribute ?_)
    refine wpAny_Name (wpAny_loadName_local rfl T.fok.l2 hns4 m2 ?_) T.fok.nd
    refine wpAny_Name (wpAny_loadName_local rfl T.fok.l1 hns4 m1 ?_) (by decide)
    refine set_plain (s := ⟨h4, _, _, _, _⟩) X4 (ox := PySem.HandSPX.excO C t1) (od := none) ⟨hx4, rfl, rfl, trivial⟩ T.sa ?_
    refine PySem.HandSPX.exc_osa X4 hx4 hcl (show PySem.HandSPX.refsVE (.ref C :: bm) = true from hbm) rfl T.noF (fun h5 tk5 dx k5 dn dne hx5 hn5 => ?_)
    show wpAny _ _ (execs _ _) _ _ _
    refine wpAny_execs_nil (hq h5 tk5 dx t1 ⟨fun b o hb e => k5 b o hb (old b o hb (k1 _ _ e)), hx5, ?_, dne, hn5⟩)
    exact Nat.le_trans (Nat.le_of_lt hns4.lt) dn
/-- C(v): a new error -/
theorem made (T : ErrC prog K mg C f) (X : K.In s.heap) (hlim : s.heap.NoLimit) (hg : s.heap.Ns mainGlobals mg) (hb : s.heap.Ns builtinsNs mb) (hbs : mb "super" = some (.type "super")) {v : Value} (hroom : A.depth + 1 < recursionLimit)
    (hq : ∀ h' tk x dx t1, (∀ b o, s.heap.get? b = some o → h'.get? b = some o) → s.heap.objs.size ≤ x → s.heap.objs.size ≤ dx → dx ≠ x →
      h'.get? x = some { cls := .ref C, dict := some dx, data := .fields #[.ref t1, .none, .none, .none, .bool false, .none] } → h'.Ns1 dx (fun y => if y = f then some v else none) → R (.ok (.ret (.ref x))) { s with heap := h', toks := tk }) :
    codeAny (model prog w) A (.call (.ref C) ⟨[v], []⟩) R s := by
  obtain ⟨fI, hfI, tI, _⟩ := T.ini
  obtain ⟨nm, q, N, bs, bm, sn, sub, ab, col, dd, k0, k1, k2, k3, k5, hC, hbm⟩ := T.cls
  obtain ⟨hp, g, dr, tk, os⟩ := s
  have kk : ∀ b o, hp.get? b = some o → ((hp.push (kdv_tup [v])).push (PySem.HandSPX.excO C hp.objs.size)).get? b = some o := fun b o e => Heap.get?_push_of_some _ (Heap.get?_push_of_some _ e)
  have hget : ((hp.push (kdv_tup [v])).push (PySem.HandSPX.excO C hp.objs.size)).get? (hp.objs.size + 1) = some (PySem.HandSPX.excO C hp.objs.size) := by heap_get
  have hxK : K.lookup (hp.objs.size + 1) = none := by
    cases e : K.lookup (hp.objs.size + 1) with
    | none => rfl
    | some o => exact absurd (Nat.lt_of_succ_lt (Heap.lt_size (X _ _ e))) (Nat.lt_irrefl _)
  refine PySem.HandSPX.call_own F.excBase_ValueError (fun Y => PySem.HandSPX.refsVE_contains Y bm hbm) (X _ _ hC) (looks_findIn X hfI) (fun self => bind_fn X self tI) (by show 1 ≤ sizeLine; rw [sizeLine_eq]; decide) ?_
  refine init_run (s := ⟨(hp.push (kdv_tup [v])).push (PySem.HandSPX.excO C hp.objs.size), g, dr, tk, os⟩) T (X.keeps kk) (hlim.keeps kk) (hg.keeps kk) (hb.keeps kk) hbs hfI hget hxK hroom fun h' tk' dx t1 Z => ?_
  have old : ∀ b o, hp.get? b = some o → h'.get? b = some o := fun b o e => Z.keep b o (Nat.ne_of_lt (Nat.lt_succ_of_lt (Heap.lt_size e))) (kk b o e)
  have z : hp.objs.size + 1 + 1 ≤ dx := by
    have q := Z.dbig
    simp only [Heap.size_push] at q
    exact q
  exact ⟨rfl, hq h' tk' (hp.objs.size + 1) dx t1 old (Nat.le_succ _) (Nat.le_trans (Nat.le_trans (Nat.le_succ _) (Nat.le_succ _)) z) Z.dne Z.obj Z.ns⟩
end
end EF

set_option maxHeartbeats 4000000
namespace EF
open PySem PySem.Spec PyProof.Rows L2
open PySem.W (Frag findIn subIn mroIn clsIn nsIn specialIn takesIn keepIn hasDictIn InstAt)
/-- an error stands at a: of the class at C, and its fields if it has some -/
def ErrAt (H : Hp) (a C : Addr) (fs : List (Str × V)) : Prop :=
  (∃ d, H a = some (exo a C (some d)) ∧ H d = some (exd d fs)) ∨ (fs = [] ∧ H a = some (ExO (.ref C) a))
theorem ErrAt.ext {H H' : Hp} {a C : Addr} {fs : List (Str × V)} (h : ErrAt H a C fs) (e : ∀ b o, H b = some o → H' b = some o) : ErrAt H' a C fs := by
  rcases h with ⟨d, h1, h2⟩ | ⟨h0, h1⟩
  · exact .inl ⟨d, e _ _ h1, e _ _ h2⟩
  · exact .inr ⟨h0, e _ _ h1⟩
section
variable {X : Cx} {C : Addr} {f x : Str} {e : Expr} {te : TE} {p pos : Pos}
/-- what the written part says of an error's class when it is asked about -/
structure IsE (K : Frag) (C : Addr) : Prop where
  cl : (clsIn K C).isSome = true
  ga : findIn K (.ref C) "__getattribute__" = some (some (.builtin "BaseException.__getattribute__"))
  gg : findIn K (.ref C) "__getattr__" = some none
  exC : subIn K (.ref C) (.type "BaseException") = some true
  kls : findIn K (.ref C) "__class__" = some (some (.builtin "object.__class__"))
  get : specialIn K (.builtin "object.__class__") "__get__" = some (some (.builtin "getset_descriptor.__get__"))
  tk : takesIn K (.builtin "object.__class__") = some true
  obj : mroIn K C (.type "object") = some true
end
end EF

set_option maxHeartbeats 4000000
namespace Hn
open PySem PySem.Spec PyProof.Rows L2 EF
open PySem.W (Frag keepIn)
/-- the built-ins' names are not the module's -/
structure Bl (mg : Str → Option Value) : Prop where
  b_len : mg "len" = none
  b_int : mg "int" = none
  b_abs : mg "abs" = none
  b_sum : mg "sum" = none
  b_isinstance : mg "isinstance" = none
  b_all : mg "all" = none
  b_any : mg "any" = none
  b_range : mg "range" = none
  b_enumerate : mg "enumerate" = none
  b_zip : mg "zip" = none
  b_tuple : mg "tuple" = none
  b_list : mg "list" = none
  b_bool : mg "bool" = none
  b_sorted : mg "sorted" = none
  b_set : mg "set" = none
  b_ValueError : mg "ValueError" = none
/-- a def of the text -/
def Dfn (K : Frag) (mg : Str → Option Value) (x : Str) (st : Stmt) (ps : List Str) : Prop := ∃ f fd, Fun K x x st f fd ∧ Binds K fd ps [] ∧ mg x = some (.ref f)
/-- a def that keeps a promise and lets no error out -/
def Kept (P : Program) (w : World) (K : Frag) (mg : Str → Option Value) (base : Heap) (k : Nat) (x : Str) (ps : List Str) (sp : Sp) : Prop :=
  ∃ f fd, mg x = some (.ref f) ∧ keepIn K (.ref f) = true ∧ Binds K fd ps [] ∧ FnOk P w K mg base CX0 k f fd ps sp
section
variable {P : Program} {w : World} {K : Frag} {mg : Str → Option Value} {base : Heap}
theorem Kept.mono {j k : Nat} {x : Str} {ps : List Str} {sp : Sp} (G : Kept P w K mg base j x ps sp) (h : j ≤ k) : Kept P w K mg base k x ps sp := by
  obtain ⟨f, fd, a, b, c, d⟩ := G
  exact ⟨f, fd, a, b, c, d.mono h⟩
theorem Dfn.kept {x : Str} {st : Stmt} {N ps : List Str} {k : Nat} {sp : Sp} (D : Dfn K mg x st ps) (S : FnScope N ps (defScope st)) (len : ∀ vs H Q E, sp vs H Q E → vs.length = ps.length)
    (hbody : ∀ (f : Addr) (cdv : Value) (A : Around) (outer : List Env) (s : Shared) (H : Hp) (vs : List V) (Q : VK) (E : XK), Room k (A.deeper (envOfC x (defScope st) s.heap.objs.size f cdv)) → sp vs H Q E →
      ∃ t, PSs (cxOf CX0 P w K mg base N x (defScope st) f cdv A outer s H E).nox (defBody st) t ∧ t { nx := fun _ H' => Q .non H', rt := Q } (start N vs) H) :
    Kept P w K mg base (k + 1) x ps sp := by
  obtain ⟨f, fd, F, b, g⟩ := D
  exact ⟨f, fd, g, F.kp, b, F.ok S len fun cdv A outer s H vs Q E hr h => hbody f cdv A outer s H vs Q E hr h⟩
end
section
variable {X : Cx} {k : Nat} {x : Str} {ps : List Str} {sp : Sp} {e : Expr} {es : List Expr} {t : TA} {p pos : Pos}
end
/-! ### the drawing bag -/
/-- at b the bag, at g its list of great numbers -/
def BagAt (H : Hp) (b g : Addr) : Prop := b ≠ g ∧ ∃ (s c : Int) (gs : List Int) (al : V), H b = some (.lst [.int s, .int c, .ref g, al]) ∧ H g = some (.lst (gs.map V.int)) ∧ gs.length ≤ 63 ∧ (al = .non ∨ ∃ i, al = .int i)
/-- all that stood stands, but the bag's two lists -/
def But (b g : Addr) (H H' : Hp) : Prop := ∀ a o, a ≠ b → a ≠ g → H a = some o → H' a = some o
theorem But.refl {b g : Addr} {H : Hp} : But b g H H := fun _ _ _ _ e => e
theorem But.trans {b g : Addr} {H H1 H2 : Hp} (x : But b g H H1) (y : But b g H1 H2) : But b g H H2 := fun a o h1 h2 e => y a o h1 h2 (x a o h1 h2 e)
theorem But.of {b g : Addr} {H H' : Hp} (x : Same H H') : But b g H H' := fun a o _ _ e => x a o e
theorem BagAt.same {H H' : Hp} {b g : Addr} (h : BagAt H b g) (e : Same H H') : BagAt H' b g := by
  obtain ⟨n, s, c, gs, al, h1, h2, r⟩ := h
  exact ⟨n, s, c, gs, al, e _ _ h1, e _ _ h2, r⟩
/-- an object of another kind, or a new one, is none of the bag's lists -/
theorem BagAt.ne {H : Hp} {b g a : Addr} (h : BagAt H b g) (n : H a = none) : a ≠ b ∧ a ≠ g := by
  obtain ⟨_, s, c, gs, al, h1, h2, _⟩ := h
  constructor
  · intro z
    rw [z, h1] at n
    cases n
  · intro z
    rw [z, h2] at n
    cases n
/-! ### data of a bounded depth; its lists stand where N lets them -/
inductive Good (N : Addr → Prop) (H : Hp) : Nat → V → Prop
  | non (n : Nat) : Good N H n .non
  | bl (n : Nat) (b : Bool) : Good N H n (.bl b)
  | int (n : Nat) (i : Int) : Good N H n (.int i)
  | str (n : Nat) (x : Str) : Good N H n (.str x)
  | dic (n : Nat) {a : Addr} {kvs : List (Key × V)} (e : H a = some (.dK kvs)) (nd : (kvs.map (·.1)).Nodup) (fl : ∀ p ∈ kvs, flatB p.2 = true) : Good N H n (.ref a)
  | tup {n : Nat} {a : Addr} {xs : List V} (e : H a = some (.tup xs)) (h : ∀ x ∈ xs, Good N H n x) (l : xs.length ≤ 100) : Good N H (n + 1) (.ref a)
  | lst {n : Nat} {a : Addr} {xs : List V} (e : H a = some (.lst xs)) (h : ∀ x ∈ xs, Good N H n x) (l : xs.length ≤ 100) (na : N a) : Good N H (n + 1) (.ref a)
/-- it stays where what it stands on stays -/
theorem Good.keep {N M : Addr → Prop} {H H' : Hp} (hd : ∀ a kvs, H a = some (.dK kvs) → H' a = some (.dK kvs)) (ht : ∀ a xs, H a = some (.tup xs) → H' a = some (.tup xs)) (hl : ∀ a xs, N a → H a = some (.lst xs) → M a ∧ H' a = some (.lst xs)) :
    ∀ {n : Nat} {x : V}, Good N H n x → Good M H' n x := by
  intro n x g
  induction g with
  | non n => exact .non n
  | bl n b => exact .bl n b
  | int n i => exact .int n i
  | str n x => exact .str n x
  | dic n e nd fl => exact .dic n (hd _ _ e) nd fl
  | tup e h l ih => exact .tup (ht _ _ e) ih l
  | lst e h l na ih => exact .lst (hl _ _ na e).2 ih l (hl _ _ na e).1
theorem Good.same {N : Addr → Prop} {H H' : Hp} (s : Same H H') {n : Nat} {x : V} (g : Good N H n x) : Good N H' n x := g.keep (fun _ _ e => s _ _ e) (fun _ _ e => s _ _ e) fun _ _ na e => ⟨na, s _ _ e⟩
theorem Good.more {N : Addr → Prop} {H : Hp} : ∀ {n m : Nat} {x : V}, Good N H n x → n ≤ m → Good N H m x := by
  intro n m x g
  induction g generalizing m with
  | non n => exact fun _ => .non m
  | bl n b => exact fun _ => .bl m b
  | int n i => exact fun _ => .int m i
  | str n x => exact fun _ => .str m x
  | dic n e nd fl => exact fun _ => .dic m e nd fl
  | tup e h l ih =>
    intro q
    obtain ⟨k, rfl⟩ : ∃ k, m = k + 1 := ⟨m - 1, by omega⟩
    exact .tup e (fun x hx => ih x hx (by omega)) l
  | lst e h l na ih =>
    intro q
    obtain ⟨k, rfl⟩ : ∃ k, m = k + 1 := ⟨m - 1, by omega⟩
    exact .lst e (fun x hx => ih x hx (by omega)) l na
theorem Good.kind {K : Frag} {N : Addr → Prop} {H : Hp} {m : Nat} {x : V} (g : Good N H m x) :
    (∃ T bb, TyX K H x (.type T) ∧ kitB T "tuple" = some false ∧ kitB T "list" = some false ∧ kitB T "bool" = some bb ∧
      (scal x x = true ∨ ∃ a kvs, x = .ref a ∧ H a = some (.dK kvs) ∧ (kvs.map (·.1)).Nodup ∧ ∀ p ∈ kvs, flatB p.2 = true)) ∨
    (∃ a xs n, x = .ref a ∧ m = n + 1 ∧ (∀ y ∈ xs, Good N H n y) ∧ xs.length ≤ 100 ∧ (H a = some (.tup xs) ∨ H a = some (.lst xs))) := by
  cases g with
  | non n => exact .inl ⟨_, false, .base .non, by decide +kernel, by decide +kernel, by decide +kernel, .inl rfl⟩
  | bl n b => exact .inl ⟨_, true, .base (.bl b), by decide +kernel, by decide +kernel, by decide +kernel, .inl rfl⟩
  | int n i => exact .inl ⟨_, false, .base (.int i), by decide +kernel, by decide +kernel, by decide +kernel, .inl rfl⟩
  | str n s => exact .inl ⟨_, false, .base (.str s), by decide +kernel, by decide +kernel, by decide +kernel, .inl rfl⟩
  | dic n e nd fl => exact .inl ⟨_, false, .base (.dK e), by decide +kernel, by decide +kernel, by decide +kernel, .inr ⟨_, _, rfl, e, nd, fl⟩⟩
  | tup e h l => exact .inr ⟨_, _, _, rfl, rfl, h, l, .inl e⟩
  | lst e h l na => exact .inr ⟨_, _, _, rfl, rfl, h, l, .inr e⟩
theorem _root_.L2.Same.seqT {K : Frag} {H H' : Hp} {a : Addr} {xs : List V} (e : Same H H') (h : SqT K H a xs) : SqT K H' a xs := by
  rcases h with (h | ⟨o, h⟩) | h
  · exact .inl (.inl (e _ _ h))
  · exact .inl (.inr ⟨o, e _ _ h⟩)
  · exact .inr h
/-- an error class without a field; one with the field f -/
structure Er0 (K : Frag) (mg : Str → Option Value) (x : Str) (C : Addr) : Prop where
  g : mg x = some (.ref C)
  e : PySem.W.excIn K C PySem.HandSPX.veTail "ValueError.__new__" = true
  k : keepIn K (.ref C) = true
structure Er1 (P : Program) (K : Frag) (mg : Str → Option Value) (x f : Str) (C : Addr) : Prop where
  g : mg x = some (.ref C)
  e : ErrC P K mg C f
theorem BagAt.off {H : Hp} {b g a : Addr} {o : HO} (h : BagAt H b g) (e : H a = some o) (n : ∀ xs, o ≠ .lst xs) : a ≠ b ∧ a ≠ g := by
  obtain ⟨_, s, c, gs, al, h1, h2, _⟩ := h
  constructor
  · intro z
    rw [z, h1] at e
    exact n _ (Option.some.inj e).symm
  · intro z
    rw [z, h2] at e
    exact n _ (Option.some.inj e).symm
theorem But.keep {b g a : Addr} {H H' : Hp} {o : HO} (t : But b g H H') (h : BagAt H b g) (e : H a = some o) (n : ∀ xs, o ≠ .lst xs) : H' a = some o := t a o (h.off e n).1 (h.off e n).2 e
theorem ErrAt.but {b g a C : Addr} {H H' : Hp} {fs : List (Str × V)} (h : ErrAt H a C fs) (hb : BagAt H b g) (t : But b g H H') : ErrAt H' a C fs := by
  rcases h with ⟨d, h1, h2⟩ | ⟨h0, h1⟩
  · exact .inl ⟨d, t.keep hb h1 (fun xs z => nomatch (z : HO.ext _ = HO.lst xs)), t.keep hb h2 (fun xs z => nomatch (z : HO.ext _ = HO.lst xs))⟩
  · exact .inr ⟨h0, t.keep hb h1 (fun xs z => nomatch (z : HO.ext _ = HO.lst xs))⟩
theorem Good.but {N : Addr → Prop} {b g : Addr} {H H' : Hp} {n : Nat} {x : V} (h : Good N H n x) (hb : BagAt H b g) (t : But b g H H') (hN : ∀ a, N a → a ≠ b ∧ a ≠ g) : Good N H' n x :=
  h.keep (fun _ _ e => t.keep hb e (fun _ z => nomatch z)) (fun _ _ e => t.keep hb e (fun _ z => nomatch z)) fun a _ na e => ⟨na, t _ _ (hN a na).1 (hN a na).2 e⟩
theorem at0 {α : Type} {x : α} {xs : List α} : atI (x :: xs) 0 = some x := atI_nat (j := 0) rfl
theorem same_new {H : Hp} {p : Addr} {o : HO} (h : H p = none) : Same H (upd H p o) := fun b x e => by
  rw [upd_ne (ne_of_none e h)]
  exact e
theorem same_mut {H H' : Hp} {p : Addr} {o : HO} (e : Same H H') (h : H p = none) : Same H (upd H' p o) := fun b x q => by
  rw [upd_ne (ne_of_none q h)]
  exact e b x q
theorem int_at {ns : List Int} {i : Nat} {x : V} (h : (ns.map V.int)[i]? = some x) : ∃ n, x = .int n ∧ i < ns.length := by
  rw [List.getElem?_map] at h
  cases e : ns[i]? with
  | none =>
    rw [e] at h
    cases h
  | some n =>
    rw [e] at h
    have hi : i < ns.length := by
      cases Nat.lt_or_ge i ns.length with
      | inl z => exact z
      | inr z =>
        rw [List.getElem?_eq_none_iff.mpr z] at e
        cases e
    exact ⟨n, (Option.some.inj h).symm, hi⟩
end Hn

set_option maxHeartbeats 4000000
/-! data of any kind on the heap, read and never changed -/
namespace Hn
open PySem PySem.Spec PyProof.Rows L2 EF
open PySem.W (Frag keepIn)
mutual
/-- x is the datum d; its lists stand where N lets them; a dict is a dict, whatever it holds -/
def Rep (N : Addr → Prop) (H : Hp) : PyData → V → Prop
  | .none, x => x = .non
  | .bool b, x => x = .bl b
  | .int i, x => x = .int i
  | .str s, x => x = .str s
  | .list ds, x => ∃ a xs, x = .ref a ∧ N a ∧ H a = some (.lst xs) ∧ RepL N H ds xs
  | .tuple ds, x => ∃ a xs, x = .ref a ∧ H a = some (.tup xs) ∧ RepL N H ds xs
  | .dict _, x => ∃ a kvs, x = .ref a ∧ H a = some (.dK kvs)
def RepL (N : Addr → Prop) (H : Hp) : List PyData → List V → Prop
  | [], xs => xs = []
  | d :: ds, xs => ∃ x r, xs = x :: r ∧ Rep N H d x ∧ RepL N H ds r
end
section
variable {N M : Addr → Prop} {H H' : Hp}
mutual
theorem Rep.keep (hd : ∀ a kvs, H a = some (.dK kvs) → H' a = some (.dK kvs)) (ht : ∀ a xs, H a = some (.tup xs) → H' a = some (.tup xs)) (hl : ∀ a xs, N a → H a = some (.lst xs) → M a ∧ H' a = some (.lst xs)) :
    ∀ {d : PyData} {x : V}, Rep N H d x → Rep M H' d x
  | .none, _, h => h
  | .bool _, _, h => h
  | .int _, _, h => h
  | .str _, _, h => h
  | .list ds, _, h => by
    obtain ⟨a, xs, rfl, na, e, r⟩ := h
    exact ⟨a, xs, rfl, (hl a xs na e).1, (hl a xs na e).2, RepL.keep hd ht hl r⟩
  | .tuple ds, _, h => by
    obtain ⟨a, xs, rfl, e, r⟩ := h
    exact ⟨a, xs, rfl, ht a xs e, RepL.keep hd ht hl r⟩
  | .dict _, _, h => by
    obtain ⟨a, kvs, rfl, e⟩ := h
    exact ⟨a, kvs, rfl, hd a kvs e⟩
theorem RepL.keep (hd : ∀ a kvs, H a = some (.dK kvs) → H' a = some (.dK kvs)) (ht : ∀ a xs, H a = some (.tup xs) → H' a = some (.tup xs)) (hl : ∀ a xs, N a → H a = some (.lst xs) → M a ∧ H' a = some (.lst xs)) :
    ∀ {ds : List PyData} {xs : List V}, RepL N H ds xs → RepL M H' ds xs
  | [], _, h => h
  | d :: ds, _, h => by
    obtain ⟨x, r, rfl, h1, h2⟩ := h
    exact ⟨x, r, rfl, Rep.keep hd ht hl h1, RepL.keep hd ht hl h2⟩
end
theorem Rep.same (s : Same H H') {d : PyData} {x : V} (h : Rep N H d x) : Rep N H' d x := h.keep (fun _ _ e => s _ _ e) (fun _ _ e => s _ _ e) fun _ _ na e => ⟨na, s _ _ e⟩
theorem RepL.same (s : Same H H') {ds : List PyData} {xs : List V} (h : RepL N H ds xs) : RepL N H' ds xs := h.keep (fun _ _ e => s _ _ e) (fun _ _ e => s _ _ e) fun _ _ na e => ⟨na, s _ _ e⟩
theorem RepL.length : ∀ {ds : List PyData} {xs : List V}, RepL N H ds xs → xs.length = ds.length
  | [], _, h => by rw [show _ = [] from h]; rfl
  | d :: ds, _, h => by
    obtain ⟨x, r, rfl, _, h2⟩ := h
    rw [List.length_cons, List.length_cons, RepL.length h2]
theorem RepL.get {x : V} : ∀ {ds : List PyData} {xs : List V} {i : Nat}, RepL N H ds xs → xs[i]? = some x → ∃ d, ds[i]? = some d ∧ Rep N H d x
  | [], _, i, h, e => by
    rw [show _ = [] from h] at e
    cases e
  | d :: ds, _, 0, h, e => by
    obtain ⟨y, r, rfl, h1, _⟩ := h
    cases e
    exact ⟨d, rfl, h1⟩
  | d :: ds, _, i + 1, h, e => by
    obtain ⟨y, r, rfl, _, h2⟩ := h
    exact RepL.get (ds := ds) (i := i) h2 e
theorem RepL.at {d : PyData} : ∀ {ds : List PyData} {xs : List V} {i : Nat}, RepL N H ds xs → ds[i]? = some d → ∃ x, xs[i]? = some x ∧ Rep N H d x
  | [], _, i, h, e => by cases e
  | d' :: ds, _, 0, h, e => by
    obtain ⟨y, r, rfl, h1, _⟩ := h
    cases e
    exact ⟨y, rfl, h1⟩
  | d' :: ds, _, i + 1, h, e => by
    obtain ⟨y, r, rfl, _, h2⟩ := h
    exact RepL.at (ds := ds) (i := i) h2 e
theorem RepL.of : ∀ {ds : List PyData} {xs : List V}, xs.length = ds.length → (∀ (i : Nat) (d : PyData) (x : V), ds[i]? = some d → xs[i]? = some x → Rep N H d x) → RepL N H ds xs
  | [], [], _, _ => rfl
  | d :: ds, x :: xs, l, h => ⟨x, xs, rfl, h 0 d x rfl rfl, RepL.of (by simpa using l) fun i d' x' e1 e2 => h (i + 1) d' x' e1 e2⟩
theorem RepL.app : ∀ {ds es : List PyData} {xs ys : List V}, RepL N H ds xs → RepL N H es ys → RepL N H (ds ++ es) (xs ++ ys)
  | [], _, _, _, h, k => by rw [show _ = [] from h]; exact k
  | d :: ds, _, _, _, h, k => by
    obtain ⟨x, r, rfl, h1, h2⟩ := h
    exact ⟨x, r ++ _, rfl, h1, RepL.app h2 k⟩
theorem RepL.take (n : Nat) {ds : List PyData} {xs : List V} (h : RepL N H ds xs) : RepL N H (ds.take n) (xs.take n) :=
  .of (by rw [List.length_take, List.length_take, h.length]) fun i d x e1 e2 => by
    rw [List.getElem?_take] at e1 e2
    split at e1
    · rename_i hi
      rw [if_pos hi] at e2
      obtain ⟨d', e', r⟩ := h.get e2
      rw [e1] at e'
      cases e'
      exact r
    · cases e1
theorem RepL.drop (n : Nat) {ds : List PyData} {xs : List V} (h : RepL N H ds xs) : RepL N H (ds.drop n) (xs.drop n) :=
  .of (by rw [List.length_drop, List.length_drop, h.length]) fun i d x e1 e2 => by
    rw [List.getElem?_drop] at e1 e2
    obtain ⟨d', e', r⟩ := h.get e2
    rw [e1] at e'
    cases e'
    exact r
/-- a list of ints is a list of ints -/
theorem RepL.ints : ∀ {ns : List Int} {xs : List V}, RepL N H (ns.map PyData.int) xs → xs = ns.map V.int
  | [], _, h => h
  | n :: ns, _, h => by
    obtain ⟨x, r, rfl, h1, h2⟩ := h
    rw [show x = V.int n from h1, RepL.ints h2]
    rfl
theorem RepL.ofInts : ∀ (ns : List Int), RepL N H (ns.map PyData.int) (ns.map V.int)
  | [] => rfl
  | n :: ns => ⟨_, _, rfl, rfl, RepL.ofInts ns⟩
end
/-! ### what kind a datum is -/
def tyN : PyData → String
  | .none => "NoneType"
  | .bool _ => "bool"
  | .int _ => "int"
  | .str _ => "str"
  | .list _ => "list"
  | .tuple _ => "tuple"
  | .dict _ => "dict"
theorem Rep.ty {K : Frag} {N : Addr → Prop} {H : Hp} : ∀ {d : PyData} {x : V}, Rep N H d x → TyX K H x (.type (tyN d))
  | .none, _, h => by rw [show _ = V.non from h]; exact .base .non
  | .bool b, _, h => by rw [show _ = V.bl b from h]; exact .base (.bl b)
  | .int i, _, h => by rw [show _ = V.int i from h]; exact .base (.int i)
  | .str s, _, h => by rw [show _ = V.str s from h]; exact .base (.str s)
  | .list ds, _, h => by
    obtain ⟨a, xs, rfl, _, e, _⟩ := h
    exact .base (.lst e)
  | .tuple ds, _, h => by
    obtain ⟨a, xs, rfl, e, _⟩ := h
    exact .base (.tup e)
  | .dict _, _, h => by
    obtain ⟨a, kvs, rfl, e⟩ := h
    exact .base (.dK e)
/-! ### webs -/
def intOf : PyData → Int
  | .int i => i
  | _ => 0
end Hn

set_option maxHeartbeats 4000000
/-! the library's rules with the written part by its own name: within a comprehension the reading must not speak of the block -/
namespace Hn
open PySem PySem.Spec PyProof.Rows L2 EF
open PySem.W (Frag keepIn)
section
variable {X : Cx} {K : Frag} {tg e e2 : Expr} {tl : TE} {ta t : TA} {p pos tpos : Pos} {elts : List Expr} {kk : Nat}
theorem isiK (h : X.K = K) : CallR X (.builtin "isinstance") (rIsi K) := by subst h; exact call_isi
theorem allK (h : X.K = K) (hc : X.calm = true) : CallR X (.builtin "all") (rAll K) := by subst h; exact cr_all hc
/-- len of a list, of a tuple -/
def rLen (K : Frag) : List V → Hp → VK → Prop := fun xs H Q => ∃ p ys, xs = [.ref p] ∧ (SqL K H p ys ∨ SqT K H p ys) ∧ Q (.int ys.length) H
theorem lenK (h : X.K = K) : CallR X (.builtin "len") (rLen K) := by subst h; exact call_len_seq
/-- list(x) of a list, of a tuple -/
def rListOf (K : Frag) : List V → Hp → VK → Prop := fun xs H Q => ∃ p ys, xs = [.ref p] ∧ (SqL K H p ys ∨ SqT K H p ys) ∧ ∀ l, H l = none → Q (.ref l) (upd H l (.lst ys))
theorem listK (h : X.K = K) : CallR X (.type "list") (rListOf K) := by subst h; exact call_list_of
/-- tuple(x) -/
def rTupOf (K : Frag) : List V → Hp → VK → Prop := fun xs H Q => ∃ p ys, xs = [.ref p] ∧ ((SqL K H p ys ∧ ∀ l, H l = none → Q (.ref l) (upd H l (.tup ys))) ∨ (SqT K H p ys ∧ Q (.ref p) H))
theorem tupleK (h : X.K = K) : CallR X (.type "tuple") (rTupOf K) := by subst h; exact call_tuple_of
theorem pi_listK (h : X.K = K) (hl : PE X e tl) : PI X tg e (iList K tl) := by subst h; exact pi_list hl
theorem pi_tupK (h : X.K = K) (hl : PE X e tl) : PI X tg e (iTup K tl) := by subst h; exact pi_tup hl
theorem pi_enumK (h : X.K = K) (hg : Gl X "enumerate") (hm : X.mg "enumerate" = none) (ha : PA X [e] ta) (hs : starEach [e] X.env = [(false, eval e X.env)] := by rfl) :
    PI X (.Tuple elts kk tpos) (.Call (.Name "enumerate" p) [e] [] pos) (iEnum K ta) := by subst h; exact pi_enum hg hm ha hs
end
end Hn

set_option maxHeartbeats 4000000
/-! set comprehensions whose elements are of any kind, given how one is put in -/
namespace Hn
open PySem PySem.Spec PyProof.Rows L2 EF
open PySem.W (Frag keepIn)
/-- an empty set, as Python makes it -/
def noneSet (w : World) : Obj := { cls := Value.type "set", data := Data.set #[] 0 (SetTable.fresh 0 0 !w.params.followText "set-order") }
/-- how a kind of sets stands on the heap: fresh D is the empty one, add D y H N says that y can be put into D's, and N holds then -/
structure SetWord (X : Cx) (fresh : Addr → HO) (add : Addr → V → Hp → (Hp → Prop) → Prop) : Prop where
  new : ∀ (H : Hp) (h : Heap) (a : Addr), h.get? a = some (noneSet X.w) → ObjOk X.prog X.w H h a (fresh a)
  put : ∀ (Y : Cx) (pins : List (Addr × Obj)) (σ : L2.St) (H : Hp) (s : Shared) (E : Value → Shared → Prop) (D : Addr) (y : V) (u : Value) (N : Hp → Prop) (Q : Value → Shared → Prop),
    Y.prog = X.prog → Y.w = X.w → Y.K = X.K → Y.A = X.A → Y.calm = X.calm → L2.Inv Y pins σ H s → L2.RelV y u → add D y H N → (∀ s' H', L2.Inv Y pins σ H' s' → N H' → Q .none s') →
    wpAny (model Y.prog Y.w) Y.A (call (.builtin "set.add") [.ref D, u]) Q E s
section
variable {X : Cx} {elt tg iter : Expr} {ifs : List Expr} {scope : Scope} {own : List (Str × Nat)} {pos : Pos} {wi : TI} {g : TG} {tt : TT} {te : TE} {fresh : Addr → HO} {add : Addr → V → Hp → (Hp → Prop) → Prop}
end
end Hn

set_option maxHeartbeats 4000000
/-! sets of tuples of ints: made by a comprehension, sorted whatever the lengths -/
namespace Hn
open PySem PySem.Spec PyProof.Rows L2 EF
open PySem.W (Frag keepIn)
end Hn

set_option maxHeartbeats 4000000
/-! sorted(s) of a set of tuples of ints of any lengths -/
namespace Hn
open PySem PySem.Spec PyProof.Rows L2 EF
open PySem.W (Frag keepIn)
/-- the datum of a tuple of ints -/
def encT (p : Addr × List Int) : PyData := .tuple (p.2.map .int)
/-- q does not stand behind r -/
def notAfter (q r : Addr × List Int) : Prop := ¬ r.2 < q.2
theorem refs_pick {L : List (Addr × List Int)} : ∀ {vs : List Value}, (∀ v ∈ vs, ∃ q ∈ L, v = Value.ref q.1) → ∃ L1 : List (Addr × List Int), vs = L1.map (fun q => Value.ref q.1) ∧ ∀ q ∈ L1, q ∈ L
  | [], _ => ⟨[], rfl, fun _ h => nomatch h⟩
  | v :: vs, h => by
    obtain ⟨q, hq, rfl⟩ := h v List.mem_cons_self
    obtain ⟨L1, rfl, h1⟩ := refs_pick (vs := vs) fun u hu => h u (List.mem_cons_of_mem _ hu)
    exact ⟨q :: L1, rfl, fun r hr => (List.mem_cons.mp hr).elim (fun e => e ▸ hq) (h1 r)⟩
theorem each_refs : ∀ (L : List (Addr × List Int)), W.EachIs (fun v p => v = Value.ref p.1) (L.map fun q => Value.ref q.1) L
  | [] => .nil
  | q :: L => .cons rfl (each_refs L)
theorem of_each : ∀ {vs : List Value} {L : List (Addr × List Int)}, W.EachIs (fun v p => v = Value.ref p.1) vs L → vs = L.map fun q => Value.ref q.1
  | _, _, .nil => rfl
  | _, _, .cons h t => by rw [h, of_each t]; rfl
theorem reads_ints {h : Heap} : ∀ {ks : List Int} {vs : List Value}, IntsAre vs ks → ReadsAll h vs (ks.map .int) []
  | _, _, .nil => .nil
  | _, _, .cons n t r => .cons (.int n t) (reads_ints r)
/-- what holds of each holds of all -/
theorem each_mem {R : Value → Addr × List Int → Prop} : ∀ {L : List (Addr × List Int)}, (∀ q ∈ L, R (.ref q.1) q) → W.EachIs R (L.map fun q => Value.ref q.1) L
  | [], _ => .nil
  | q :: L, h => .cons (h q List.mem_cons_self) (each_mem fun r hr => h r (List.mem_cons_of_mem _ hr))
theorem lt_enc (p q : Addr × List Int) : W.dataLt (encT p) (encT q) = decide (p.2 < q.2) := by
  rw [encT, encT, W.dataLt_tuple]
  exact W.dataLt_ints p.2 q.2
theorem le_enc (p q : Addr × List Int) : W.dataLe false encT p q = !decide (q.2 < p.2) := by
  rw [← lt_enc]
  rfl
theorem reads_tup {P : Program} {w : World} {h : Heap} {q : Addr × List Int} (t : L2.IsT P w h q.2 q.1) : Reads h (.ref q.1) (encT q) [] := by
  obtain ⟨o, items, n, ho, ec, ed, i⟩ := t
  exact .tuple ho ec ed (reads_ints (ints_of_items i))
theorem sortedS {P : Program} {w : World} {A : Around} {E : Value → Shared → Prop} {s : Shared} {a : Addr} {L : List (Addr × List Int)} {es : Array (Int × Value)} {ep : Nat} {t : SetTable} {Q : Value → Shared → Prop}
    (R : SetTR P w s.heap a L es ep t) (hh : A.handled = none) (hu : A.units + 10 < cLine) (ne : ∀ p ∈ L, p.2 ≠ [])
    (hQ : ∀ (s' : Shared) (p : Addr) (out : Array Value) (c : Nat) (L' : List (Addr × List Int)), (∀ b o, s.heap.get? b = some o → s'.heap.get? b = some o) → s'.gens = s.gens → s'.os = s.os → s.heap.objs.size ≤ p →
      s'.heap.get? p = some (seqObj "list" out c) → out.toList = L'.map (fun q => Value.ref q.1) → L'.Perm L → L'.Pairwise notAfter → Q (.ref p) s') :
    wpAny (model P w) A (call (.builtin "sorted") [.ref a]) Q E s := by
  obtain ⟨o, ho, hex, hd⟩ := R.ob
  have hsz := R.size
  have few := R.few
  refine Calls.call_function_entry kind_sorted plain_sorted entry_sorted (args_sorted1 _) ?_
  refine wpAny_bind (wpAny_pure (wpAny_bind ?_))
  refine collect_set hh ⟨o, ho, hex.1, hd⟩ R.fits (by rw [show scanBound = 4096 from rfl]; omega) R.tab.ris R.led fun s1 vs k1 hz g1 o1 pm => ?_
  have hes : es.toList.map (·.2) = L.map (fun q => Value.ref q.1) := by
    rw [R.rows]
    simp [rowsOf, List.map_map]
  rw [hes] at pm
  obtain ⟨L1, rfl, h1⟩ := refs_pick (L := L) fun v hv => by
    obtain ⟨q, hq, e⟩ := List.mem_map.mp (pm.mem_iff.mp hv)
    exact ⟨q, hq, e.symm⟩
  have one : ∀ q ∈ L, ∀ r ∈ L, q.1 = r.1 → q = r := fun q hq r hr e => by
    have z := R.tup q hq
    rw [e] at z
    exact Prod.ext e (IsTupleKey.inj z (R.tup r hr))
  have nL := nodup_of_map R.nd
  have p1 : L1.Perm L := by
    have nref : (L.map fun q => Value.ref q.1).Nodup := List.pairwise_map.mpr (nL.imp_of_mem fun hq hr n e => n (one _ hq _ hr (Value.ref.inj e)))
    have n1 : L1.Nodup := nodup_of_map (pm.nodup_iff.mpr nref)
    refine (List.perm_ext_iff_of_nodup n1 nL).mpr fun q => ⟨h1 q, fun hq => ?_⟩
    obtain ⟨r, hr, e⟩ := List.mem_map.mp (pm.mem_iff.mpr (List.mem_map.mpr ⟨q, hq, rfl⟩))
    rw [one q hq r (h1 r hr) (Value.ref.inj e).symm]
    exact hr
  have len1 : L1.length < 64 := by rw [p1.length_eq]; exact few
  refine wpAny_bind (wpAny_newList ?_ (by rw [List.length_map, sizeLine_eq]; omega))
  have hoL : (s1.heap.push (seqObj "list" (L1.map fun q => Value.ref q.1).toArray 0)).get? s1.heap.objs.size = some (seqObj "list" (L1.map fun q => Value.ref q.1).toArray 0) := Heap.get?_push_size _ rfl
  have rd : ∀ q ∈ L, Reads (s1.heap.push (seqObj "list" (L1.map fun q => Value.ref q.1).toArray 0)) (.ref q.1) (encT q) [] := fun q hq => reads_tup (isT_keep (R.tup q hq) fun b u e => Heap.get?_push_of_some _ (k1 b u e))
  refine wpAny_bind (wpAny_holding (W.list_sort_data (bs := L1) (enc := encT) (R := fun v p => v = Value.ref p.1) hoL (each_refs L1) (each_mem fun q hq => ⟨[], rd q (h1 q hq), fun n => nomatch n⟩) ?_ (.inl ?_) (by rw [sizeLine_eq]; omega) ?_ ?_))
  · intro d hd d' hd'
    obtain ⟨p, _, rfl⟩ := List.mem_map.mp hd
    obtain ⟨q, _, rfl⟩ := List.mem_map.mp hd'
    exact W.alike_ints p.2 q.2
  · intro d hd
    obtain ⟨p, hp, rfl⟩ := List.mem_map.mp hd
    have z := ne p (h1 p hp)
    cases e : p.2 with
    | nil => exact absurd e z
    | cons x r => exact ⟨.int x, r.map .int, by rw [encT, e]; rfl⟩
  · intro p hp
    have z : (encT p).depth = 1 := by
      rw [encT]
      show PyData.depthAll (p.2.map PyData.int) + 1 = 1
      rw [W.depth_ints]
    rw [z]
    show A.units + 1 + 1 + 1 < cLine
    omega
  · intro out hl hE
    obtain ⟨c, hc⟩ := sortedHeap_at (out := out.toArray) hoL
    have e' := of_each hE
    refine wpAny_pure ⟨_, rfl, hQ _ s1.heap.objs.size out.toArray c (L1.mergeSort (W.dataLe false encT)) (fun b u e => ?_) g1 o1 hz hc e' ((List.mergeSort_perm _ _).trans p1) ?_⟩
    · have q := k1 b u e
      have hlt := Heap.lt_size q
      show (sortedHeap _ _ _ _).get? b = some u
      rw [sortedHeap_old (Nat.ne_of_lt hlt) (by rw [size_push']; exact Nat.lt_succ_of_lt hlt)]
      exact Heap.get?_push_of_some _ q
    · refine (W.sort_pairwise (W.sortLe_total _ _ _) L1).imp ?_
      intro p q h
      have z := le_enc p q
      rw [show W.dataLe false encT p q = true from h] at z
      intro lt
      rw [decide_eq_true lt] at z
      cases z
/-- sorted(s), s a set of tuples of ints, none of them empty -/
def rSortS (K : Frag) (P : Program) (w : World) : List V → Hp → VK → Prop := fun vs H Q => ∃ (a : Addr) (L : List (Addr × List Int)), vs = [.ref a] ∧ H a = some (SetTO P w a L) ∧ (∀ p ∈ L, SqT K H p.1 (p.2.map V.int)) ∧ (∀ p ∈ L, p.2 ≠ []) ∧
  ∀ (L' : List (Addr × List Int)) (p : Addr), L'.Perm L → (L'.map (·.2)).Nodup → L'.length < 64 → L'.Pairwise notAfter → H p = none → Q (.ref p) (upd H p (.lst (L'.map fun q => V.ref q.1)))
theorem sortSK {X : Cx} {K : Frag} {P : Program} {w : World} (e1 : X.K = K) (e2 : X.prog = P) (e3 : X.w = w) (hc : X.calm = true) (hu : X.A.units + 10 < cLine) : CallR X (.builtin "sorted") (rSortS K P w) := by
  subst e1 e2 e3
  rintro pins s σ H vs us Q I r ⟨a, L, rfl, ha, hk, ne, q⟩
  obtain ⟨es, ep, t, R⟩ := (I.hok a _ ha).1.full fun p hp => I.isT (hk p hp)
  rw [Vals.ref1 r]
  refine sortedS R (I.ok.hd hc) hu ne fun s' p out c L' k g o hp hg hout pm pw => ?_
  have few : L'.length < 64 := by rw [pm.length_eq]; exact R.few
  have hn := HOk.fresh I.hok hp
  have ok : ObjOk X.prog X.w (upd H p (.lst (L'.map fun q => V.ref q.1))) s'.heap p (.lst (L'.map fun q => V.ref q.1)) := by
    refine ⟨by rw [List.length_map, sizeLine_eq]; omega, out.toList, c, ?_, hg⟩
    rw [hout]
    exact vals_of_refs L'
  refine ⟨.ref p, upd H p (.lst (L'.map fun q => V.ref q.1)), ?_, rfl, q L' p pm ((pm.map (fun x => x.2)).nodup_iff.mpr R.nd) few pw hn⟩
  obtain ⟨h', g', d', t', o'⟩ := s'
  obtain rfl : g' = s.gens := g
  obtain rfl : o' = s.os := o
  exact I.call' (ch := []) rfl (Un.laid k hp hn) (HOk.laid I.hok k hp ok) I.bare (fun b z => absurd z List.not_mem_nil)
section
variable {fresh : Addr → HO} {add : Addr → V → Hp → (Hp → Prop) → Prop} {g : TG} {tt : TT} {te : TE} {ρ : L2.St} {vs : List Nat} {D : Addr} {R : Hp → Prop} {H0 : Hp}
end
end Hn

set_option maxHeartbeats 4000000
/-! sorted of a list of data of any kind -/
namespace Hn
open PySem PySem.Spec PyProof.Rows L2 EF
open PySem.W (Frag keepIn)
theorem each_vals {P : List (V × PyData)} : ∀ {vs : List Value}, Vals (P.map (·.1)) vs → W.EachIs (fun v p => RelV p.1 v) vs P := by
  induction P with
  | nil =>
    intro vs h
    cases h
    exact .nil
  | cons p P ih =>
    intro vs h
    cases h with
    | cons r t => exact .cons r (ih t)
theorem vals_each {P : List (V × PyData)} : ∀ {vs : List Value}, W.EachIs (fun v p => RelV p.1 v) vs P → Vals (P.map (·.1)) vs := by
  induction P with
  | nil =>
    intro vs h
    cases h
    exact .nil
  | cons p P ih =>
    intro vs h
    cases h with
    | cons r t => exact .cons r (ih t)
end Hn

set_option maxHeartbeats 4000000
/-! set(xs) of a list of ints -/
namespace Hn
open PySem PySem.Spec PyProof.Rows L2 EF
open PySem.W (Frag keepIn)
/-- an empty set, as it is made -/
abbrev bare (w : World) : Obj := { cls := .type "set", dict := none, data := .set #[] 0 (.fresh 0 0 (!w.params.followText "set-order")) }
section
variable {P : Program} {w : World} {A : Around}
theorem set_made {E : Value → Shared → Prop} {s : Shared} {x : Value} {R : Shared → Prop} {Q : Value → Shared → Prop}
    (run : codeAny (model P w) A.in1 (.call (.builtin "set.__init__") ⟨[.ref s.heap.objs.size, x], []⟩) (wants (fun r z => r = .none ∧ R z) E) { s with heap := s.heap.push (bare w) })
    (fin : ∀ z, R z → Q (.ref s.heap.objs.size) z) : wpAny (model P w) A (call (.type "set") [x]) Q E s := by
  have k := F.called_set
  obtain ⟨_, _, lin⟩ := k.mro
  have parts := And.intro k.made (And.intro k.sub (And.intro k.notType (And.intro k.canCreate (F.typeCall_set_1 x))))
  obtain ⟨p1, p2, p3, p4, p5⟩ := parts
  refine wpAny_call (codeAny_of_tree (wpAny_pure ⟨Code.quiet_builtin _ (by decide +kernel), codeAny_builtin F.entry_type_call ?_⟩))
  rw [Around.under_plain (weight_type_call_type "set" [x] []) rfl]
  repeat (any_goals first | wp_step | assumption)
  refine codeAny_mono (code_set_led1 x (E := E) (Q₁ := fun v z => v = .ref s.heap.objs.size ∧ z = { s with heap := s.heap.push (bare w) }) (And.intro rfl rfl)) ?_
  rintro (e | fl) z hz
  · exact hz
  rcases fl with _ | v | _ | _ <;> try exact hz.elim
  obtain ⟨ev, ez⟩ := hz
  rw [ev, ez]
  have at' : (s.heap.push (bare w)).get? s.heap.objs.size = some (bare w) := Heap.get?_push_size _ rfl
  have ty : Shared.TypeIs { s with heap := s.heap.push (bare w) } (.ref s.heap.objs.size) "set" := ⟨_, at', rfl⟩
  have i1 := k.init.lookup
  have i2 := k.init.bind (.ref s.heap.objs.size)
  repeat (any_goals first | wp_step | assumption)
  refine codeAny_mono run ?_
  rintro (e | fl) z2 hz2
  · exact hz2
  rcases fl with _ | v2 | _ | _ <;> try exact hz2.elim
  rw [hz2.1]
  repeat (any_goals first | wp_step | assumption)
  exact fin z2 hz2.2
/-- the walk through the list, into the bare set -/
theorem set_filled {E : Value → Shared → Prop} {s : Shared} {l : Addr} {items : Array Value} (ns : List Int) (hh : A.handled = none) (hl : s.heap.IsList l items) (hi : IntsAre items.toList ns) (hb : ns.length + 1 < scanBound) :
    codeAny (model P w) A (.call (.builtin "set.__init__") ⟨[.ref s.heap.objs.size, .ref l], []⟩) (wants (fun r z => r = .none ∧ ∃ h' tk c, z = { s with heap := h', toks := tk } ∧ SetR w h' s.heap.objs.size (fun j => decide (j ∈ ns)) c ∧ c ≤ ns.length ∧ ∀ b o, s.heap.get? b = some o → h'.get? b = some o) E) { s with heap := s.heap.push (bare w) } := by
  generalize eS : s.heap.objs.size = S at *
  generalize eh : s.heap.push (bare w) = h1 at *
  have atS : h1.get? S = some (bare w) := by
    rw [← eh, ← eS]
    exact Heap.get?_push_size _ rfl
  have keep : ∀ b o, s.heap.get? b = some o → h1.get? b = some o := fun b o e => by
    rw [← eh]
    exact Heap.get?_push_of_some _ e
  have z1 : h1.objs.size = S + 1 := by
    rw [← eh, ← eS]
    exact Heap.size_push ..
  have lt : ∀ b o, s.heap.get? b = some o → b < S := fun b o e => by
    rw [← eS]
    exact Heap.lt_size e
  have ty : Shared.TypeIs { s with heap := h1 } (.ref S) "set" := ⟨_, atS, rfl⟩
  have lenE : items.size = ns.length := by
    rw [← hi.length, Array.length_toList]
  obtain ⟨⟨_, ld, _, lsl⟩, lget, rfl, n, rfl⟩ := hl
  have lS := lt l _ lget
  have l1 := keep l _ lget
  have il : h1.IsList l items := ⟨_, l1, rfl, n, rfl⟩
  have s1 := F.sub_list_set
  have s2 := F.sub_list_frozenset
  have s3 : (Value.type "list" == Value.type "dict") = false := by decide
  refine codeAny_call_builtin F.called_set.init.plain F.entry_set_init (check_set_init_1 ty ?_)
  unfold Builtin.«set.__init__» noKeywords Builtin.Frozenset.updateFrom
  generalize eI : pyIter = iter
  wp_walk
  rw [← eI]
  refine wpAny_pyIter_list il (wpAny_bind (wpAny_runValue ?_))
  have h3 : A.in1.in1.handled = none := by simp [hh]
  have vals : ∀ (i : Nat) (v : Value), items[i]? = some v → ∃ k t, ns[i]? = some k ∧ v = .int k t := fun i v hv => by
    have hk : i < ns.length := lenE ▸ (Array.getElem?_eq_some_iff.mp hv).1
    obtain ⟨t, e⟩ := hi.int_at i v (Array.getElem?_toList.trans hv)
    have g := List.getElem?_eq_getElem hk
    refine ⟨_, t, g, e.trans ?_⟩
    rw [List.getD_eq_getElem?_getD, g]
    rfl
  have nS : S ≠ h1.objs.size := fun e => by
    rw [z1] at e
    exact Nat.ne_of_lt (Nat.lt_succ_self _) e
  have nl : l ≠ h1.objs.size := fun e => by
    rw [z1] at e
    exact Nat.ne_of_lt (Nat.lt_succ_of_lt lS) e
  have no : S ∉ [h1.objs.size, l] := fun m => by
    rcases List.mem_cons.mp m with e | m2
    · exact nS e
    · exact Nat.ne_of_gt lS (List.mem_singleton.mp m2)
  refine set_update_ints (Walks.list h3 h1.objs.size l nl items).toS S no ns lenE hb vals items.size 0 _ (Nat.sub_zero _) (Nat.zero_le _) ?walk ?new ?fin
  case walk => exact ⟨⟨_, Heap.get?_push_size _ rfl, rfl, rfl⟩, il.push _⟩
  case new => exact ⟨0, Nat.le_refl 0, setR_new_at (Heap.get?_push_of_some _ atS)⟩
  rintro ⟨h', _, _, tk, _⟩ c mv lc sr
  obtain ⟨g1, g2, g3⟩ := And.intro mv.gens (And.intro mv.drawn mv.os)
  dsimp only at g1 g2 g3
  rw [g1, g2, g3]
  refine wpAny_pure (wpAny_pure ⟨rfl, h', tk, c, rfl, sr, lenE ▸ lc, fun b o e => ?_⟩)
  have lb := lt b o e
  refine mv.heap b o (fun m => ?_) (Heap.get?_push_of_some _ (keep b o e))
  rcases List.mem_cons.mp m with e2 | m2
  · exact Nat.ne_of_lt lb e2
  · rw [List.mem_singleton.mp m2, z1] at lb
    exact Nat.lt_irrefl _ (Nat.lt_of_succ_lt lb)
end
/-- so many are there -/
theorem setR_card {w : World} {h : Heap} {a : Addr} {c : Nat} {ns : List Int} (R : SetR w h a (fun j => decide (j ∈ ns)) c) (K : List Int) (nd : K.Nodup) (e : ∀ k, k ∈ K ↔ k ∈ ns) : K.length = c := by
  obtain ⟨_, es, _, _, _, _, _, _, n2, m, _, _, l, _⟩ := R
  have pm : K.Perm (es.toList.map keyOf) := (List.perm_ext_iff_of_nodup nd n2).mpr fun k => (e k).trans (decide_eq_true_iff.symm.trans (m k))
  rw [pm.length_eq, List.length_map, Array.length_toList]
  exact l
def rSetLI (K : Frag) (w : World) : List V → Hp → VK → Prop := fun vs H Q => ∃ (l : Addr) (ns : List Int), vs = [.ref l] ∧ (SqL K H l (ns.map V.int) ∨ SqT K H l (ns.map V.int)) ∧ ns.length ≤ 1000 ∧
  ∀ (a : Addr) (c : Nat), H a = none → c ≤ ns.length → (∀ K : List Int, K.Nodup → (∀ k, k ∈ K ↔ k ∈ ns) → K.length = c) → Q (.ref a) (upd H a (SetO w a (fun j => decide (j ∈ ns)) c))
theorem cr_setLI {X : Cx} {K : Frag} {w : World} (e1 : X.K = K) (e2 : X.w = w) (hc : X.calm = true) : CallR X (.type "set") (rSetLI K w) := by
  subst e1 e2
  rintro pins s σ H vs us Q I r ⟨l, ns, rfl, hs, hn, q⟩
  rw [Vals.ref1 r]
  have nw : H s.heap.objs.size = none := HOk.fresh I.hok (Nat.le_refl _)
  have hb : ns.length + 1 < scanBound := by rw [show scanBound = 4096 from rfl]; omega
  have hd := I.ok.hd hc
  have fin : ∀ (h' : Heap) (tk c : Nat), SetR X.w h' s.heap.objs.size (fun j => decide (j ∈ ns)) c → c ≤ ns.length → (∀ b o, s.heap.get? b = some o → h'.get? b = some o) → EP X pins σ Q (.ref s.heap.objs.size) { s with heap := h', toks := tk } := fun h' tk c R hcn k =>
    ⟨.ref s.heap.objs.size, upd H s.heap.objs.size (SetO X.w s.heap.objs.size (fun j => decide (j ∈ ns)) c), I.laid (t' := tk) k (Nat.le_refl _) (setO_new R), rfl, q _ c nw hcn (setR_card R)⟩
  rcases hs with hs | hs
  · obtain ⟨its, rv, hl, _⟩ := I.list hs
    refine set_made (set_filled (items := its.toArray) ns (by simp [hd]) hl.isList (ints_of_vals rv) hb) ?_
    rintro z ⟨h', tk, c, rfl, R, hcn, k⟩
    exact fin h' tk c R hcn k
  · obtain ⟨its, rv, pt, _⟩ := I.tuple hs
    exact call_set_tupI ns hd (show s.heap.IsTuple l its.toArray from pt) (ints_of_vals rv) hb fin
end Hn

set_option maxHeartbeats 4000000
/-! set(t), t a tuple of tuples of ints -/
namespace Hn
open PySem PySem.Spec PyProof.Rows L2 EF
open PySem.W (Frag keepIn)
section
variable {P : Program} {w : World} {A : Around}
end
end Hn

set_option maxHeartbeats 4000000
/-! sets of tuples of ints of more than sixty-three members: as many as a table of 128 slots holds -/
namespace Hn
open PySem PySem.Spec PyProof.Rows L2 EF
open PySem.W (Frag keepIn)
abbrev Tup2 := Addr × List Int
/-- as SetTR, but for the bound -/
structure Many (P : Program) (w : World) (h : Heap) (a : Addr) (L : List Tup2) (es : Array (Int × Value)) (n : Nat) (t : SetTable) : Prop where
  obj : ∃ o, h.get? a = some o ∧ o.ExactSet ∧ o.data = .set es n t
  row : es.toList = rowsOf P w L
  tbl : TabOk t (L.map fun q => thash P w q.2)
  one : (L.map (·.2)).Nodup
  mem : ∀ q ∈ L, IsT P w h q.2 q.1
  flat : t.plain = true
  seq : w.params.followText "set-order" = true ∨ t.led = true
  free : L.length * 5 < t.mask * 3
section
variable {P : Program} {w : World} {A : Around} {E : Value → Shared → Prop} {s : Shared} {a : Addr} {L : List Tup2} {es : Array (Int × Value)} {n : Nat} {t : SetTable} {k : List Int} {x : Addr}
theorem Many.of {h : Heap} (R : SetTR P w h a L es n t) : Many P w h a L es n t := ⟨R.ob, R.rows, R.tab, R.nd, R.tup, R.plain, R.led, R.room⟩
theorem Many.tr {h : Heap} (M : Many P w h a L es n t) (b : L.length < 64) : SetTR P w h a L es n t := ⟨M.obj, M.row, M.tbl, M.one, M.mem, M.flat, M.seq, M.free, b⟩
theorem Many.len {h : Heap} (M : Many P w h a L es n t) : es.size = L.length := by
  rw [← Array.length_toList, M.row]
  exact List.length_map _
theorem Many.place {h : Heap} (M : Many P w h a L es n t) : t.place.size = L.length := by
  rw [M.tbl.sz, List.length_map]
theorem Many.ok {h : Heap} (M : Many P w h a L es n t) : t.fits es.size = true := by
  have z := And.intro M.place (And.intro M.len M.free)
  simp only [SetTable.fits, SetTable.fill, M.tbl.dm, Bool.and_eq_true, beq_iff_eq, decide_eq_true_eq, List.size_toArray, List.length_nil]
  omega
theorem Many.at {h : Heap} (M : Many P w h a L es n t) {i : Nat} {q : Tup2} (e : L[i]? = some q) : es[i]? = some (thash P w q.2, Value.ref q.1) := by
  have z : es.toList[i]? = some (thash P w q.2, Value.ref q.1) := by
    rw [M.row]
    simp only [rowsOf, List.getElem?_map, e, Option.map_some]
  exact (Array.getElem?_toList).symm.trans z
theorem Many.stays {h : Heap} (M : Many P w h a L es n t) : ¬ t.gaveWay = true := by
  rcases M.tbl.mok with e | e | e <;> simp [SetTable.gaveWay, e]
/-- where a search for k begins -/
abbrev head (P : Program) (w : World) (t : SetTable) (k : List Int) : SetTable.Probe := runAt t.mask (SetTable.bits (thash P w k) % (t.mask + 1)) (SetTable.bits (thash P w k))
theorem no_dummy (m : Nat) : ∀ (c : Nat) (p : SetTable.Probe), p.dummy = none → (nth m p c).dummy = none
  | 0, _, e => e
  | c + 1, p, e => no_dummy m c (adv m p) (by unfold adv; split <;> exact e)
theorem stepped (m c q : Nat) (p : SetTable.Probe) : nth m (nth m p c) q = nth m p (c + q) := (nth_add m c p q).symm
/-- a search, from its c-th step on; it meets an empty slot at the K-th -/
theorem Many.seek (M : Many P w s.heap a L es n t) (hx : IsT P w s.heap k x) (room : A.units < cLine) {K : Nat} (lt : K < 10 * SetTable.turns t.mask) (hole : way t.mask (thash P w k) K ∉ t.place.toList) (before : ∀ c, c < K → way t.mask (thash P w k) c ∈ t.place.toList)
    {Q : SetFound → Shared → Prop} (old : k ∈ L.map (·.2) → Q (.there none) s) (new : k ∉ L.map (·.2) → Q (.free (way t.mask (thash P w k) K) false) s) (fuel : Nat) :
    ∀ (c : Nat) (p0 : Option SetTable.Probe), p0.getD (t.probeStart (thash P w k)) = nth t.mask (head P w t k) c → c ≤ K → K < c + fuel → (∀ (i : Nat) (q : Tup2), L[i]? = some q → q.2 = k → ∃ d, (c ≤ d ∧ d < K) ∧ t.place.toList[i]? = some (way t.mask (thash P w k) d)) →
      wpAny (model P w) A (setSearchFrom a (.ref x) (thash P w k) true fuel p0) Q E s := by
  induction fuel with
  | zero => exact fun c _ _ h1 h2 => absurd h2 (by omega)
  | succ fuel ih =>
    intro c p0 start cK cf left
    obtain ⟨o, ho, _, hdat⟩ := M.obj
    have hash_of : ∀ (i : Nat) (q : Tup2), L[i]? = some q → (fun i => (es[i]?.map (·.1)).getD 0) i = thash P w q.2 := fun i q e => by
      simp only [M.at e, Option.map_some, Option.getD_some]
    have slotE : ∀ q, (nth t.mask (nth t.mask (head P w t k) c) q).j = way t.mask (thash P w k) (c + q) := fun q => by rw [stepped]
    rw [setSearchFrom_succ]
    refine wpAny_bind (wpAny_setState_of ho hdat M.ok ?_)
    dsimp only
    refine wp_if_neg M.stays ?_
    (try refine wpAny_bind (wpAny_pure ?_))
    rcases go_spec t M.tbl.ris M.tbl.dm (fun i => (es[i]?.map (·.1)).getD 0) (thash P w k) (10 * SetTable.turns t.mask) (K - c) _ (no_dummy t.mask c (head P w t k) rfl) (by omega) (fun q hq => by rw [slotE]; exact before _ (by omega)) (by rw [slotE, Nat.add_sub_cancel' cK]; exact hole) with ⟨q, i, hq, slot, same, none_yet, step⟩ | ⟨none_yet, step⟩
    · rw [slotE] at slot
      have il : i < L.length := by
        rw [← M.place, ← Array.length_toList]
        exact (List.getElem?_eq_some_iff.mp slot).1
      have ei : L[i]? = some L[i] := List.getElem?_eq_getElem il
      generalize L[i] = r at ei
      have rm := List.mem_of_getElem? ei
      have met : t.probe (fun i => (es[i]?.map (·.1)).getD 0) (thash P w k) (p0.getD (t.probeStart (thash P w k))) = some (.candidate (way t.mask (thash P w k) (c + q)) i (nth t.mask (head P w t k) (c + (q + 1)))) := by
        rw [start, ← slotE, ← stepped t.mask c (q + 1)]
        exact step
      rw [met]
      dsimp only
      have goon : wpAny (model P w) A (searchRest a (.ref x) (thash P w k) true fuel es t (way t.mask (thash P w k) (c + q)) i (nth t.mask (head P w t k) (c + (q + 1)))) Q E s := by
        have live := slot_live M.tbl.ris slot
        simp only [searchRest, M.at ei]
        refine wpAny_bind (wpAny_holding (wpAny_eqBool_tuple room (M.mem r rm) hx (wpAny_bind (wpAny_setState_of ho hdat M.ok ?_))))
        dsimp only
        rcases Classical.em (r.2 = k) with eq | ne
        · refine wp_if_pos (by rw [decide_eq_true eq]; rfl) (wpAny_pure (old (List.mem_map.mpr ⟨r, rm, eq⟩)))
        · have d0 : decide (r.2 = k) = false := decide_eq_false ne
          refine wp_if_neg (by rw [d0]; decide) ?_
          (try refine wpAny_bind (wpAny_pure ?_))
          simp only [sameMem, if_true, live, M.at ei]
          refine wpAny_bind (wpAny_isSame_ref_self (wpAny_bind (wpAny_pure ?_))); simp only [if_true]
          refine wp_if_neg (by rw [d0]; simp) (ih (c + (q + 1)) _ rfl (by omega) (by omega) fun i2 q2 e2 k2 => ?_)
          obtain ⟨d, ⟨d1, d2⟩, d3⟩ := left i2 q2 e2 k2
          refine ⟨d, ⟨Nat.not_lt.mp fun lt2 => ?_, d2⟩, d3⟩
          by_cases z : d = c + q
          · rw [z] at d3
            have z2 := (slot_live M.tbl.ris d3).symm.trans live
            injection z2 with z2
            rw [z2, ei] at e2
            injection e2 with e2
            exact ne (by rw [e2]; exact k2)
          · refine none_yet (d - c) i2 (by omega) (by rw [slotE, Nat.add_sub_cancel' d1]; exact d3) ?_
            exact (hash_of i2 q2 e2).trans (by rw [k2])
      rcases Bool.eq_false_or_eq_true t.led with y | y
      · refine wp_if_neg (by rw [y]; simp) ?_
        (try refine wpAny_bind (wpAny_pure ?_))
        exact goon
      · refine wp_if_pos (by rw [y]; simp) (wpAny_bind (seen_tup hx (fun y hy => ?_) ?_))
        · obtain ⟨e, he, rfl⟩ := List.mem_map.mp hy
          have he2 : e ∈ es.toList := by
            have : e ∈ es ∧ e.1 = thash P w k := by simpa using he
            simpa using this.1
          rw [M.row] at he2
          obtain ⟨q2, hq2, rfl⟩ := List.mem_map.mp he2
          exact ⟨q2.2, q2.1, rfl, M.mem q2 hq2⟩
        · refine wp_if_neg (by decide) ?_; (try refine wpAny_bind (wpAny_pure ?_))
          exact goon
    · have met : t.probe (fun i => (es[i]?.map (·.1)).getD 0) (thash P w k) (p0.getD (t.probeStart (thash P w k))) = some (.empty (way t.mask (thash P w k) K) none) := by
        have e2 := slotE (K - c)
        rw [Nat.add_sub_cancel' cK] at e2
        rw [start, ← e2]
        exact step
      rw [met]
      dsimp only
      refine wpAny_pure (new fun hm => ?_)
      obtain ⟨q2, hq2, k2⟩ := List.mem_map.mp hm
      obtain ⟨i2, hi2, e2⟩ := List.getElem_of_mem hq2
      have e2 : L[i2]? = some q2 := (List.getElem?_eq_getElem hi2).trans (congrArg some e2)
      obtain ⟨d, ⟨d1, d2⟩, d3⟩ := left i2 q2 e2 k2
      refine none_yet (d - c) i2 (by omega) (by rw [slotE, Nat.add_sub_cancel' d1]; exact d3) ?_
      exact (hash_of i2 q2 e2).trans (by rw [k2])
theorem Many.seek0 (M : Many P w s.heap a L es n t) (hx : IsT P w s.heap k x) (room : A.units < cLine) {Q : SetFound → Shared → Prop} (old : k ∈ L.map (·.2) → Q (.there none) s)
    (new : ∀ K, k ∉ L.map (·.2) → way t.mask (thash P w k) K ∉ t.place.toList → (∀ c, c < K → way t.mask (thash P w k) c ∈ t.place.toList) → Q (.free (way t.mask (thash P w k) K) false) s) : wpAny (model P w) A (setSearch a (.ref x) (thash P w k) true) Q E s := by
  have fr := M.free
  obtain ⟨K, k1, k2, k3⟩ := M.tbl.first (by rw [List.length_map]; omega) (thash P w k)
  have big : 10 * SetTable.turns t.mask < 99999 := by
    rcases M.tbl.mok with e | e | e <;> rw [e] <;> decide
  unfold setSearch
  refine M.seek hx room k1 k2 k3 old (fun z => new K z k2 k3) 100000 0 none rfl (Nat.zero_le _) (by omega) fun i q e ek => ?_
  have il : i < t.place.toList.length := by
    rw [Array.length_toList, M.place]; exact (List.getElem?_eq_some_iff.mp e).1
  have ej := List.getElem?_eq_getElem il
  obtain ⟨d, d1, d2⟩ := M.tbl.before k2 (show (L.map fun q => thash P w q.2)[i]? = some (thash P w k) by rw [List.getElem?_map, e, ← ek]; rfl) ej
  exact ⟨d, ⟨Nat.zero_le _, d1⟩, by rw [ej, d2]⟩
/-- one more, where the table has room for it -/
theorem Many.put (M : Many P w s.heap a L es n t) (hx : IsT P w s.heap k x) (room : A.units < cLine) (wide : t.mask = 127) (few : k ∉ L.map (·.2) → L.length + 1 ≤ 76) {Q : Bool → Shared → Prop}
    (fin : ∀ b h' L' es' n' t', Heap.SameBut a s.heap h' → Many P w h' a L' es' n' t' → (k ∈ L.map (·.2) → L' = L) → (k ∉ L.map (·.2) → L'.Perm ((x, k) :: L)) → Q b { s with heap := h' }) : wpAny (model P w) A (setAddHashed a (.ref x) (thash P w k)) Q E s := by
  have base := M.obj
  obtain ⟨o, ho, ex, hdat⟩ := base
  have en := M.len
  unfold setAddHashed
  refine wpAny_holding ?_
  rw [show (100000 : Nat) = Nat.succ 99999 from rfl, setAddHashedIn_succ]
  refine wpAny_bind (wpAny_setState_of ho hdat M.ok ?_)
  dsimp only
  refine wp_if_neg (by simp only [byScan, Value.scannable, Bool.false_and, Bool.false_eq_true, not_false_eq_true]) ?_
  (try refine wpAny_bind (wpAny_pure ?_))
  refine wpAny_bind (M.seek0 hx room (fun z => wpAny_pure (fin false s.heap L es n t (Heap.SameBut.refl a s.heap) M (fun _ => rfl) fun y => (y z).elim)) fun K nk hole before => wpAny_bind (wpAny_setState_of ho hdat M.ok ?_))
  dsimp only
  have few := few nk
  have pu := M.tbl.put hole before
  have flat2 : (t.put (way t.mask (thash P w k) K)).1.plain = true := pu.2.2.2.2.2.1.trans M.flat
  have seq2 : w.params.followText "set-order" = true ∨ (t.put (way t.mask (thash P w k) K)).1.led = true := by rw [pu.2.2.2.2.1]; exact M.seq
  obtain ⟨p1, -, p3, p4, -, -, -, -, p9⟩ := pu
  rcases ep : t.put (way t.mask (thash P w k) K) with ⟨t2, j⟩
  rw [ep] at p1 p3 p4 p9 flat2 seq2
  dsimp only at p1 p3 p4 p9 flat2 seq2 ⊢
  rw [← p1] at p3
  first
    | (refine wpAny_bind ?_; refine wp_if_pos flat2 ?_; refine hashBy_tup hx ?_)
    | refine wp_if_pos flat2 (wpAny_bind (hashBy_tup hx ?_))
  simp only [if_true]
  have rows2 : (SetTable.insertAt es j (thash P w k, Value.ref x)).toList = rowsOf P w (L.take j ++ (x, k) :: L.drop j) := (SetTable.toList_insertAt ..).trans (by rw [M.row, ← rows_put])
  have perm := put_perm L j (x, k)
  have tbl2 : TabOk t2 ((L.take j ++ (x, k) :: L.drop j).map fun q => thash P w q.2) := by
    simp only [List.map_append, List.map_cons, List.map_take, List.map_drop]
    exact p3
  have one2 : ((L.take j ++ (x, k) :: L.drop j).map (·.2)).Nodup := (perm.map _).nodup_iff.mpr (List.nodup_cons.mpr ⟨nk, M.one⟩)
  have in2 : ∀ q ∈ L.take j ++ (x, k) :: L.drop j, q = (x, k) ∨ q ∈ L := fun q hq => List.mem_cons.mp (perm.mem_iff.mp hq)
  have len2 := perm.length_eq
  rw [List.length_cons] at len2
  generalize L.take j ++ (x, k) :: L.drop j = L2 at *
  have en2 : (SetTable.insertAt es j (thash P w k, Value.ref x)).size = L2.length := by
    rw [← Array.length_toList, rows2]
    exact List.length_map _
  generalize SetTable.insertAt es j (thash P w k, Value.ref x) = es2 at *
  refine wpAny_bind (wpAny_storeSet_of ho hdat ?_ (by rw [en2, len2, sizeLine_eq]; omega))
  have sb : Heap.SameBut a s.heap (s.heap.update a (Obj.putSet es2 t2)) := .update ..
  have there := store_at (es' := es2) (t' := t2) ho hdat
  generalize s.heap.update a (Obj.putSet es2 t2) = h2 at *
  have loose : ¬ t2.tooFull = true := fun z => by
    simp only [SetTable.tooFull, decide_eq_true_eq, p9, List.length_map, p4, wide] at z
    omega
  first
    | refine wp_if_neg (by simp [loose]) ?_
    | (refine wpAny_bind ?_; refine wp_if_neg (by simp [loose]) ?_; refine wpAny_pure ?_)
  refine wpAny_pure (fin true h2 L2 es2 (n + 1) t2 sb ⟨⟨_, there, ⟨ex.1, ex.2.1, ex.2.2⟩, rfl⟩, rows2, tbl2, one2, fun q hq => ?_, flat2, seq2, by rw [len2, p4, wide]; omega⟩ (fun z => (nk z).elim) fun _ => perm)
  rcases in2 q hq with rfl | hq
  · exact isT_same hx ho hdat sb
  · exact isT_same (M.mem q hq) ho hdat sb
/-- one more, up to seventy-six -/
theorem Many.more (M : Many P w s.heap a L es n t) (hx : IsT P w s.heap k x) (room : A.units < cLine) (few : k ∉ L.map (·.2) → L.length + 1 ≤ 76) {Q : Bool → Shared → Prop}
    (fin : ∀ b h' L' es' n' t', Heap.SameBut a s.heap h' → Many P w h' a L' es' n' t' → (k ∈ L.map (·.2) → L' = L) → (k ∉ L.map (·.2) → L'.Perm ((x, k) :: L)) → Q b { s with heap := h' }) : wpAny (model P w) A (setAddHashed a (.ref x) (thash P w k)) Q E s := by
  by_cases small : L.length + 1 < 64
  · exact add_at (M.tr (by omega)) hx room small fun b h' L' es' n' t' sb R c1 c2 => fin b h' L' es' n' t' sb (.of R) c1 c2
  · have wide : t.mask = 127 := by
      have := M.free
      rcases M.tbl.mok with e | e | e
      · omega
      · omega
      · exact e
    exact M.put hx room wide few fin
end
end Hn

set_option maxHeartbeats 4000000
/-! set(xs) and sorted(set(xs)) of up to seventy-six tuples of ints -/
namespace Hn
open PySem PySem.Spec PyProof.Rows L2 EF
open PySem.W (Frag keepIn)
section
variable {P : Program} {w : World} {A : Around} {a : Addr} {L : List Tup2} {es : Array (Int × Value)} {m : Nat} {t : SetTable}
theorem Many.keep {h h' : Heap} (M : Many P w h a L es m t) (here : ∀ o, h.get? a = some o → h'.get? a = some o) (them : ∀ q ∈ L, IsT P w h' q.2 q.1) : Many P w h' a L es m t :=
  ⟨M.obj.imp fun o z => ⟨here o z.1, z.2⟩, M.row, M.tbl, M.one, them, M.flat, M.seq, M.free⟩
/-- the keys are among these -/
structure Among (ks : List Tup2) (U : List (List Int)) : Prop where
  sub : ∀ q ∈ ks, q.2 ∈ U
  few : U.length ≤ 76
theorem Among.room {ks : List Tup2} {U : List (List Int)} (u : Among ks U) (nd : (L.map (·.2)).Nodup) (s : ∀ q ∈ L, q ∈ ks) {q : Tup2} (hq : q ∈ ks) (new : q.2 ∉ L.map (·.2)) : L.length + 1 ≤ 76 := by
  have le := List.Nodup.length_le_of_subset (l₁ := q.2 :: L.map (·.2)) (l₂ := U) (List.nodup_cons.mpr ⟨new, nd⟩) fun z hz => by
    rcases List.mem_cons.mp hz with rfl | hz
    · exact u.sub q hq
    · obtain ⟨r, hr, rfl⟩ := List.mem_map.mp hz
      exact u.sub r (s r hr)
  rw [List.length_cons, List.length_map] at le
  exact Nat.le_trans le u.few
/-- set.update's walk -/
theorem set_takes {I : Addr} {fp wr : List Addr} {G : Array GenState → Array GenState → Prop} {n : Nat} {Pv : Nat → Value → Prop} {St : Nat → Shared → Prop} {R : Result → Shared → Prop} (W : WalksS P w A.in1 I fp wr G n Pv St)
    (apart : a ∉ fp) (ks : List Tup2) (U : List (List Int)) (am : Among ks U) (en : n = ks.length) (vals : ∀ i v, Pv i v → ∃ q, ks[i]? = some q ∧ v = .ref q.1) (h0 : Heap) (old : ∀ q ∈ ks, IsT P w h0 q.2 q.1) (ga : h0.get? a = none) (gw : ∀ b ∈ wr, h0.get? b = none) (room : A.in1.units < cLine) (d : Nat) :
    ∀ (i : Nat) (s : Shared), i + d = n → St i s → (∀ b o, h0.get? b = some o → s.heap.get? b = some o) → (∃ L es m t, Many P w s.heap a L es m t ∧ Got ks i L) →
      (∀ s' L es m t, Moved (a :: wr) G s s' → Many P w s'.heap a L es m t → Got ks n L → (∀ b o, h0.get? b = some o → s'.heap.get? b = some o) → R (.ok (.ret .none)) s') →
      codeAny (model P w) A (.builtin "set.update.loop" ⟨[.ref a, .ref I], []⟩) R s := by
  have aw : a ∉ wr := fun z => apart (W.sub a z)
  have stays : ∀ {s s' : Shared}, Moved wr G s s' → (∀ b o, h0.get? b = some o → s.heap.get? b = some o) → ∀ b o, h0.get? b = some o → s'.heap.get? b = some o := fun mv k b o e => mv.heap b o (fun z => by
    rw [gw b z] at e
    cases e) (k b o e)
  induction d with
  | zero =>
    rintro i s rfl st kp ⟨L, es, m, t, M, g⟩ fin
    refine codeAny_builtin F.entry_set_update_loop ?_
    rw [Around.under_plainId F.plain_set_update_loop _]
    refine wpAny_bind (W.done s _ _ st fun s' mv => wpAny_pure ?_)
    have kp' := stays mv kp
    exact fin s' L es m t (mv.mono fun b z => List.mem_cons_of_mem a z) (M.keep (fun o e => mv.heap a o aw e) fun q hq => isT_keep (old q (List.mem_of_mem_take (g.sub q hq))) kp') g kp'
  | succ d ih =>
    rintro i s e st kp ⟨L, es, m, t, M, g⟩ fin
    refine codeAny_builtin F.entry_set_update_loop ?_
    rw [Around.under_plainId F.plain_set_update_loop _]
    refine wpAny_bind (W.item i s _ _ (by omega) st fun v s' hv st' mv => ?_)
    obtain ⟨q, eq, rfl⟩ := vals i v hv
    have kp' := stays mv kp
    have inks : ∀ q ∈ L, q ∈ ks := fun q hq => List.mem_of_mem_take (g.sub q hq)
    have M' : Many P w s'.heap a L es m t := M.keep (fun o e => mv.heap a o aw e) fun q hq => isT_keep (old q (inks q hq)) kp'
    have qk := List.mem_of_getElem? eq
    have tq : IsT P w s'.heap q.2 q.1 := isT_keep (old q qk) kp'
    show wpAny _ A.in1 (holding [Value.ref q.1] (setAdd a (.ref q.1)) >>= _) _ _ s'
    unfold setAdd
    refine wpAny_bind (wpAny_holding (wpAny_holding (wpAny_bind (wpAny_pyHash_tuple room tq ?_))))
    refine Many.more (s := { s' with toks := s'.toks + (q.2.length + 1) }) M' tq room (fun z => am.room M.one inks qk z) fun b h' L' es' m' t' sb M2 c1 c2 => ?_
    have g' : Got ks (i + 1) L' := by
      by_cases z : q.2 ∈ L.map (·.2)
      · exact c1 z ▸ g.same eq z
      · exact g.more eq (c2 z)
    have kp2 : ∀ b o, h0.get? b = some o → h'.get? b = some o := fun b o e => (sb.2 b fun z => by
      rw [z, ga] at e
      cases e).trans (kp' b o e)
    have fr : ∀ b ∈ fp, b ≠ a := fun b hb z => apart (z ▸ hb)
    refine wpAny_pure ⟨plainId_quiet F.plain_set_update_loop _, ih (i + 1) _ (by omega) (W.frame _ s' _ _ st' (Nat.le_add_right _ _) fun b hb o e => (sb.2 b (fr b hb)).trans e) kp2 ⟨L', es', m', t', M2, g'⟩ fun s2 L2 es2 m2 t2 mv2 M3 g3 kp3 => ?_⟩
    exact fin s2 L2 es2 m2 t2 (Moved.trans W.gtrans ((mv.mono fun b z => List.mem_cons_of_mem a z).then_heap (Nat.le_add_right _ _) fun b o hb e => (sb.2 b fun z => hb (z ▸ List.mem_cons_self)).trans e) mv2) M3 g3 kp3
/-- what is left behind -/
def FilledM (P : Program) (w : World) (s : Shared) (ks : List Tup2) (z : Shared) : Prop :=
  ∃ h' tk L es m t, z = { s with heap := h', toks := tk } ∧ Many P w h' s.heap.objs.size L es m t ∧ Got ks ks.length L ∧ ∀ b o, s.heap.get? b = some o → h'.get? b = some o
/-- set(l), l a list or a tuple of such -/
theorem set_filledM {E : Value → Shared → Prop} {s : Shared} {l : Addr} {items : Array Value} (ks : List Tup2) (U : List (List Int)) (am : Among ks U) (hh : A.handled = none) (hl : s.heap.IsList l items ∨ s.heap.IsTuple l items) (hit : items.toList = ks.map fun q => Value.ref q.1) (hk : ∀ q ∈ ks, IsT P w s.heap q.2 q.1) (hu : A.units + 3 < cLine) :
    codeAny (model P w) A.in1 (.call (.builtin "set.__init__") ⟨[.ref s.heap.objs.size, .ref l], []⟩) (wants (fun r z => r = .none ∧ FilledM P w s ks z) E) { s with heap := s.heap.push (bare w) } := by
  unfold FilledM
  generalize eS : s.heap.objs.size = S at *
  have gone : ∀ b, S ≤ b → s.heap.get? b = none := fun b hb => by
    cases q : s.heap.get? b with
    | none => rfl
    | some o =>
      have lt := Heap.lt_size q
      rw [eS] at lt
      exact (Nat.lt_irrefl _ (Nat.lt_of_lt_of_le lt hb)).elim
  generalize eh : s.heap.push (bare w) = h1 at *
  have kp : ∀ b o, s.heap.get? b = some o → h1.get? b = some o := fun b o e => eh ▸ Heap.get?_push_of_some _ e
  have atS : h1.get? S = some (bare w) := by
    rw [← eh, ← eS]; exact Heap.get?_push_size _ rfl
  have z1 : h1.objs.size = S + 1 := by
    rw [← eh, ← eS]; exact Heap.size_push ..
  have ty : Shared.TypeIs { s with heap := h1 } (.ref S) "set" := ⟨_, atS, rfl⟩
  have cnt : items.size = ks.length := by rw [← Array.length_toList, hit, List.length_map]
  have lS : l < S := by
    rw [← eS]
    rcases hl with ⟨_, g, _⟩ | ⟨_, g, _⟩ <;> exact Heap.lt_size g
  have vals : ∀ (i : Nat) (v : Value), items[i]? = some v → ∃ q, ks[i]? = some q ∧ v = .ref q.1 := fun i v hv => by
    have q := congrArg (fun x : List Value => x[i]?) hit
    simp only [Array.getElem?_toList, hv, List.getElem?_map] at q
    obtain ⟨p, hp, e⟩ := Option.map_eq_some_iff.mp q.symm
    exact ⟨p, hp, e.symm⟩
  have apart : l ≠ h1.objs.size := fun e => Nat.ne_of_lt (Nat.lt_succ_of_lt lS) (e.trans z1)
  have no : S ∉ [h1.objs.size, l] := fun z => by
    rcases List.mem_cons.mp z with e | z
    · exact Nat.ne_of_lt (Nat.lt_succ_self S) (e.trans z1)
    · exact Nat.lt_irrefl l (List.mem_singleton.mp z ▸ lS)
  have none1 : ∀ b ∈ [h1.objs.size], s.heap.get? b = none := fun b hb => gone b (by rw [List.mem_singleton.mp hb, z1]; exact Nat.le_succ S)
  rcases hl with hl | hl
  · have il : h1.IsList l items := eh ▸ hl.push _
    obtain ⟨⟨_, ld, _, lsl⟩, l1, rfl, c, rfl⟩ := id il
    have s1 := F.sub_list_set
    have s2 := F.sub_list_frozenset
    have s3 : (Value.type "list" == Value.type "dict") = false := by decide
    refine codeAny_call_builtin F.called_set.init.plain F.entry_set_init (check_set_init_1 ty ?_)
    unfold Builtin.«set.__init__» noKeywords
    unfold Builtin.Frozenset.updateFrom
    generalize eI : pyIter = iter
    wp_walk
    rw [← eI]
    refine wpAny_pyIter_list il (wpAny_bind (wpAny_runValue ?_))
    refine set_takes (Walks.list (show A.in1.in1.in1.handled = none by simp [hh]) h1.objs.size l apart items).toS no ks U am cnt vals s.heap hk (gone S (Nat.le_refl _)) none1 ?u items.size 0 _ (Nat.zero_add _) ?st (fun b o e => Heap.get?_push_of_some _ (kp b o e)) ?m ?f
    case u => show A.units + 1 + 1 + 1 < cLine; omega
    case st => exact ⟨⟨_, Heap.get?_push_size _ rfl, rfl, rfl⟩, il.push _⟩
    case m => exact ⟨[], #[], 0, _, .of (setTR_fresh (Heap.get?_push_of_some _ atS)), Got.zero ks⟩
    case f =>
      rintro ⟨h', _, _, tk, _⟩ L es m t mv M got k2
      obtain ⟨g1, g2, g3⟩ := And.intro mv.gens (And.intro mv.drawn mv.os)
      dsimp only at g1 g2 g3
      rw [g1, g2, g3]
      rw [cnt] at got
      exact wpAny_pure (wpAny_pure ⟨rfl, h', tk, L, es, m, t, rfl, M, got, k2⟩)
  · have il : h1.IsTuple l items := eh ▸ hl.push _
    obtain ⟨⟨_, ld, _, lsl⟩, l1, rfl, c, rfl⟩ := id il
    have s1 := F.sub_tuple_set
    have s2 := F.sub_tuple_frozenset
    have s3 : (Value.type "tuple" == Value.type "dict") = false := by decide
    refine codeAny_call_builtin F.called_set.init.plain F.entry_set_init (check_set_init_1 ty ?_)
    unfold Builtin.«set.__init__» noKeywords
    unfold Builtin.Frozenset.updateFrom
    generalize eI : pyIter = iter
    wp_walk
    rw [← eI]
    refine wpAny_pyIter_tuple il (wpAny_bind (wpAny_runValue ?_))
    refine set_takes (Walks.tuple (show A.in1.in1.in1.handled = none by simp [hh]) h1.objs.size l apart items).toS no ks U am cnt vals s.heap hk (gone S (Nat.le_refl _)) none1 ?u items.size 0 _ (Nat.zero_add _) ?st (fun b o e => Heap.get?_push_of_some _ (kp b o e)) ?m ?f
    case u => show A.units + 1 + 1 + 1 < cLine; omega
    case st => exact ⟨⟨_, Heap.get?_push_size _ rfl, rfl, rfl⟩, il.push _⟩
    case m => exact ⟨[], #[], 0, _, .of (setTR_fresh (Heap.get?_push_of_some _ atS)), Got.zero ks⟩
    case f =>
      rintro ⟨h', _, _, tk, _⟩ L es m t mv M got k2
      obtain ⟨g1, g2, g3⟩ := And.intro mv.gens (And.intro mv.drawn mv.os)
      dsimp only at g1 g2 g3
      rw [g1, g2, g3]
      rw [cnt] at got
      exact wpAny_pure (wpAny_pure ⟨rfl, h', tk, L, es, m, t, rfl, M, got, k2⟩)
end
end Hn

set_option maxHeartbeats 4000000
/-! such sets on the heap: set(xs), sorted(s) -/
namespace Hn
open PySem PySem.Spec PyProof.Rows L2 EF
open PySem.W (Frag keepIn)
/-- the set at a, but for its tuples -/
def Many0 (P : Program) (w : World) (h : Heap) (a : Addr) (L : List Tup2) : Prop := ∃ (es : Array (Int × Value)) (m : Nat) (t : SetTable), (∃ o, h.get? a = some o ∧ o.ExactSet ∧ o.data = .set es m t) ∧ es.toList = rowsOf P w L ∧
  TabOk t (L.map fun q => thash P w q.2) ∧ (L.map (·.2)).Nodup ∧ t.plain = true ∧ (w.params.followText "set-order" = true ∨ t.led = true) ∧ L.length * 5 < t.mask * 3
theorem Many.bare {P : Program} {w : World} {h : Heap} {a : Addr} {L : List Tup2} {es : Array (Int × Value)} {m : Nat} {t : SetTable} (M : Many P w h a L es m t) : Many0 P w h a L := ⟨es, m, t, M.obj, M.row, M.tbl, M.one, M.flat, M.seq, M.free⟩
theorem Many0.full {P : Program} {w : World} {h : Heap} {a : Addr} {L : List Tup2} (M : Many0 P w h a L) (k : ∀ q ∈ L, IsT P w h q.2 q.1) : ∃ es m t, Many P w h a L es m t := by
  obtain ⟨es, m, t, z1, z2, z3, z4, z5, z6, z7⟩ := M
  exact ⟨es, m, t, z1, z2, z3, z4, k, z5, z6, z7⟩
def BagO (P : Program) (w : World) (a : Addr) (L : List Tup2) : HO := .ext fun h => Many0 P w h a L
theorem bagO_new {P : Program} {w : World} {H : Hp} {h : Heap} {a : Addr} {L : List Tup2} (M : Many0 P w h a L) : ObjOk P w H h a (BagO P w a L) := by
  have ⟨_, _, _, ⟨o, ho, _⟩, _⟩ := M
  refine ⟨M, ⟨o, ho⟩, fun _ _ p k => ?_⟩
  have ⟨es, m, t, ⟨o2, g, z⟩, r⟩ := p
  exact ⟨es, m, t, ⟨o2, k o2 g, z⟩, r⟩
/-- set(xs), xs a list or a tuple of tuples of ints, of up to seventy-six kinds -/
def rSetM (K : Frag) (P : Program) (w : World) : List V → Hp → VK → Prop := fun xs H Q => ∃ (l : Addr) (ks : List Tup2) (U : List (List Int)), xs = [V.ref l] ∧ (SqL K H l (ks.map fun q => V.ref q.1) ∨ SqT K H l (ks.map fun q => V.ref q.1)) ∧ (∀ q ∈ ks, SqT K H q.1 (q.2.map V.int)) ∧ Among ks U ∧
  ∀ (b : Addr) (M : List Tup2), H b = none → (∀ q ∈ M, q ∈ ks) → (∀ q ∈ ks, q.2 ∈ M.map (·.2)) → Q (.ref b) (upd H b (BagO P w b M))
theorem cr_setM {X : Cx} (hc : X.calm = true) (hu : X.A.units + 64 < cLine) : CallR X (.type "set") (rSetM X.K X.prog X.w) := by
  rintro pins s σ H _ us Q I r ⟨l, ks, U, rfl, hl, hk, am, q⟩
  rw [Vals.ref1 r]
  have nw : H s.heap.objs.size = none := HOk.fresh I.hok (Nat.le_refl _)
  have seqs : ∃ items : Array Value, (s.heap.IsList l items ∨ s.heap.IsTuple l items) ∧ items.toList = ks.map fun q => Value.ref q.1 := by
    rcases hl with hl | hl
    · obtain ⟨its, rv, pt, _⟩ := I.list hl
      exact ⟨its.toArray, .inl pt.isList, by simpa using refs_of_vals rv⟩
    · obtain ⟨its, rv, pt, _⟩ := I.tuple hl
      exact ⟨its.toArray, .inr (show s.heap.IsTuple l its.toArray from pt), by simpa using refs_of_vals rv⟩
  obtain ⟨items, it, ei⟩ := seqs
  refine set_made (set_filledM ks U am (I.ok.hd hc) it ei (fun q hq => I.isT (hk q hq)) (by omega)) ?_
  rintro z ⟨h', tk, L, es, m, t, rfl, M, g, k⟩
  refine ⟨.ref s.heap.objs.size, upd H s.heap.objs.size (BagO X.prog X.w s.heap.objs.size L), I.laid (t' := tk) k (Nat.le_refl _) (bagO_new M.bare), rfl, q _ L nw (fun p hp => List.mem_of_mem_take (g.sub p hp)) fun p hp => ?_⟩
  have all := g.all p
  rw [List.take_length] at all
  exact all hp
theorem sortedM {P : Program} {w : World} {A : Around} {E : Value → Shared → Prop} {s : Shared} {a : Addr} {L : List (Addr × List Int)} {es : Array (Int × Value)} {ep : Nat} {t : SetTable} {Q : Value → Shared → Prop}
    (R : Many P w s.heap a L es ep t) (hh : A.handled = none) (hu : A.units + 10 < cLine) (ne : ∀ p ∈ L, p.2 ≠ [])
    (hQ : ∀ (s' : Shared) (p : Addr) (out : Array Value) (c : Nat) (L' : List (Addr × List Int)), (∀ b o, s.heap.get? b = some o → s'.heap.get? b = some o) → s'.gens = s.gens → s'.os = s.os → s.heap.objs.size ≤ p →
      s'.heap.get? p = some (seqObj "list" out c) → out.toList = L'.map (fun q => Value.ref q.1) → L'.Perm L → L'.Pairwise notAfter → Q (.ref p) s') :
    wpAny (model P w) A (call (.builtin "sorted") [.ref a]) Q E s := by
  obtain ⟨o, ho, hex, hd⟩ := R.obj
  have hsz := R.len
  have few : L.length ≤ 76 := by
    have fr := R.free
    rcases R.tbl.mok with e | e | e <;> omega
  refine Calls.call_function_entry kind_sorted plain_sorted entry_sorted (args_sorted1 _) ?_
  refine wpAny_bind (wpAny_pure (wpAny_bind ?_))
  refine collect_set hh ⟨o, ho, hex.1, hd⟩ R.ok (by rw [show scanBound = 4096 from rfl]; omega) R.tbl.ris R.seq fun s1 vs k1 hz g1 o1 pm => ?_
  have hes : es.toList.map (·.2) = L.map (fun q => Value.ref q.1) := by
    rw [R.row]
    simp [rowsOf, List.map_map]
  rw [hes] at pm
  obtain ⟨L1, rfl, h1⟩ := refs_pick (L := L) fun v hv => by
    obtain ⟨q, hq, e⟩ := List.mem_map.mp (pm.mem_iff.mp hv)
    exact ⟨q, hq, e.symm⟩
  have one : ∀ q ∈ L, ∀ r ∈ L, q.1 = r.1 → q = r := fun q hq r hr e => by
    have z := R.mem q hq
    rw [e] at z
    exact Prod.ext e (IsTupleKey.inj z (R.mem r hr))
  have nL := nodup_of_map R.one
  have p1 : L1.Perm L := by
    have nref : (L.map fun q => Value.ref q.1).Nodup := List.pairwise_map.mpr (nL.imp_of_mem fun hq hr n e => n (one _ hq _ hr (Value.ref.inj e)))
    have n1 : L1.Nodup := nodup_of_map (pm.nodup_iff.mpr nref)
    refine (List.perm_ext_iff_of_nodup n1 nL).mpr fun q => ⟨h1 q, fun hq => ?_⟩
    obtain ⟨r, hr, e⟩ := List.mem_map.mp (pm.mem_iff.mpr (List.mem_map.mpr ⟨q, hq, rfl⟩))
    rw [one q hq r (h1 r hr) (Value.ref.inj e).symm]
    exact hr
  have len1 : L1.length ≤ 76 := by rw [p1.length_eq]; exact few
  refine wpAny_bind (wpAny_newList ?_ (by rw [List.length_map, sizeLine_eq]; omega))
  have hoL : (s1.heap.push (seqObj "list" (L1.map fun q => Value.ref q.1).toArray 0)).get? s1.heap.objs.size = some (seqObj "list" (L1.map fun q => Value.ref q.1).toArray 0) := Heap.get?_push_size _ rfl
  have rd : ∀ q ∈ L, Reads (s1.heap.push (seqObj "list" (L1.map fun q => Value.ref q.1).toArray 0)) (.ref q.1) (encT q) [] := fun q hq => reads_tup (isT_keep (R.mem q hq) fun b u e => Heap.get?_push_of_some _ (k1 b u e))
  refine wpAny_bind (wpAny_holding (W.list_sort_data (bs := L1) (enc := encT) (R := fun v p => v = Value.ref p.1) hoL (each_refs L1) (each_mem fun q hq => ⟨[], rd q (h1 q hq), fun n => nomatch n⟩) ?_ (.inl ?_) (by rw [sizeLine_eq]; omega) ?_ ?_))
  · intro d hd d' hd'
    obtain ⟨p, _, rfl⟩ := List.mem_map.mp hd
    obtain ⟨q, _, rfl⟩ := List.mem_map.mp hd'
    exact W.alike_ints p.2 q.2
  · intro d hd
    obtain ⟨p, hp, rfl⟩ := List.mem_map.mp hd
    have z := ne p (h1 p hp)
    cases e : p.2 with
    | nil => exact absurd e z
    | cons x r => exact ⟨.int x, r.map .int, by rw [encT, e]; rfl⟩
  · intro p hp
    have z : (encT p).depth = 1 := by
      rw [encT]
      show PyData.depthAll (p.2.map PyData.int) + 1 = 1
      rw [W.depth_ints]
    rw [z]
    show A.units + 1 + 1 + 1 < cLine
    omega
  · intro out hl hE
    obtain ⟨c, hc⟩ := sortedHeap_at (out := out.toArray) hoL
    have e' := of_each hE
    refine wpAny_pure ⟨_, rfl, hQ _ s1.heap.objs.size out.toArray c (L1.mergeSort (W.dataLe false encT)) (fun b u e => ?_) g1 o1 hz hc e' ((List.mergeSort_perm _ _).trans p1) ?_⟩
    · have q := k1 b u e
      have hlt := Heap.lt_size q
      show (sortedHeap _ _ _ _).get? b = some u
      rw [sortedHeap_old (Nat.ne_of_lt hlt) (by rw [size_push']; exact Nat.lt_succ_of_lt hlt)]
      exact Heap.get?_push_of_some _ q
    · refine (W.sort_pairwise (W.sortLe_total _ _ _) L1).imp ?_
      intro p q h
      have z := le_enc p q
      rw [show W.dataLe false encT p q = true from h] at z
      intro lt
      rw [decide_eq_true lt] at z
      cases z
/-- sorted(s), s a set of tuples of ints, none of them empty -/
def rSortM (K : Frag) (P : Program) (w : World) : List V → Hp → VK → Prop := fun vs H Q => ∃ (a : Addr) (L : List (Addr × List Int)), vs = [.ref a] ∧ H a = some (BagO P w a L) ∧ (∀ p ∈ L, SqT K H p.1 (p.2.map V.int)) ∧ (∀ p ∈ L, p.2 ≠ []) ∧
  ∀ (L' : List (Addr × List Int)) (p : Addr), L'.Perm L → (L'.map (·.2)).Nodup → L'.length ≤ 76 → L'.Pairwise notAfter → H p = none → Q (.ref p) (upd H p (.lst (L'.map fun q => V.ref q.1)))
theorem sortMK {X : Cx} {K : Frag} {P : Program} {w : World} (e1 : X.K = K) (e2 : X.prog = P) (e3 : X.w = w) (hc : X.calm = true) (hu : X.A.units + 10 < cLine) : CallR X (.builtin "sorted") (rSortM K P w) := by
  subst e1 e2 e3
  rintro pins s σ H vs us Q I r ⟨a, L, rfl, ha, hk, ne, q⟩
  obtain ⟨es, ep, t, R⟩ := (I.hok a _ ha).1.full fun p hp => I.isT (hk p hp)
  rw [Vals.ref1 r]
  refine sortedM R (I.ok.hd hc) hu ne fun s' p out c L' k g o hp hg hout pm pw => ?_
  have few : L'.length ≤ 76 := by
    have fr := R.free
    rw [pm.length_eq]
    rcases R.tbl.mok with e | e | e <;> omega
  have hn := HOk.fresh I.hok hp
  have ok : ObjOk X.prog X.w (upd H p (.lst (L'.map fun q => V.ref q.1))) s'.heap p (.lst (L'.map fun q => V.ref q.1)) := by
    refine ⟨by rw [List.length_map, sizeLine_eq]; omega, out.toList, c, ?_, hg⟩
    rw [hout]
    exact vals_of_refs L'
  refine ⟨.ref p, upd H p (.lst (L'.map fun q => V.ref q.1)), ?_, rfl, q L' p pm ((pm.map (fun x => x.2)).nodup_iff.mpr R.one) few pw hn⟩
  obtain ⟨h', g', d', t', o'⟩ := s'
  obtain rfl : g' = s.gens := g
  obtain rfl : o' = s.os := o
  exact I.call' (ch := []) rfl (Un.laid k hp hn) (HOk.laid I.hok k hp ok) I.bare (fun b z => absurd z List.not_mem_nil)
end Hn

set_option maxHeartbeats 4000000
/-! A second reading of a program, without a heap: values are data (D), what is changed in place stands in a store (Sto) by numbers; an expression is a function of the names' data and the store.
Here: what data are, how they stand on the heap, and that they stay there. -/
namespace Pl
open PySem PySem.Spec PyProof.Rows L2
open PySem.W (Frag keepIn)
inductive D where
  | non
  | bl (b : Bool)
  | int (i : Int)
  | str (s : Str)
  | tup (xs : List D)
  /-- a list that nobody changes any more; one that is but read (the script) -/
  | lst (xs : List D) | rol (xs : List D)
  /-- a dict that nobody changes any more -/
  | dct (ks : List Key) (vs : List D)
  /-- what stands in the store -/
  | loc (n : Nat)
  /-- a def or a class of the text -/
  | nam (x : Str)
  /-- the error in hand -/
  | err (c : Str) (xs : List D)
inductive C where
  | lst (xs : List D)
  | dct (kvs : List (Key × D)) | dcT (kvs : List (List Key × D))
  | set (xs : List D)
  | ins (c : Str) (fs : List (Str × D))
abbrev Sto := List C
abbrev Env := List (Option D)
/-- an error: its class, its field -/
structure Er where
  cls : Str
  fs : List (Str × D)
inductive R (α : Type) where
  | ok (a : α) (st : Sto)
  | er (e : Er) (st : Sto)
  | no
def R.bind {α β : Type} (r : R α) (f : α → Sto → R β) : R β :=
  match r with
  | .ok a st => f a st
  | .er e st => .er e st
  | .no => .no
def R.post {α : Type} (r : R α) (P : α → Sto → Prop) (B : Er → Sto → Prop) : Prop :=
  match r with
  | .ok a st => P a st
  | .er e st => B e st
  | .no => False
theorem R.post_bind {α β : Type} {r : R α} {f : α → Sto → R β} {P : β → Sto → Prop} {B : Er → Sto → Prop} (h : (r.bind f).post P B) : r.post (fun a st => (f a st).post P B) B := by
  cases r with
  | ok a st => exact h
  | er e st => exact h
  | no => exact h
theorem R.post_mono {α : Type} {r : R α} {P P' : α → Sto → Prop} {B B' : Er → Sto → Prop} (h : r.post P B) (hP : ∀ a st, P a st → P' a st) (hB : ∀ e st, B e st → B' e st) : r.post P' B' := by
  cases r with
  | ok a st => exact hP _ _ h
  | er e st => exact hB _ _ h
  | no => exact h
@[simp] theorem R.ok_bind {α β : Type} (a : α) (st : Sto) (f : α → Sto → R β) : (R.ok a st).bind f = f a st := rfl
@[simp] theorem R.er_bind {α β : Type} (e : Er) (st : Sto) (f : α → Sto → R β) : (R.er e st : R α).bind f = .er e st := rfl
/-- what one looks through: the written part, the module's names, the error in hand -/
structure G where
  P : Program
  w : World
  K : Frag
  mg : Str → Option Value
  ea : Option (Addr × Option Addr)
  /-- the heap as the def found it -/
  h0 : Hp
/-- where the store's things stand; and lists that are being made, which no datum names -/
structure Mu where
  ls : List Addr
  pv : List Addr
def Mu.off (μ : Mu) (a : Addr) : Prop := a ∉ μ.ls ∧ a ∉ μ.pv
/-- o stands at a and nobody changes it -/
def Fz (μ : Mu) (H : Hp) (a : Addr) (o : HO) : Prop := μ.off a ∧ Rd H a o
def H0 : Hp := fun _ => none
mutual
def RV (g : G) (μ : Mu) (H : Hp) : D → V → Prop
  | .non, v => v = .non
  | .bl b, v => v = .bl b
  | .int i, v => v = .int i
  | .str s, v => v = .str s
  | .tup xs, v => ∃ a vs, v = .ref a ∧ (μ.off a ∧ H a = some (.tup vs)) ∧ RVs g μ H xs vs
  | .lst xs, v => ∃ a vs, v = .ref a ∧ (μ.off a ∧ H a = some (.lst vs)) ∧ RVs g μ H xs vs
  | .rol xs, v => ∃ a vs, v = .ref a ∧ (Fz μ H a (.lst vs) ∨ SqL g.K H0 a vs) ∧ RVs g μ H xs vs
  | .dct ks xs, v => ∃ a kvs, v = .ref a ∧ (μ.off a ∧ H a = some (.dK kvs)) ∧ kvs.map (·.1) = ks ∧ RVs g μ H xs (kvs.map (·.2))
  | .loc n, v => ∃ a, v = .ref a ∧ μ.ls[n]? = some a
  | .nam x, v => ∃ a, v = .ref a ∧ g.mg x = some (.ref a)
  | .err f xs, v => ∃ a vs, v = .ref a ∧ (∃ dd, g.ea = some (a, dd) ∧ ∀ b, dd = some b → μ.off b ∧ H b = some (exd b (vs.map fun y => (f, y)))) ∧ RVs g μ H xs vs
def RVs (g : G) (μ : Mu) (H : Hp) : List D → List V → Prop
  | [], vs => vs = []
  | d :: ds, vs => ∃ v r, vs = v :: r ∧ RV g μ H d v ∧ RVs g μ H ds r
end
/-- the heap has gone on: more in the store, what is not of the store stays -/
structure Go (μ : Mu) (H : Hp) (μ' : Mu) (H' : Hp) : Prop where
  ext : ∃ ν, μ'.ls = μ.ls ++ ν
  pv : μ'.pv = μ.pv
  new : ∀ a ∈ μ'.ls, a ∈ μ.ls ∨ H a = none
  keep : ∀ a o, a ∉ μ.ls → H a = some o → H' a = some o
def Rf (g : G) (μ : Mu) (H : Hp) : List (Str × D) → List (Str × V) → Prop := fun fs gs => fs.map (·.1) = gs.map (·.1) ∧ RVs g μ H (fs.map (·.2)) (gs.map (·.2))
def RC (g : G) (μ : Mu) (H : Hp) (a : Addr) : C → Prop
  | .lst xs => ∃ vs, H a = some (.lst vs) ∧ RVs g μ H xs vs
  | .dct ps => ∃ kvs, H a = some (.dK kvs) ∧ kvs.map (·.1) = ps.map (·.1) ∧ RVs g μ H (ps.map (·.2)) (kvs.map (·.2))
  | .dcT ps => ∃ kvs, H a = some (.dT kvs) ∧ kvs.map (·.1) = ps.map (·.1) ∧ RVs g μ H (ps.map (·.2)) (kvs.map (·.2))
  | .set xs => ∃ ns : List Int, xs = ns.map D.int ∧ ns.Nodup ∧ H a = some (SetO g.w a (fun j => decide (j ∈ ns)) ns.length)
  | .ins c fs => ∃ C dx gs, H a = some (.ins C dx gs) ∧ g.mg c = some (.ref C) ∧ Rf g μ H fs gs
/-- the store is held -/
structure RS (g : G) (μ : Mu) (H : Hp) (st : Sto) : Prop where
  len : μ.ls.length = st.length
  nd : μ.ls.Nodup
  at_ : ∀ (n : Nat) (c : C) (a : Addr), st[n]? = some c → μ.ls[n]? = some a → RC g μ H a c
  pvs : ∀ a ∈ μ.pv, a ∉ μ.ls ∧ ∃ o, H a = some o
  old : ∀ a, H a = none → g.h0 a = none
theorem none_upd {H : Hp} {p a : Addr} {o : HO} (h : upd H p o a = none) : H a = none := by
  by_cases z : a = p
  · rw [z, upd_same] at h; cases h
  · rw [upd_ne z] at h; exact h
theorem Go.refl {μ : Mu} {H : Hp} : Go μ H μ H := ⟨⟨[], by simp⟩, rfl, fun a h => .inl h, fun _ _ _ e => e⟩
theorem RC.some {g : G} {μ : Mu} {H : Hp} {a : Addr} {c : C} (h : RC g μ H a c) : ∃ o, H a = some o := by
  cases c with
  | lst xs => obtain ⟨vs, e, _⟩ := h; exact ⟨_, e⟩
  | dct ps => obtain ⟨vs, e, _⟩ := h; exact ⟨_, e⟩
  | dcT ps => obtain ⟨vs, e, _⟩ := h; exact ⟨_, e⟩
  | set xs => obtain ⟨_, _, _, e⟩ := h; exact ⟨_, e⟩
  | ins c fs => obtain ⟨_, _, _, e, _⟩ := h; exact ⟨_, e⟩
section
variable {g : G} {μ μ' μ2 : Mu} {H H' H2 : Hp} {st st' : Sto}
theorem Go.trans (x : Go μ H μ' H') (y : Go μ' H' μ2 H2) : Go μ H μ2 H2 := by
  obtain ⟨ν, e1⟩ := x.ext
  obtain ⟨ν2, e2⟩ := y.ext
  refine ⟨⟨ν ++ ν2, by rw [e2, e1, List.append_assoc]⟩, y.pv.trans x.pv, fun a ha => ?_, fun a o hn e => ?_⟩
  · rcases y.new a ha with h | h
    · exact x.new a h
    · by_cases hm : a ∈ μ.ls
      · exact .inl hm
      · refine .inr ?_
        cases q : H a with
        | none => rfl
        | some o =>
          have := x.keep a o hm q
          rw [h] at this
          cases this
  · have h1 := x.keep a o hn e
    refine y.keep a o (fun hm => ?_) h1
    rcases x.new a hm with z | z
    · exact hn z
    · rw [e] at z; cases z
theorem Go.out (x : Go μ H μ' H') {a : Addr} {o : HO} (hn : μ.off a) (e : H a = some o) : μ'.off a := by
  refine ⟨fun hm => ?_, by rw [x.pv]; exact hn.2⟩
  rcases x.new a hm with z | z
  · exact hn.1 z
  · rw [e] at z; cases z
theorem Go.at (x : Go μ H μ' H') {n : Nat} {a : Addr} (e : μ.ls[n]? = some a) : μ'.ls[n]? = some a := by
  obtain ⟨ν, q⟩ := x.ext
  rw [q, List.getElem?_append_left (List.getElem?_eq_some_iff.mp e).1]
  exact e
theorem Go.fz (x : Go μ H μ' H') {a : Addr} {o : HO} (h : Fz μ H a o) : Fz μ' H' a o := by
  obtain ⟨hn, h | ⟨u, h⟩⟩ := h
  · exact ⟨x.out hn h, .inl (x.keep _ _ hn.1 h)⟩
  · exact ⟨x.out hn h, .inr ⟨u, x.keep _ _ hn.1 h⟩⟩
mutual
theorem RV.go (x : Go μ H μ' H') : ∀ {d : D} {v : V}, RV g μ H d v → RV g μ' H' d v
  | .non, _, h => h
  | .bl _, _, h => h
  | .int _, _, h => h
  | .str _, _, h => h
  | .tup xs, _, h => by
    obtain ⟨a, vs, e, q, r⟩ := h
    exact ⟨a, vs, e, ⟨x.out q.1 q.2, x.keep _ _ q.1.1 q.2⟩, RVs.go x r⟩
  | .lst xs, _, h => by
    obtain ⟨a, vs, e, q, r⟩ := h
    exact ⟨a, vs, e, ⟨x.out q.1 q.2, x.keep _ _ q.1.1 q.2⟩, RVs.go x r⟩
  | .rol xs, _, h => by
    obtain ⟨a, vs, e, q, r⟩ := h
    exact ⟨a, vs, e, q.imp_left x.fz, RVs.go x r⟩
  | .dct ks xs, _, h => by
    obtain ⟨a, vs, e, q, k, r⟩ := h
    exact ⟨a, vs, e, ⟨x.out q.1 q.2, x.keep _ _ q.1.1 q.2⟩, k, RVs.go x r⟩
  | .loc n, _, h => by
    obtain ⟨a, e, q⟩ := h
    exact ⟨a, e, x.at q⟩
  | .nam _, _, h => h
  | .err f xs, _, h => by
    obtain ⟨a, vs, e, ⟨dd, ee, q⟩, r⟩ := h
    exact ⟨a, vs, e, ⟨dd, ee, fun b hb => ⟨x.out (q b hb).1 (q b hb).2, x.keep _ _ (q b hb).1.1 (q b hb).2⟩⟩, RVs.go x r⟩
theorem RVs.go (x : Go μ H μ' H') : ∀ {ds : List D} {vs : List V}, RVs g μ H ds vs → RVs g μ' H' ds vs
  | [], _, h => h
  | d :: ds, _, h => by
    obtain ⟨v, r, e, h1, h2⟩ := h
    exact ⟨v, r, e, RV.go x h1, RVs.go x h2⟩
end
theorem RVs.length : ∀ {ds : List D} {vs : List V}, RVs g μ H ds vs → vs.length = ds.length
  | [], _, h => by rw [show _ = [] from h]; rfl
  | d :: ds, _, h => by
    obtain ⟨v, r, rfl, _, h2⟩ := h
    rw [List.length_cons, List.length_cons, RVs.length h2]
theorem RVs.get {v : V} : ∀ {ds : List D} {vs : List V} {i : Nat}, RVs g μ H ds vs → vs[i]? = some v → ∃ d, ds[i]? = some d ∧ RV g μ H d v
  | [], _, i, h, e => by
    rw [show _ = [] from h] at e
    cases e
  | d :: ds, _, 0, h, e => by
    obtain ⟨y, r, rfl, h1, _⟩ := h
    cases e
    exact ⟨d, rfl, h1⟩
  | d :: ds, _, i + 1, h, e => by
    obtain ⟨y, r, rfl, _, h2⟩ := h
    exact RVs.get (ds := ds) (i := i) h2 e
theorem RVs.at {d : D} : ∀ {ds : List D} {vs : List V} {i : Nat}, RVs g μ H ds vs → ds[i]? = some d → ∃ v, vs[i]? = some v ∧ RV g μ H d v
  | [], _, i, h, e => by cases e
  | d' :: ds, _, 0, h, e => by
    obtain ⟨y, r, rfl, h1, _⟩ := h
    cases e
    exact ⟨y, rfl, h1⟩
  | d' :: ds, _, i + 1, h, e => by
    obtain ⟨y, r, rfl, _, h2⟩ := h
    exact RVs.at (ds := ds) (i := i) h2 e
theorem RVs.of : ∀ {ds : List D} {vs : List V}, vs.length = ds.length → (∀ (i : Nat) (d : D) (v : V), ds[i]? = some d → vs[i]? = some v → RV g μ H d v) → RVs g μ H ds vs
  | [], [], _, _ => rfl
  | d :: ds, x :: xs, l, h => ⟨x, xs, rfl, h 0 d x rfl rfl, RVs.of (by simpa using l) fun i d' x' e1 e2 => h (i + 1) d' x' e1 e2⟩
theorem RVs.app : ∀ {ds es : List D} {xs ys : List V}, RVs g μ H ds xs → RVs g μ H es ys → RVs g μ H (ds ++ es) (xs ++ ys)
  | [], _, _, _, h, k => by rw [show _ = [] from h]; exact k
  | d :: ds, _, _, _, h, k => by
    obtain ⟨x, r, rfl, h1, h2⟩ := h
    exact ⟨x, r ++ _, rfl, h1, RVs.app h2 k⟩
theorem RVs.pick {ds es : List D} {vs ws : List V} (f : Nat → Nat) (h : RVs g μ H ds vs) (l : ws.length = es.length) (e1 : ∀ i d, es[i]? = some d → ds[f i]? = some d) (e2 : ∀ i v, ws[i]? = some v → vs[f i]? = some v) : RVs g μ H es ws :=
  .of l fun i d v a b => by
    obtain ⟨d', e', r⟩ := h.get (e2 i v b)
    rw [e1 i d a] at e'
    cases e'
    exact r
theorem RVs.take (n : Nat) {ds : List D} {xs : List V} (h : RVs g μ H ds xs) : RVs g μ H (ds.take n) (xs.take n) :=
  h.pick id (by rw [List.length_take, List.length_take, h.length]) (fun i d e => by rw [List.getElem?_take] at e; split at e <;> simp_all) fun i d e => by rw [List.getElem?_take] at e; split at e <;> simp_all
theorem RVs.drop (n : Nat) {ds : List D} {xs : List V} (h : RVs g μ H ds xs) : RVs g μ H (ds.drop n) (xs.drop n) :=
  h.pick (n + ·) (by rw [List.length_drop, List.length_drop, h.length]) (fun i d e => by rw [List.getElem?_drop] at e; exact e) fun i d e => by rw [List.getElem?_drop] at e; exact e
theorem RVs.set {d : D} {v : V} (h1 : RV g μ H d v) : ∀ {ds : List D} {xs : List V} (n : Nat), RVs g μ H ds xs → RVs g μ H (ds.set n d) (xs.set n v)
  | [], _, _, h => by rw [show _ = [] from h]; rfl
  | e :: ds, _, 0, h => by
    obtain ⟨x, r, rfl, _, h2⟩ := h
    exact ⟨v, r, rfl, h1, h2⟩
  | e :: ds, _, n + 1, h => by
    obtain ⟨x, r, rfl, q, h2⟩ := h
    exact ⟨x, r.set n v, rfl, q, RVs.set h1 n h2⟩
theorem RVs.one {d : D} {v : V} (h : RV g μ H d v) : RVs g μ H [d] [v] := ⟨v, [], rfl, h, rfl⟩
theorem RVs.nil : RVs g μ H [] [] := rfl
theorem RVs.cons {d : D} {v : V} {ds : List D} {vs : List V} (h : RV g μ H d v) (k : RVs g μ H ds vs) : RVs g μ H (d :: ds) (v :: vs) := ⟨v, vs, rfl, h, k⟩
/-- a list of ints is a list of ints -/
theorem RVs.ints : ∀ {ns : List Int} {xs : List V}, RVs g μ H (ns.map D.int) xs → xs = ns.map V.int
  | [], _, h => h
  | n :: ns, _, h => by
    obtain ⟨x, r, rfl, h1, h2⟩ := h
    rw [show x = V.int n from h1, RVs.ints h2]
    rfl
theorem RVs.ofInts : ∀ (ns : List Int), RVs g μ H (ns.map D.int) (ns.map V.int)
  | [] => rfl
  | n :: ns => ⟨_, _, rfl, rfl, RVs.ofInts ns⟩
theorem RVs.bls : ∀ {ns : List Bool} {xs : List V}, RVs g μ H (ns.map D.bl) xs → xs = ns.map V.bl
  | [], _, h => h
  | n :: ns, _, h => by
    obtain ⟨x, r, rfl, h1, h2⟩ := h
    rw [show x = V.bl n from h1, RVs.bls h2]
    rfl
theorem RVs.strs : ∀ {ns : List Str} {xs : List V}, RVs g μ H (ns.map D.str) xs → xs = ns.map V.str
  | [], _, h => h
  | n :: ns, _, h => by
    obtain ⟨x, r, rfl, h1, h2⟩ := h
    rw [show x = V.str n from h1, RVs.strs h2]
    rfl
theorem SqT.of0 {K : Frag} {a : Addr} {vs : List V} (h : SqT K H0 a vs) : SqT K H a vs := by
  rcases h with (h | ⟨_, h⟩) | h
  · cases h
  · cases h
  · exact .inr h
theorem SqL.of0 {K : Frag} {a : Addr} {vs : List V} (h : SqL K H0 a vs) : SqL K H a vs := by
  rcases h with (h | ⟨_, h⟩) | h
  · cases h
  · cases h
  · exact .inr h
theorem sqL_of {K : Frag} {a : Addr} {vs : List V} (h : Fz μ H a (.lst vs) ∨ SqL K H0 a vs) : SqL K H a vs := h.elim (fun h => .inl h.2) SqL.of0
theorem RS.some (S : RS g μ H st) {a : Addr} (h : a ∈ μ.ls) : ∃ o, H a = some o := by
  obtain ⟨n, hn, e⟩ := List.getElem_of_mem h
  have h1 : μ.ls[n]? = .some a := by rw [List.getElem?_eq_getElem hn, e]
  have h2 : n < st.length := by rw [← S.len]; exact hn
  exact (S.at_ n st[n] a (List.getElem?_eq_getElem h2) h1).some
theorem RS.off (S : RS g μ H st) {a : Addr} (h : H a = none) : μ.off a := by
  refine ⟨fun hm => ?_, fun hm => ?_⟩
  · obtain ⟨o, e⟩ := S.some hm
    rw [h] at e
    cases e
  · obtain ⟨_, o, e⟩ := S.pvs a hm
    rw [h] at e
    cases e
theorem RS.addr (S : RS g μ H st) {n : Nat} {c : C} (e : st[n]? = .some c) : ∃ a, μ.ls[n]? = .some a ∧ RC g μ H a c := by
  have hn := (List.getElem?_eq_some_iff.mp e).1
  rw [← S.len] at hn
  exact ⟨μ.ls[n], List.getElem?_eq_getElem hn, S.at_ n c _ e (List.getElem?_eq_getElem hn)⟩
theorem RC.go (x : Go μ H μ' H') {a : Addr} (k : H' a = H a) : ∀ {c : C}, RC g μ H a c → RC g μ' H' a c
  | .lst xs, h => by
    obtain ⟨vs, e, r⟩ := h
    exact ⟨vs, k.trans e, r.go x⟩
  | .dct ps, h => by
    obtain ⟨vs, e, q, r⟩ := h
    exact ⟨vs, k.trans e, q, r.go x⟩
  | .dcT ps, h => by
    obtain ⟨vs, e, q, r⟩ := h
    exact ⟨vs, k.trans e, q, r.go x⟩
  | .set xs, h => by obtain ⟨ns, e, q, r⟩ := h; exact ⟨ns, e, q, k.trans r⟩
  | .ins c fs, h => by
    obtain ⟨C, dx, gs, e, q, r⟩ := h
    exact ⟨C, dx, gs, k.trans e, q, r.1, r.2.go x⟩
/-- a new object that is none of the store's -/
theorem Go.side (S : RS g μ H st) {p : Addr} {o : HO} (h : H p = none) : Go μ H μ (upd H p o) := ⟨⟨[], by simp⟩, rfl, fun a h => .inl h, fun a u hn e => by rw [upd_ne (ne_of_none e h)]; exact e⟩
theorem RS.side (S : RS g μ H st) {p : Addr} {o : HO} (h : H p = none) : RS g μ (upd H p o) st := ⟨S.len, S.nd, fun n c a e1 e2 => (S.at_ n c a e1 e2).go (Go.side S h) (by
  obtain ⟨u, e⟩ := (S.at_ n c a e1 e2).some
  rw [upd_ne (ne_of_none e h)]), fun a ha => ⟨(S.pvs a ha).1, by
  obtain ⟨_, u, e⟩ := S.pvs a ha
  exact ⟨u, by rw [upd_ne (ne_of_none e h)]; exact e⟩⟩, fun a e => S.old a (none_upd e)⟩
theorem Fz.new (S : RS g μ H st) {p : Addr} {o : HO} (h : H p = none) : Fz μ (upd H p o) p o := ⟨S.off h, .inl upd_same⟩
/-- a new object of the store -/
def Mu.push (μ : Mu) (p : Addr) : Mu := ⟨μ.ls ++ [p], μ.pv⟩
theorem Go.push {p : Addr} {o : HO} (h : H p = none) : Go μ H (μ.push p) (upd H p o) := ⟨⟨[p], rfl⟩, rfl, fun a ha => by
  rcases List.mem_append.mp ha with z | z
  · exact .inl z
  · rw [List.mem_singleton.mp z]; exact .inr h, fun a u hn e => by rw [upd_ne (ne_of_none e h)]; exact e⟩
theorem RS.push (S : RS g μ H st) {p : Addr} {o : HO} {c : C} (h : H p = none) (k : RC g (μ.push p) (upd H p o) p c) : RS g (μ.push p) (upd H p o) (st ++ [c]) := by
  refine ⟨by unfold Mu.push; rw [List.length_append, List.length_append, S.len]; rfl, ?_, fun n c' a e1 e2 => ?_, fun a ha => ⟨fun hm => ?_, ?_⟩, fun a e => S.old a (none_upd e)⟩
  · unfold Mu.push
    rw [List.nodup_append]
    exact ⟨S.nd, by simp, fun a ha b hb e => (S.off h).1 (by rw [List.mem_singleton.mp hb] at e; rw [← e]; exact ha)⟩
  · unfold Mu.push at e2
    rcases Nat.lt_or_ge n μ.ls.length with hn | hn
    · rw [List.getElem?_append_left hn] at e2
      rw [List.getElem?_append_left (by rw [← S.len]; exact hn)] at e1
      refine (S.at_ n c' a e1 e2).go (Go.push h) ?_
      obtain ⟨u, e⟩ := (S.at_ n c' a e1 e2).some
      rw [upd_ne (ne_of_none e h)]
    · rw [List.getElem?_append_right hn] at e2
      rw [List.getElem?_append_right (by rw [← S.len]; exact hn)] at e1
      have e3 : n - μ.ls.length = 0 := by
        rcases Nat.eq_zero_or_pos (n - μ.ls.length) with z | z
        · exact z
        · rw [List.getElem?_eq_none_iff.mpr (Nat.succ_le_of_lt z)] at e2
          cases e2
      rw [e3] at e2
      rw [← S.len, e3] at e1
      obtain rfl := Option.some.inj e1
      obtain rfl := Option.some.inj e2
      exact k
  · rcases List.mem_append.mp hm with z | z
    · exact (S.pvs a ha).1 z
    · obtain ⟨_, u, e⟩ := S.pvs a ha
      rw [List.mem_singleton.mp z, h] at e
      cases e
  · obtain ⟨_, u, e⟩ := S.pvs a ha
    exact ⟨u, by rw [upd_ne (ne_of_none e h)]; exact e⟩
theorem at_push {p : Addr} (S : RS g μ H st) : (μ.push p).ls[st.length]? = .some p := by
  show (μ.ls ++ [p])[st.length]? = _
  rw [← S.len, List.getElem?_append_right (Nat.le_refl _), Nat.sub_self]
  rfl
/-- an object of the store is changed -/
theorem Go.mut {n : Nat} {a : Addr} {o : HO} (e : μ.ls[n]? = .some a) : Go μ H μ (upd H a o) := ⟨⟨[], by simp⟩, rfl, fun _ h => .inl h, fun b u hn q => by
  rw [upd_ne fun z => hn (by rw [z]; exact List.mem_of_getElem? e)]
  exact q⟩
theorem RS.mut (S : RS g μ H st) {n : Nat} {a : Addr} {o : HO} {c : C} (e : μ.ls[n]? = .some a) (k : RC g μ (upd H a o) a c) : RS g μ (upd H a o) (st.set n c) := by
  refine ⟨by rw [List.length_set, S.len], S.nd, fun m c' b e1 e2 => ?_, fun b hb => ⟨(S.pvs b hb).1, ?_⟩, fun a e => S.old a (none_upd e)⟩
  · by_cases h : m = n
    · subst h
      rw [e] at e2
      obtain rfl := Option.some.inj e2
      have hn : m < st.length := by rw [← S.len]; exact (List.getElem?_eq_some_iff.mp e).1
      rw [List.getElem?_set_self hn] at e1
      obtain rfl := Option.some.inj e1
      exact k
    · rw [List.getElem?_set_ne (Ne.symm h)] at e1
      refine (S.at_ m c' b e1 e2).go (Go.mut e) ?_
      rw [upd_ne fun z => ?_]
      subst z
      obtain ⟨i1, j1⟩ := List.getElem?_eq_some_iff.mp e
      obtain ⟨i2, j2⟩ := List.getElem?_eq_some_iff.mp e2
      exact h ((List.getElem_inj S.nd).mp (j2.trans j1.symm))
  · obtain ⟨n1, u, q⟩ := S.pvs b hb
    exact ⟨u, by rw [upd_ne fun z => n1 (by rw [z]; exact List.mem_of_getElem? e)]; exact q⟩
/-! ### a list that is being made -/
def Mu.hide (μ : Mu) (p : Addr) : Mu := ⟨μ.ls, p :: μ.pv⟩
theorem off_hide {p a : Addr} {o : HO} (h : H p = none) (k : μ.off a) (e : H a = .some o) : (μ.hide p).off a := ⟨k.1, fun z => by
  rcases List.mem_cons.mp z with z | z
  · rw [z, h] at e; cases e
  · exact k.2 z⟩
theorem Fz.hide {p a : Addr} {o : HO} (h : H p = none) (k : Fz μ H a o) : Fz (μ.hide p) H a o := by
  obtain ⟨k, e | ⟨u, e⟩⟩ := k
  · exact ⟨off_hide h k e, .inl e⟩
  · exact ⟨off_hide h k e, .inr ⟨u, e⟩⟩
mutual
theorem RV.hide {p : Addr} (h : H p = none) : ∀ {d : D} {v : V}, RV g μ H d v → RV g (μ.hide p) H d v
  | .non, _, h => h
  | .bl _, _, h => h
  | .int _, _, h => h
  | .str _, _, h => h
  | .tup xs, _, k => by obtain ⟨a, vs, e, q, r⟩ := k; exact ⟨a, vs, e, ⟨off_hide h q.1 q.2, q.2⟩, RVs.hide h r⟩
  | .lst xs, _, k => by obtain ⟨a, vs, e, q, r⟩ := k; exact ⟨a, vs, e, ⟨off_hide h q.1 q.2, q.2⟩, RVs.hide h r⟩
  | .rol xs, _, k => by obtain ⟨a, vs, e, q, r⟩ := k; exact ⟨a, vs, e, q.imp_left (Fz.hide h), RVs.hide h r⟩
  | .dct ks xs, _, k => by obtain ⟨a, vs, e, q, k, r⟩ := k; exact ⟨a, vs, e, ⟨off_hide h q.1 q.2, q.2⟩, k, RVs.hide h r⟩
  | .loc n, _, k => k
  | .nam _, _, k => k
  | .err f xs, _, k => by obtain ⟨a, vs, e, ⟨dd, ee, q⟩, r⟩ := k; exact ⟨a, vs, e, ⟨dd, ee, fun b hb => ⟨off_hide h (q b hb).1 (q b hb).2, (q b hb).2⟩⟩, RVs.hide h r⟩
theorem RVs.hide {p : Addr} (h : H p = none) : ∀ {ds : List D} {vs : List V}, RVs g μ H ds vs → RVs g (μ.hide p) H ds vs
  | [], _, k => k
  | d :: ds, _, k => by obtain ⟨v, r, e, h1, h2⟩ := k; exact ⟨v, r, e, RV.hide h h1, RVs.hide h h2⟩
end
theorem off_show {p a : Addr} (k : (μ.hide p).off a) : μ.off a := ⟨k.1, fun z => k.2 (List.mem_cons_of_mem _ z)⟩
mutual
theorem RV.show' {p : Addr} : ∀ {d : D} {v : V}, RV g (μ.hide p) H d v → RV g μ H d v
  | .non, _, h => h
  | .bl _, _, h => h
  | .int _, _, h => h
  | .str _, _, h => h
  | .tup xs, _, k => by obtain ⟨a, vs, e, q, r⟩ := k; exact ⟨a, vs, e, ⟨off_show q.1, q.2⟩, RVs.show' r⟩
  | .lst xs, _, k => by obtain ⟨a, vs, e, q, r⟩ := k; exact ⟨a, vs, e, ⟨off_show q.1, q.2⟩, RVs.show' r⟩
  | .rol xs, _, k => by obtain ⟨a, vs, e, q, r⟩ := k; exact ⟨a, vs, e, q.imp_left fun q => ⟨off_show q.1, q.2⟩, RVs.show' r⟩
  | .dct ks xs, _, k => by obtain ⟨a, vs, e, q, k, r⟩ := k; exact ⟨a, vs, e, ⟨off_show q.1, q.2⟩, k, RVs.show' r⟩
  | .loc n, _, k => k
  | .nam _, _, k => k
  | .err f xs, _, k => by obtain ⟨a, vs, e, ⟨dd, ee, q⟩, r⟩ := k; exact ⟨a, vs, e, ⟨dd, ee, fun b hb => ⟨off_show (q b hb).1, (q b hb).2⟩⟩, RVs.show' r⟩
theorem RVs.show' {p : Addr} : ∀ {ds : List D} {vs : List V}, RVs g (μ.hide p) H ds vs → RVs g μ H ds vs
  | [], _, k => k
  | d :: ds, _, k => by obtain ⟨v, r, e, h1, h2⟩ := k; exact ⟨v, r, e, RV.show' h1, RVs.show' h2⟩
end
theorem rd_hid {p a : Addr} {o u : HO} (hp : p ∈ μ.pv) (k : μ.off a) (e : Rd H a u) : Rd (upd H p o) a u := by
  have ne : a ≠ p := fun z => k.2 (by rw [z]; exact hp)
  rcases e with e | ⟨w, e⟩
  · exact .inl (by rw [upd_ne ne]; exact e)
  · exact .inr ⟨w, by rw [upd_ne ne]; exact e⟩
theorem at_hid {p a : Addr} {o u : HO} (hp : p ∈ μ.pv) (k : μ.off a) (e : H a = .some u) : upd H p o a = .some u := by
  rw [upd_ne fun z => k.2 (by rw [z]; exact hp)]
  exact e
mutual
theorem RV.hid {p : Addr} {o : HO} (hp : p ∈ μ.pv) : ∀ {d : D} {v : V}, RV g μ H d v → RV g μ (upd H p o) d v
  | .non, _, h => h
  | .bl _, _, h => h
  | .int _, _, h => h
  | .str _, _, h => h
  | .tup xs, _, k => by obtain ⟨a, vs, e, q, r⟩ := k; exact ⟨a, vs, e, ⟨q.1, at_hid hp q.1 q.2⟩, RVs.hid hp r⟩
  | .lst xs, _, k => by obtain ⟨a, vs, e, q, r⟩ := k; exact ⟨a, vs, e, ⟨q.1, at_hid hp q.1 q.2⟩, RVs.hid hp r⟩
  | .rol xs, _, k => by obtain ⟨a, vs, e, q, r⟩ := k; exact ⟨a, vs, e, q.imp_left fun q => ⟨q.1, rd_hid hp q.1 q.2⟩, RVs.hid hp r⟩
  | .dct ks xs, _, k => by obtain ⟨a, vs, e, q, k, r⟩ := k; exact ⟨a, vs, e, ⟨q.1, at_hid hp q.1 q.2⟩, k, RVs.hid hp r⟩
  | .loc n, _, k => k
  | .nam _, _, k => k
  | .err f xs, _, k => by obtain ⟨a, vs, e, ⟨dd, ee, q⟩, r⟩ := k; exact ⟨a, vs, e, ⟨dd, ee, fun b hb => ⟨(q b hb).1, at_hid hp (q b hb).1 (q b hb).2⟩⟩, RVs.hid hp r⟩
theorem RVs.hid {p : Addr} {o : HO} (hp : p ∈ μ.pv) : ∀ {ds : List D} {vs : List V}, RVs g μ H ds vs → RVs g μ (upd H p o) ds vs
  | [], _, k => k
  | d :: ds, _, k => by obtain ⟨v, r, e, h1, h2⟩ := k; exact ⟨v, r, e, RV.hid hp h1, RVs.hid hp h2⟩
end
theorem RC.map {g : G} {μ μ' : Mu} {H H' : Hp} {a : Addr} (k : H' a = H a) (f : ∀ ds vs, RVs g μ H ds vs → RVs g μ' H' ds vs) : ∀ {c : C}, RC g μ H a c → RC g μ' H' a c
  | .lst xs, h => by obtain ⟨vs, e, r⟩ := h; exact ⟨vs, k.trans e, f _ _ r⟩
  | .dct ps, h => by obtain ⟨vs, e, q, r⟩ := h; exact ⟨vs, k.trans e, q, f _ _ r⟩
  | .dcT ps, h => by obtain ⟨vs, e, q, r⟩ := h; exact ⟨vs, k.trans e, q, f _ _ r⟩
  | .set xs, h => by obtain ⟨ns, e, q, r⟩ := h; exact ⟨ns, e, q, k.trans r⟩
  | .ins c fs, h => by obtain ⟨C, dx, gs, e, q, r⟩ := h; exact ⟨C, dx, gs, k.trans e, q, r.1, f _ _ r.2⟩
theorem RS.hide (S : RS g μ H st) {p : Addr} {o : HO} (h : H p = none) : RS g (μ.hide p) (upd H p o) st := by
  have S1 := S.side (p := p) (o := o) h
  refine ⟨S.len, S.nd, fun n c a e1 e2 => ?_, fun a ha => ?_, S1.old⟩
  · have k := S.at_ n c a e1 e2
    obtain ⟨u, e⟩ := k.some
    refine k.map (by rw [upd_ne (ne_of_none e h)]) fun ds vs r => RVs.hid List.mem_cons_self (RVs.hide h r)
  · rcases List.mem_cons.mp ha with z | z
    · rw [z]; exact ⟨(S.off h).1, o, upd_same⟩
    · exact S1.pvs a z
theorem RS.hid (S : RS g μ H st) {p : Addr} {o : HO} (hp : p ∈ μ.pv) : RS g μ (upd H p o) st := by
  refine ⟨S.len, S.nd, fun n c a e1 e2 => ?_, fun a ha => ⟨(S.pvs a ha).1, ?_⟩, fun a e => S.old a (none_upd e)⟩
  · refine (S.at_ n c a e1 e2).map ?_ fun ds vs r => RVs.hid hp r
    rw [upd_ne fun z => (S.pvs p hp).1 (by rw [← z]; exact List.mem_of_getElem? e2)]
  · by_cases z : a = p
    · rw [z]; exact ⟨o, upd_same⟩
    · rw [upd_ne z]; exact (S.pvs a ha).2
theorem RS.show' {p : Addr} (S : RS g (μ.hide p) H st) : RS g μ H st := ⟨S.len, S.nd, fun n c a e1 e2 => (S.at_ n c a e1 e2).map rfl fun ds vs r => RVs.show' r, fun a ha => S.pvs a (List.mem_cons_of_mem _ ha), S.old⟩
end
/-- the names' data and the store, held by the slots and the heap -/
structure Rel (g : G) (μ : Mu) (σ : L2.St) (H : Hp) (ρ : Env) (st : Sto) : Prop where
  len : σ.length = ρ.length
  slot : ∀ (i : Nat) (d : D), ρ[i]? = some (some d) → ∃ v, σ[i]? = some (some v) ∧ RV g μ H d v
  sto : RS g μ H st
theorem Rel.go {g : G} {μ μ' : Mu} {σ : L2.St} {H H' : Hp} {ρ : Env} {st st' : Sto} (r : Rel g μ σ H ρ st) (x : Go μ H μ' H') (S : RS g μ' H' st') : Rel g μ' σ H' ρ st' := ⟨r.len, fun i d e => by
  obtain ⟨v, h1, h2⟩ := r.slot i d e
  exact ⟨v, h1, h2.go x⟩, S⟩
theorem Rel.set {g : G} {μ : Mu} {σ : L2.St} {H : Hp} {ρ : Env} {st : Sto} (r : Rel g μ σ H ρ st) {i : Nat} {d : D} {v : V} (h : RV g μ H d v) : Rel g μ (σ.set i (some v)) H (ρ.set i (some d)) st := by
  refine ⟨by rw [List.length_set, List.length_set, r.len], fun j d' e => ?_, r.sto⟩
  by_cases z : j = i
  · subst z
    have hj : j < ρ.length := by
      have := (List.getElem?_eq_some_iff.mp e).1
      rwa [List.length_set] at this
    rw [List.getElem?_set_self hj] at e
    obtain rfl := Option.some.inj (Option.some.inj e)
    exact ⟨v, List.getElem?_set_self (by rw [r.len]; exact hj), h⟩
  · rw [List.getElem?_set_ne (Ne.symm z)] at e
    obtain ⟨v', h1, h2⟩ := r.slot j d' e
    exact ⟨v', by rw [List.getElem?_set_ne (Ne.symm z)]; exact h1, h2⟩
/-- an error's class and field on the heap -/
def RErr (g : G) (μ : Mu) (H : Hp) (e : Er) (cls : Value) (dd : Option Addr) : Prop :=
  ∃ C, g.mg e.cls = some (.ref C) ∧ cls = .ref C ∧ ((e.fs = [] ∧ dd = none) ∨ ∃ f d a v, e.fs = [(f, d)] ∧ dd = some a ∧ (μ.off a ∧ H a = some (exd a [(f, v)])) ∧ RV g μ H d v)
/-! ### the readings -/
section
variable {α β : Type} (g : G) (W : WX)
/-- a result that is held: what follows may go on -/
def PostG (σ : L2.St) (μ : Mu) (H : Hp) (Rp : Mu → Hp → α → β → Prop) (r : R α) (Q : β → Hp → Prop) : Prop :=
  r.post (fun a st' => ∀ μ' b H', Go μ H μ' H' → RS g μ' H' st' → Rp μ' H' a b → Q b H') (fun e st' => ∀ μ' H' cls dd, Go μ H μ' H' → RS g μ' H' st' → RErr g μ' H' e cls dd → W cls dd σ H')
def tG (Rp : Mu → Hp → α → β → Prop) (m : Env → Sto → R α) : L2.St → Hp → (β → Hp → Prop) → Prop := fun σ H Q => ∃ μ ρ st, Rel g μ σ H ρ st ∧ PostG g W σ μ H Rp (m ρ st) Q
def RB : Mu → Hp → Bool → Bool → Prop := fun _ _ a b => b = a
abbrev tOf (m : Env → Sto → R D) : TE := tG g W (RV g) m
abbrev tTOf (m : Env → Sto → R Bool) : TT := tG g W RB m
abbrev tAOf (m : Env → Sto → R (List D)) : TA := tG g W (RVs g) m
end
section
variable {α α2 β β2 : Type} {g : G} {W : WX} {σ : L2.St} {μ μ1 : Mu} {H H1 : Hp} {Rp : Mu → Hp → α → β → Prop} {Rp2 : Mu → Hp → α2 → β2 → Prop} {ρ : Env} {st : Sto}
theorem PostG.base {r : R α} {Q : β → Hp → Prop} (x : Go μ H μ1 H1) (p : PostG g W σ μ H Rp r Q) : PostG g W σ μ1 H1 Rp r Q :=
  R.post_mono p (fun a st' q μ' b H' go => q μ' b H' (x.trans go)) fun e st' q μ' H' cls dd go => q μ' H' cls dd (x.trans go)
theorem PostG.done {a : α} {b : β} {Q : β → Hp → Prop} (p : PostG g W σ μ H Rp (.ok a st) Q) (x : Go μ H μ1 H1) (S : RS g μ1 H1 st) (r : Rp μ1 H1 a b) : Q b H1 := p μ1 b H1 x S r
theorem PostG.now {a : α} {b : β} {Q : β → Hp → Prop} (p : PostG g W σ μ H Rp (.ok a st) Q) (S : RS g μ H st) (r : Rp μ H a b) : Q b H := p μ b H Go.refl S r
theorem tG_bind {m : Env → Sto → R α} {k : α → Sto → R α2} {Q : β2 → Hp → Prop} {Kt : β → Hp → Prop} (rel : Rel g μ σ H ρ st) (p : PostG g W σ μ H Rp2 ((m ρ st).bind k) Q)
    (c : ∀ μ1 a st1 x H1, Go μ H μ1 H1 → Rel g μ1 σ H1 ρ st1 → Rp μ1 H1 a x → PostG g W σ μ1 H1 Rp2 (k a st1) Q → Kt x H1) : tG g W Rp m σ H Kt :=
  ⟨μ, ρ, st, rel, R.post_mono (R.post_bind p) (fun a st1 q μ1 x H1 go S rv => c μ1 a st1 x H1 go (rel.go go S) rv (PostG.base go q)) fun _ _ q => q⟩
theorem R.post_eq {r : R α} {P : α → Sto → Prop} {B : Er → Sto → Prop} (h : r.post P B) : r.post (fun a st => r = .ok a st ∧ P a st) B := by
  cases r with
  | ok a st => exact ⟨rfl, h⟩
  | er e st => exact h
  | no => exact h
theorem tG_bindE {m : Env → Sto → R α} {k : α → Sto → R α2} {Q : β2 → Hp → Prop} {Kt : β → Hp → Prop} (rel : Rel g μ σ H ρ st) (p : PostG g W σ μ H Rp2 ((m ρ st).bind k) Q)
    (c : ∀ μ1 a st1 x H1, m ρ st = .ok a st1 → Go μ H μ1 H1 → Rel g μ1 σ H1 ρ st1 → Rp μ1 H1 a x → PostG g W σ μ1 H1 Rp2 (k a st1) Q → Kt x H1) : tG g W Rp m σ H Kt :=
  ⟨μ, ρ, st, rel, R.post_mono (R.post_eq (R.post_bind p)) (fun a st1 q μ1 x H1 go S rv => c μ1 a st1 x H1 q.1 go (rel.go go S) rv (PostG.base go q.2)) fun _ _ q => q⟩
end
theorem _root_.L2.PE.imp {X : Cx} {e : Expr} {t t' : TE} (h : PE X e t) (k : ∀ σ H Q, t' σ H Q → t σ H Q) : PE X e t' := ⟨fun pins s σ H Q I q => h.run pins s σ H Q I (k _ _ _ q)⟩
theorem _root_.L2.PT.imp {X : Cx} {e : Expr} {t t' : TT} (h : PT X e t) (k : ∀ σ H Q, t' σ H Q → t σ H Q) : PT X e t' := ⟨fun pins s σ H Q I q => h.run pins s σ H Q I (k _ _ _ q)⟩
theorem _root_.L2.PW.imp {X : Cx} {e : Expr} {t t' : TT} (h : PW X e t) (k : ∀ σ H Q, t' σ H Q → t σ H Q) : PW X e t' := ⟨fun wh pins s σ H Q I q => h.run wh pins s σ H Q I (k _ _ _ q)⟩
theorem _root_.L2.PA.imp {X : Cx} {e : List Expr} {t t' : TA} (h : PA X e t) (k : ∀ σ H Q, t' σ H Q → t σ H Q) : PA X e t' := ⟨fun po pins s σ H Q I q => h.run po pins s σ H Q I (k _ _ _ q)⟩
theorem _root_.L2.PS.imp {X : Cx} {e : Stmt} {t t' : TS} (h : PS X e t) (k : ∀ D σ H, t' D σ H → t D σ H) : PS X e t' := ⟨fun pins s σ H Q I q => h.run pins s σ H Q I (k _ _ _ q)⟩
theorem _root_.L2.PSs.imp {X : Cx} {e : List Stmt} {t t' : TS} (h : PSs X e t) (k : ∀ D σ H, t' D σ H → t D σ H) : PSs X e t' := ⟨fun pins s σ H Q I q => h.run pins s σ H Q I (k _ _ _ q)⟩
abbrev PM (g : G) (W : WX) (X : Cx) (e : Expr) (m : Env → Sto → R D) : Prop := PE X e (tOf g W m)
abbrev PMT (g : G) (W : WX) (X : Cx) (e : Expr) (m : Env → Sto → R Bool) : Prop := PT X e (tTOf g W m)
abbrev PMW (g : G) (W : WX) (X : Cx) (e : Expr) (m : Env → Sto → R Bool) : Prop := PW X e (tTOf g W m)
abbrev PMA (g : G) (W : WX) (X : Cx) (e : List Expr) (m : Env → Sto → R (List D)) : Prop := PA X e (tAOf g W m)
end Pl

set_option maxHeartbeats 4000000
/-! d in t, t a tuple of data -/
namespace Hn
open PySem PySem.Spec PyProof.Rows L2 EF
open PySem.W (Frag keepIn)
def rInT (K : Frag) : R2 := fun x y H Q => ∃ d ds, Dp K H x d ∧ Dp K H y (.tuple ds) ∧ SeqAt.shaped d = true ∧ SeqAt.shaped (.tuple ds) = true ∧ Q (.bl (ds.any fun z => PyData.eqv z d)) H
theorem op_inT {X : Cx} {K : Frag} (e : X.K = K) (hu : X.A.units + 65 < cLine) : OpR X (compareOp .In) (rInT K) := by
  subst e
  rintro pins s σ H x y v u Q I rx ry ⟨d, ds, hd, he, sd, se, q⟩
  obtain ⟨_, r1⟩ := Dp.reads I d x v hd rx
  obtain ⟨_, r2⟩ := Dp.reads I (.tuple ds) y u he ry
  exact SeqAt.in_tuple_reads r2 r1 (SeqAt.canLay_of_shaped se) (SeqAt.canLay_of_shaped sd) (room_in_shaped sd hu) ⟨.bl _, H, I, rfl, q⟩
def rNotInT (K : Frag) : R2 := fun x y H Q => ∃ d ds, Dp K H x d ∧ Dp K H y (.tuple ds) ∧ SeqAt.shaped d = true ∧ SeqAt.shaped (.tuple ds) = true ∧ Q (.bl (!ds.any fun z => PyData.eqv z d)) H
theorem op_notInT {X : Cx} {K : Frag} (e : X.K = K) (hu : X.A.units + 65 < cLine) : OpR X (compareOp .NotIn) (rNotInT K) := by
  subst e
  rintro pins s σ H x y v u Q I rx ry ⟨d, ds, hd, he, sd, se, q⟩
  obtain ⟨_, r1⟩ := Dp.reads I d x v hd rx
  obtain ⟨_, r2⟩ := Dp.reads I (.tuple ds) y u he ry
  exact SeqAt.notIn_tuple_reads r2 r1 (SeqAt.canLay_of_shaped se) (SeqAt.canLay_of_shaped sd) (room_in_shaped sd hu) ⟨.bl _, H, I, rfl, q⟩
end Hn

set_option maxHeartbeats 4000000
/-! expressions: names, constants, operators, comparisons, tests, displays -/
namespace Pl
open PySem PySem.Spec PyProof.Rows L2 Hn
open PySem.W (Frag keepIn)
abbrev lim : Nat := 16000000
theorem lim_le {n : Nat} (h : n ≤ lim) : n ≤ sizeLine := Nat.le_trans h (by rw [sizeLine_eq]; decide)
theorem lim_lt {n : Nat} (h : n ≤ lim) : n < sizeLine := Nat.lt_of_le_of_lt h (by rw [sizeLine_eq]; decide)
@[irreducible] def guardR {α : Type} (c : Prop) [Decidable c] (r : R α) : R α := if c then r else .no
@[simp] theorem guardR_true {α : Type} {c : Prop} [Decidable c] {r : R α} (h : c) : guardR c r = r := by unfold guardR; exact if_pos h
theorem post_guard {α β : Type} {g : G} {W : WX} {σ : L2.St} {μ : Mu} {H : Hp} {Rp : Mu → Hp → α → β → Prop} {Q : β → Hp → Prop} {c : Prop} {_ : Decidable c} {r : R α} (h : PostG g W σ μ H Rp (guardR c r) Q) : c ∧ PostG g W σ μ H Rp r Q := by
  unfold guardR at h
  split at h
  · exact ⟨‹_›, h⟩
  · exact h.elim
/-- two rules for one operator -/
theorem orOp {X : Cx} {o : Value → Value → Sem Value} {r1 r2 : R2} (h1 : OpR X o r1) (h2 : OpR X o r2) : OpR X o (fun x y H Q => r1 x y H Q ∨ r2 x y H Q) := fun pins s σ H x y v u Q I rx ry h => h.elim (h1 pins s σ H x y v u Q I rx ry) (h2 pins s σ H x y v u Q I rx ry)
theorem orCall {X : Cx} {f : Value} {r1 r2 : List V → Hp → VK → Prop} (h1 : CallR X f r1) (h2 : CallR X f r2) : CallR X f (fun vs H Q => r1 vs H Q ∨ r2 vs H Q) := fun pins s σ H vs us Q I r h => h.elim (h1 pins s σ H vs us Q I r) (h2 pins s σ H vs us Q I r)
@[simp] def mV (i : Nat) (ρ : Env) (st : Sto) : R D := match ρ[i]? with
  | some (some d) => .ok d st
  | _ => .no
@[simp] def mC (d : D) (_ : Env) (st : Sto) : R D := .ok d st
@[simp] def mBin (mo : D → D → Sto → R D) (ma mb : Env → Sto → R D) (ρ : Env) (st : Sto) : R D := (ma ρ st).bind fun x st1 => (mb ρ st1).bind fun y st2 => mo x y st2
@[simp] def mUn (mo : D → Sto → R D) (ma : Env → Sto → R D) (ρ : Env) (st : Sto) : R D := (ma ρ st).bind fun x st1 => mo x st1
/-- the truth of a flag that is a value -/
@[simp] def blOf (d : D) (st : Sto) : R Bool := match d with
  | .bl b => .ok b st
  | _ => .no
@[simp] def mTst (m : Env → Sto → R D) (ρ : Env) (st : Sto) : R Bool := (m ρ st).bind blOf
@[simp] def mVal (m : Env → Sto → R Bool) (ρ : Env) (st : Sto) : R D := (m ρ st).bind fun b st1 => .ok (.bl b) st1
@[simp] def mAnd (ma mb : Env → Sto → R Bool) (ρ : Env) (st : Sto) : R Bool := (ma ρ st).bind fun b st1 => if b = true then mb ρ st1 else .ok false st1
@[simp] def mOr (ma mb : Env → Sto → R Bool) (ρ : Env) (st : Sto) : R Bool := (ma ρ st).bind fun b st1 => if b = true then .ok true st1 else mb ρ st1
@[simp] def mNot (ma : Env → Sto → R Bool) (ρ : Env) (st : Sto) : R Bool := (ma ρ st).bind fun b st1 => .ok (!b) st1
@[simp] def mAndV (ma mb : Env → Sto → R D) (ρ : Env) (st : Sto) : R D := (ma ρ st).bind fun x st1 => (blOf x st1).bind fun b st2 => if b = true then mb ρ st2 else .ok (.bl false) st2
@[simp] def mOrV (ma mb : Env → Sto → R D) (ρ : Env) (st : Sto) : R D := (ma ρ st).bind fun x st1 => (blOf x st1).bind fun b st2 => if b = true then .ok (.bl true) st2 else mb ρ st2
@[simp] def mNotV (ma : Env → Sto → R D) (ρ : Env) (st : Sto) : R D := (ma ρ st).bind fun x st1 => (blOf x st1).bind fun b st2 => .ok (.bl (!b)) st2
@[simp] def mIf (mt : Env → Sto → R Bool) (ma mb : Env → Sto → R D) (ρ : Env) (st : Sto) : R D := (mt ρ st).bind fun b st1 => if b = true then ma ρ st1 else mb ρ st1
@[simp] def mChain (mo mo' : D → D → Sto → R D) (ma mb mc : Env → Sto → R D) (ρ : Env) (st : Sto) : R D := (ma ρ st).bind fun x st1 => (mb ρ st1).bind fun y st2 => (mo x y st2).bind fun z st3 => (blOf z st3).bind fun b st4 =>
  if b = true then (mc ρ st4).bind fun w st5 => mo' y w st5 else .ok (.bl false) st4
@[simp] def mNil (_ : Env) (st : Sto) : R (List D) := .ok [] st
@[simp] def mCons (ma : Env → Sto → R D) (mr : Env → Sto → R (List D)) (ρ : Env) (st : Sto) : R (List D) := (ma ρ st).bind fun x st1 => (mr ρ st1).bind fun xs st2 => .ok (x :: xs) st2
/-- the items of a list, of a list or a tuple -/
def itemsL (st : Sto) : D → Option (List D)
  | .lst xs => some xs
  | .loc n => match st[n]? with
    | some (.lst xs) => some xs
    | _ => none
  | _ => none
def itemsR (st : Sto) : D → Option (List D)
  | .lst xs => some xs
  | .rol xs => some xs
  | .loc n => match st[n]? with
    | some (.lst xs) => some xs
    | _ => none
  | _ => none
def itemsS (st : Sto) : D → Option (List D)
  | .tup xs => some xs
  | d => itemsR st d
@[simp] theorem itemsL_lst {st : Sto} {xs : List D} : itemsL st (.lst xs) = some xs := rfl
@[simp] theorem itemsR_lst {st : Sto} {xs : List D} : itemsR st (.lst xs) = some xs := rfl
@[simp] theorem itemsR_rol {st : Sto} {xs : List D} : itemsR st (.rol xs) = some xs := rfl
@[simp] theorem itemsS_lst {st : Sto} {xs : List D} : itemsS st (.lst xs) = some xs := rfl
@[simp] theorem itemsS_rol {st : Sto} {xs : List D} : itemsS st (.rol xs) = some xs := rfl
@[simp] theorem itemsS_tup {st : Sto} {xs : List D} : itemsS st (.tup xs) = some xs := rfl
theorem itemsL_loc {st : Sto} {n : Nat} {xs : List D} (h : st[n]? = some (.lst xs)) : itemsL st (.loc n) = some xs := by simp only [itemsL, h]
theorem itemsR_loc {st : Sto} {n : Nat} {xs : List D} (h : st[n]? = some (.lst xs)) : itemsR st (.loc n) = some xs := by simp only [itemsR, h]
theorem itemsS_loc {st : Sto} {n : Nat} {xs : List D} (h : st[n]? = some (.lst xs)) : itemsS st (.loc n) = some xs := itemsR_loc h
def ofOpt {α β : Type} (o : Option α) (f : α → R β) : R β := match o with
  | some a => f a
  | none => .no
@[simp] theorem ofOpt_some {α β : Type} (a : α) (f : α → R β) : ofOpt (some a) f = f a := rfl
theorem post_opt {α β γ : Type} {g : G} {W : WX} {σ : L2.St} {μ : Mu} {H : Hp} {Rp : Mu → Hp → β → γ → Prop} {Q : γ → Hp → Prop} {o : Option α} {f : α → R β} (h : PostG g W σ μ H Rp (ofOpt o f) Q) : ∃ a, o = some a ∧ PostG g W σ μ H Rp (f a) Q := by
  cases o with
  | none => exact h.elim
  | some a => exact ⟨a, rfl, h⟩
@[simp] def mStar (ma : Env → Sto → R D) (mr : Env → Sto → R (List D)) (ρ : Env) (st : Sto) : R (List D) := (ma ρ st).bind fun x st1 => ofOpt (itemsS st1 x) fun ys => (mr ρ st1).bind fun xs st2 => .ok (ys ++ xs) st2
@[simp] def mTup (ms : Env → Sto → R (List D)) (ρ : Env) (st : Sto) : R D := (ms ρ st).bind fun xs st1 => guardR (xs.length ≤ lim) (.ok (.tup xs) st1)
@[simp] def mLst (ms : Env → Sto → R (List D)) (ρ : Env) (st : Sto) : R D := (ms ρ st).bind fun xs st1 => guardR (xs.length ≤ lim) (.ok (.lst xs) st1)
/-- a new list in the store -/
@[simp] def mLstM (ms : Env → Sto → R (List D)) (ρ : Env) (st : Sto) : R D := (ms ρ st).bind fun xs st1 => guardR (xs.length ≤ lim) (.ok (.loc st1.length) (st1 ++ [.lst xs]))
/-- an operator by data -/
def OM (g : G) (r : R2) (mo : D → D → Sto → R D) : Prop := ∀ (W : WX) (σ : L2.St) (μ : Mu) (H : Hp) (st : Sto) (x y : V) (dx dy : D) (Q : VK), RS g μ H st → RV g μ H dx x → RV g μ H dy y → PostG g W σ μ H (RV g) (mo dx dy st) Q → r x y H Q
def UM (g : G) (r : V → Hp → VK → Prop) (mo : D → Sto → R D) : Prop := ∀ (W : WX) (σ : L2.St) (μ : Mu) (H : Hp) (st : Sto) (x : V) (dx : D) (Q : VK), RS g μ H st → RV g μ H dx x → PostG g W σ μ H (RV g) (mo dx st) Q → r x H Q
theorem OM.or {g : G} {r1 r2 : R2} {m1 m2 : D → D → Sto → R D} (h1 : OM g r1 m1) (h2 : OM g r2 m2) (sel : D → D → Sto → Bool) : OM g (fun x y H Q => r1 x y H Q ∨ r2 x y H Q) (fun a b st => if sel a b st = true then m1 a b st else m2 a b st) := by
  intro W σ μ H st x y dx dy Q S rx ry p
  dsimp only at p
  split at p
  · exact .inl (h1 W σ μ H st x y dx dy Q S rx ry p)
  · exact .inr (h2 W σ μ H st x y dx dy Q S rx ry p)
section
variable {g : G} {W : WX} {X : Cx} {a b c : Expr} {ma mb mc : Env → Sto → R D} {pos : Pos} {σ : L2.St} {μ μ1 : Mu} {H H1 : Hp} {ρ : Env} {st : Sto}
theorem itemsL_at {d : D} {x : V} {xs : List D} (S : RS g μ H st) (h : RV g μ H d x) (e : itemsL st d = some xs) : ∃ a vs, x = .ref a ∧ H a = some (.lst vs) ∧ RVs g μ H xs vs := by
  cases d with
  | lst ys =>
    obtain ⟨a, vs, e1, q, r⟩ := h
    cases e
    exact ⟨a, vs, e1, q.2, r⟩
  | loc n =>
    obtain ⟨a, e1, q⟩ := h
    unfold itemsL at e
    simp only at e
    split at e
    · rename_i ys e2
      cases e
      obtain ⟨vs, e3, r⟩ := S.at_ n _ a e2 q
      exact ⟨a, vs, e1, e3, r⟩
    · cases e
  | _ => cases e
theorem itemsR_at {d : D} {x : V} {xs : List D} (S : RS g μ H st) (h : RV g μ H d x) (e : itemsR st d = some xs) : ∃ a vs, x = .ref a ∧ SqL g.K H a vs ∧ RVs g μ H xs vs := by
  cases d with
  | lst ys =>
    obtain ⟨a, vs, e1, q, r⟩ := h
    cases e
    exact ⟨a, vs, e1, SqL.of q.2, r⟩
  | rol ys =>
    obtain ⟨a, vs, e1, q, r⟩ := h
    cases e
    exact ⟨a, vs, e1, sqL_of q, r⟩
  | loc n =>
    obtain ⟨a, e1, q⟩ := h
    unfold itemsR at e
    simp only at e
    split at e
    · rename_i ys e2
      cases e
      obtain ⟨vs, e3, r⟩ := S.at_ n _ a e2 q
      exact ⟨a, vs, e1, SqL.of e3, r⟩
    · cases e
  | _ => cases e
theorem itemsS_at {d : D} {x : V} {xs : List D} (S : RS g μ H st) (h : RV g μ H d x) (e : itemsS st d = some xs) : ∃ a vs, x = .ref a ∧ (SqT g.K H a vs ∨ SqL g.K H a vs) ∧ RVs g μ H xs vs := by
  cases d with
  | tup ys =>
    obtain ⟨a, vs, e1, q, r⟩ := h
    cases e
    exact ⟨a, vs, e1, .inl (SqT.of q.2), r⟩
  | lst ys => obtain ⟨a, vs, h1, h2, h3⟩ := itemsR_at S h e; exact ⟨a, vs, h1, .inr h2, h3⟩
  | rol ys => obtain ⟨a, vs, h1, h2, h3⟩ := itemsR_at S h e; exact ⟨a, vs, h1, .inr h2, h3⟩
  | loc ys => obtain ⟨a, vs, h1, h2, h3⟩ := itemsR_at S h e; exact ⟨a, vs, h1, .inr h2, h3⟩
  | _ => cases e
theorem pm_v {i : Nat} (h : PE X a (tVar i)) : PM g W X a (mV i) := h.imp fun σ H Q ⟨μ, ρ, st, rel, p⟩ => by
  unfold mV at p
  split at p
  · rename_i d e
    obtain ⟨v, h1, h2⟩ := rel.slot i d e
    exact ⟨v, h1, p.now rel.sto h2⟩
  · exact p.elim
theorem pm_c {v : V} (d : D) (h : PE X a (tC v)) (r : ∀ μ H, RV g μ H d v) : PM g W X a (mC d) := h.imp fun σ H Q ⟨μ, ρ, st, rel, p⟩ => p.now rel.sto (r μ H)
theorem pm_bin {op : Operator} {r : R2} {mo : D → D → Sto → R D} (ho : OpR X (binaryOp op) r) (hm : OM g r mo) (ha : PM g W X a ma) (hb : PM g W X b mb) : PM g W X (.BinOp a op b pos) (mBin mo ma mb) :=
  (pe_op ho ha hb).imp fun σ H Q ⟨μ, ρ, st, rel, p⟩ => tG_bind rel p fun μ1 dx st1 x H1 go1 rel1 rv1 p1 => tG_bind rel1 p1 fun μ2 dy st2 y H2 go2 rel2 rv2 p2 => hm W σ μ2 H2 st2 x y dx dy Q rel2.sto (rv1.go go2) rv2 p2
theorem pm_un {op : UnaryOp} {r : V → Hp → VK → Prop} {mo : D → Sto → R D} (ho : UnR X (unaryOp op) r) (hm : UM g r mo) (ha : PM g W X a ma) : PM g W X (.UnaryOp op a pos) (mUn mo ma) :=
  (pe_un ho ha).imp fun σ H Q ⟨μ, ρ, st, rel, p⟩ => tG_bind rel p fun μ1 dx st1 x H1 go1 rel1 rv1 p1 => hm W σ μ1 H1 st1 x dx Q rel1.sto rv1 p1
theorem pm_cmp {op : CmpOp} {r : R2} {mo : D → D → Sto → R D} (ho : OpR X (compareOp op) r) (hm : OM g r mo) (ha : PM g W X a ma) (hb : PM g W X b mb) (hk : behindInMarks op b = false) : PM g W X (.Compare a [op] [b] pos) (mBin mo ma mb) :=
  (pe_cmpR ho ha hb hk).imp fun σ H Q ⟨μ, ρ, st, rel, p⟩ => tG_bind rel p fun μ1 dx st1 x H1 go1 rel1 rv1 p1 => tG_bind rel1 p1 fun μ2 dy st2 y H2 go2 rel2 rv2 p2 => hm W σ μ2 H2 st2 x y dx dy Q rel2.sto (rv1.go go2) rv2 p2
theorem post_bl {α β : Type} {Rp : Mu → Hp → α → β → Prop} {d : D} {k : Bool → Sto → R α} {Q : β → Hp → Prop} {st : Sto} (h : PostG g W σ μ H Rp ((blOf d st).bind k) Q) : ∃ b, d = .bl b ∧ PostG g W σ μ H Rp (k b st) Q := by
  cases d with
  | bl b => exact ⟨b, rfl, h⟩
  | _ => exact h.elim
theorem post_bl' {d : D} {P : Bool → Sto → Prop} {B : Er → Sto → Prop} {st : Sto} (h : (blOf d st).post P B) : ∃ b, d = .bl b ∧ P b st := by
  cases d with
  | bl b => exact ⟨b, rfl, h⟩
  | _ => exact h.elim
theorem tst_fwd {r : R D} {Q : Bool → Hp → Prop} (p : PostG g W σ μ H RB (r.bind blOf) Q) : PostG g W σ μ H (RV g) r fun v H' => ∃ k, v = .bl k ∧ Q k H' := by
  refine R.post_mono (R.post_bind p) (fun d st' q μ' v H' go S rv => ?_) fun _ _ q => q
  obtain ⟨b, rfl, q⟩ := post_bl' q
  exact ⟨b, rv, q μ' b H' go S rfl⟩
theorem pmt_cmp {op : CmpOp} {r : R2} {mo : D → D → Sto → R D} (ho : OpR X (compareOp op) r) (hm : OM g r mo) (ha : PM g W X a ma) (hb : PM g W X b mb) (hk : behindInMarks op b = false) : PMT g W X (.Compare a [op] [b] pos) (mTst (mBin mo ma mb)) :=
  (pt_cmpR ho ha hb hk).imp fun σ H Q ⟨μ, ρ, st, rel, p⟩ => tG_bind rel (tst_fwd p) fun μ1 dx st1 x H1 go1 rel1 rv1 p1 => tG_bind rel1 p1 fun μ2 dy st2 y H2 go2 rel2 rv2 p2 => hm W σ μ2 H2 st2 x y dx dy _ rel2.sto (rv1.go go2) rv2 p2
theorem chain_k {r r' : R2} {mo mo' : D → D → Sto → R D} (hm : OM g r mo) (hm' : OM g r' mo') {Q : VK} (rel : Rel g μ σ H ρ st) (p : PostG g W σ μ H (RV g) (mChain mo mo' ma mb mc ρ st) Q) : tChain r r' (tOf g W ma) (tOf g W mb) (tOf g W mc) σ H Q :=
  tG_bind rel p fun μ1 dx st1 x H1 go1 rel1 rv1 p1 => tG_bind rel1 p1 fun μ2 dy st2 y H2 go2 rel2 rv2 p2 => by
    refine hm W σ μ2 H2 st2 x y dx dy _ rel2.sto (rv1.go go2) rv2 (R.post_mono (R.post_bind p2) (fun d st3 q μ3 v H3 go3 S3 rv3 => ?_) fun _ _ q => q)
    obtain ⟨k, rfl, q⟩ := post_bl (g := g) (W := W) (σ := σ) (μ := μ2) (H := H2) (Rp := RV g) (Q := Q) (k := fun b st4 => if b = true then (mc ρ st4).bind fun w st5 => mo' dy w st5 else .ok (.bl false) st4) q
    refine ⟨k, rv3, ?_⟩
    cases k with
    | true =>
      exact tG_bind (rel2.go go3 S3) (PostG.base go3 (show PostG g W σ μ2 H2 (RV g) ((mc ρ st3).bind fun w st5 => mo' dy w st5) Q from q)) fun μ4 dw st4 w H4 go4 rel4 rv4 p4 =>
        hm' W σ μ4 H4 st4 y w dy dw Q rel4.sto ((rv2.go go3).go go4) rv4 p4
    | false => exact PostG.done (show PostG g W σ μ2 H2 (RV g) (.ok (.bl false) st3) Q from q) go3 S3 rfl
theorem pm_chain {op op' : CmpOp} {r r' : R2} {mo mo' : D → D → Sto → R D} (ho : OpR X (compareOp op) r) (hm : OM g r mo) (ho' : OpR X (compareOp op') r') (hm' : OM g r' mo') (ha : PM g W X a ma) (hb : PM g W X b mb) (hc : PM g W X c mc)
    (hk : lastMarks [op, op'] [b, c] = false := by with_unfolding_all rfl) : PM g W X (.Compare a [op, op'] [b, c] pos) (mChain mo mo' ma mb mc) :=
  (pe_chain ho ho' ha hb hc hk).imp fun σ H Q ⟨μ, ρ, st, rel, p⟩ => chain_k hm hm' rel p
theorem pmt_chain {op op' : CmpOp} {r r' : R2} {mo mo' : D → D → Sto → R D} (ho : OpR X (compareOp op) r) (hm : OM g r mo) (ho' : OpR X (compareOp op') r') (hm' : OM g r' mo') (ha : PM g W X a ma) (hb : PM g W X b mb) (hc : PM g W X c mc)
    (hk : lastMarks [op, op'] [b, c] = false := by with_unfolding_all rfl) : PMT g W X (.Compare a [op, op'] [b, c] pos) (mTst (mChain mo mo' ma mb mc)) :=
  (pt_chain ho ho' ha hb hc hk).imp fun σ H Q ⟨μ, ρ, st, rel, p⟩ => chain_k hm hm' rel (tst_fwd p)
variable {mt mu : Env → Sto → R Bool} {rest : List Expr}
theorem pmw_and1 (h : PMT g W X a mt) : PMW g W X (.BoolOp .And [a] pos) mt := pw_and1 h
theorem pmw_or1 (h : PMT g W X a mt) : PMW g W X (.BoolOp .Or [a] pos) mt := pw_or1 h
theorem tT_bind {m : Env → Sto → R Bool} {k : Bool → Sto → R Bool} {Q : Bool → Hp → Prop} {Kt : Bool → Hp → Prop} (rel : Rel g μ σ H ρ st) (p : PostG g W σ μ H RB ((m ρ st).bind k) Q)
    (c : ∀ μ1 b st1 H1, Go μ H μ1 H1 → Rel g μ1 σ H1 ρ st1 → PostG g W σ μ1 H1 RB (k b st1) Q → Kt b H1) : tTOf g W m σ H Kt :=
  tG_bind (Rp := RB) rel p fun μ1 b st1 b' H1 go rel1 e p1 => by cases (show b' = b from e); exact c μ1 b st1 H1 go rel1 p1
theorem pmw_and (ha : PMT g W X a mt) (hb : PMW g W X (.BoolOp .And (b :: rest) pos) mu) : PMW g W X (.BoolOp .And (a :: b :: rest) pos) (mAnd mt mu) :=
  (pw_and ha hb).imp fun σ H Q ⟨μ, ρ, st, rel, p⟩ => tT_bind rel p fun μ1 k st1 H1 go rel1 p1 => by
    cases k with
    | true => exact ⟨μ1, ρ, st1, rel1, p1⟩
    | false => exact PostG.now (show PostG g W σ μ1 H1 RB (.ok false st1) Q from p1) rel1.sto rfl
theorem pmw_or (ha : PMT g W X a mt) (hb : PMW g W X (.BoolOp .Or (b :: rest) pos) mu) : PMW g W X (.BoolOp .Or (a :: b :: rest) pos) (mOr mt mu) :=
  (pw_or ha hb).imp fun σ H Q ⟨μ, ρ, st, rel, p⟩ => tT_bind rel p fun μ1 k st1 H1 go rel1 p1 => by
    cases k with
    | true => exact PostG.now (show PostG g W σ μ1 H1 RB (.ok true st1) Q from p1) rel1.sto rfl
    | false => exact ⟨μ1, ρ, st1, rel1, p1⟩
theorem pmt_w (h : PMW g W X a mt) : PMT g W X a mt := h.pt
theorem pmt_not (ha : PMT g W X a mt) : PMT g W X (.UnaryOp .Not a pos) (mNot mt) :=
  (pt_not ha).imp fun σ H Q ⟨μ, ρ, st, rel, p⟩ => tT_bind rel p fun μ1 k st1 H1 go rel1 p1 => PostG.now (show PostG g W σ μ1 H1 RB (.ok (!k) st1) Q from p1) rel1.sto rfl
theorem pm_one {op} (h : PM g W X a ma) : PM g W X (.BoolOp op [a] pos) ma := pe_one h
theorem pm_and (ha : PM g W X a ma) (hb : PM g W X (.BoolOp .And (b :: rest) pos) mb) : PM g W X (.BoolOp .And (a :: b :: rest) pos) (mAndV ma mb) :=
  (pe_and ha hb).imp fun σ H Q ⟨μ, ρ, st, rel, p⟩ => tG_bind rel p fun μ1 dx st1 x H1 go1 rel1 rv1 p1 => by
    obtain ⟨k, rfl, q⟩ := post_bl p1
    refine ⟨k, rv1, ?_⟩
    cases k with
    | true => exact ⟨μ1, ρ, st1, rel1, q⟩
    | false => exact PostG.now (show PostG g W σ μ1 H1 (RV g) (.ok (.bl false) st1) Q from q) rel1.sto rfl
theorem pm_not (ha : PM g W X a ma) : PM g W X (.UnaryOp .Not a pos) (mNotV ma) :=
  (pe_not ha).imp fun σ H Q ⟨μ, ρ, st, rel, p⟩ => tG_bind rel p fun μ1 dx st1 x H1 go1 rel1 rv1 p1 => by
    obtain ⟨k, rfl, q⟩ := post_bl p1
    exact ⟨k, rv1, PostG.now (show PostG g W σ μ1 H1 (RV g) (.ok (.bl (!k)) st1) Q from q) rel1.sto rfl⟩
theorem pm_if (ht : PMT g W X c mt) (ha : PM g W X a ma) (hb : PM g W X b mb) : PM g W X (.IfExp c a b pos) (mIf mt ma mb) :=
  (pe_ifExp ht ha hb).imp fun σ H Q ⟨μ, ρ, st, rel, p⟩ => tG_bind (Rp := RB) rel p fun μ1 k st1 k' H1 go rel1 e p1 => by
    cases (show k' = k from e)
    cases k with
    | true => exact ⟨μ1, ρ, st1, rel1, p1⟩
    | false => exact ⟨μ1, ρ, st1, rel1, p1⟩
variable {es : List Expr} {ms : Env → Sto → R (List D)} {sp : Pos}
theorem pma_nil : PMA g W X [] mNil := pa_nil.imp fun σ H Q ⟨μ, ρ, st, rel, p⟩ => PostG.now p rel.sto rfl
theorem pma_cons (ha : PM g W X a ma) (hr : PMA g W X es ms) (hs : starEach (a :: es) X.env = (false, eval a X.env) :: starEach es X.env := by rfl) : PMA g W X (a :: es) (mCons ma ms) :=
  (pa_cons ha hr hs).imp fun σ H Q ⟨μ, ρ, st, rel, p⟩ => tG_bind rel p fun μ1 dx st1 x H1 go1 rel1 rv1 p1 => tG_bind rel1 p1 fun μ2 ds st2 xs H2 go2 rel2 rv2 p2 => PostG.now p2 rel2.sto (.cons (rv1.go go2) rv2)
theorem pma_star (hK : X.K = g.K) (ha : PM g W X a ma) (hr : PMA g W X es ms) (hs : starEach (.Starred a sp :: es) X.env = (true, eval a X.env) :: starEach es X.env := by rfl) : PMA g W X (.Starred a sp :: es) (mStar ma ms) :=
  (StX.pa_star ha hr hs).imp fun σ H Q ⟨μ, ρ, st, rel, p⟩ => tG_bind rel p fun μ1 dx st1 x H1 go1 rel1 rv1 p1 => by
    obtain ⟨ys, e, q⟩ := post_opt p1
    obtain ⟨l, vs, rfl, hl, r⟩ := itemsS_at rel1.sto rv1 e
    rw [hK]
    exact ⟨l, vs, rfl, hl, tG_bind rel1 q fun μ2 ds st2 xs H2 go2 rel2 rv2 p2 => PostG.now p2 rel2.sto ((r.go go2).app rv2)⟩
theorem pm_tup {x1} (h : PMA g W X es ms) : PM g W X (.Tuple es x1 pos) (mTup ms) :=
  (pe_tup h).imp fun σ H Q ⟨μ, ρ, st, rel, p⟩ => tG_bind rel p fun μ1 ds st1 xs H1 go1 rel1 rv1 p1 => by
    obtain ⟨hl, q⟩ := post_guard p1
    exact ⟨by rw [rv1.length]; exact lim_le hl, fun t ht => PostG.done q (Go.side rel1.sto ht) (rel1.sto.side ht) ⟨t, xs, rfl, ⟨rel1.sto.off ht, upd_same⟩, rv1.go (Go.side rel1.sto ht)⟩⟩
theorem pm_lst (h : PMA g W X es ms) : PM g W X (.List es pos) (mLst ms) :=
  (pe_lst h).imp fun σ H Q ⟨μ, ρ, st, rel, p⟩ => tG_bind rel p fun μ1 ds st1 xs H1 go1 rel1 rv1 p1 => by
    obtain ⟨hl, q⟩ := post_guard p1
    exact ⟨by rw [rv1.length]; exact lim_le hl, fun t ht => PostG.done q (Go.side rel1.sto ht) (rel1.sto.side ht) ⟨t, xs, rfl, ⟨rel1.sto.off ht, upd_same⟩, rv1.go (Go.side rel1.sto ht)⟩⟩
theorem pm_lstM (h : PMA g W X es ms) : PM g W X (.List es pos) (mLstM ms) :=
  (pe_lst h).imp fun σ H Q ⟨μ, ρ, st, rel, p⟩ => tG_bind rel p fun μ1 ds st1 xs H1 go1 rel1 rv1 p1 => by
    obtain ⟨hl, q⟩ := post_guard p1
    exact ⟨by rw [rv1.length]; exact lim_le hl, fun t ht => PostG.done q (Go.push ht) (rel1.sto.push ht ⟨xs, upd_same, rv1.go (Go.push ht)⟩) ⟨t, rfl, at_push rel1.sto⟩⟩
end
end Pl

set_option maxHeartbeats 4000000
/-! operators by data -/
namespace Pl
open PySem PySem.Spec PyProof.Rows L2 Hn
open PySem.W (Frag keepIn)
mutual
/-- as data without numbers of the store -/
def toP : D → Option PyData
  | .non => some .none
  | .bl b => some (.bool b)
  | .int i => some (.int i)
  | .str s => some (.str s)
  | .tup xs => match toPs xs with
    | some ps => some (.tuple ps)
    | none => none
  | .lst xs => match toPs xs with
    | some ps => some (.list ps)
    | none => none
  | _ => none
def toPs : List D → Option (List PyData)
  | [] => some []
  | d :: ds => match toP d, toPs ds with
    | some p, some ps => some (p :: ps)
    | _, _ => none
end
def toQ (st : Sto) : D → Option PyData
  | .loc n => match st[n]? with
    | some (.lst xs) => match toPs xs with
      | some ps => some (.list ps)
      | none => none
    | _ => none
  | d => toP d
def dkey : D → Option Key
  | .int i => some (.inl i)
  | .str s => some (.inr s)
  | _ => none
def dkeys : List D → Option (List Key)
  | [] => some []
  | d :: ds => match dkey d, dkeys ds with
    | some k, some ks => some (k :: ks)
    | _, _ => none
def tkey : D → Option (List Key)
  | .tup xs => dkeys xs
  | _ => none
def getK {κ : Type} [DecidableEq κ] (kvs : List (κ × D)) (k : κ) : Option D := (kvs.find? fun kv => decide (kv.1 = k)).map (·.2)
/-- what a dict says of a key -/
def dlook (st : Sto) (d k : D) : Option (Option D) :=
  match d with
  | .loc n => match st[n]? with
    | some (.dct kvs) => match dkey k with
      | some k => some (getK kvs k)
      | none => none
    | some (.dcT kvs) => match tkey k with
      | some k => some (getK kvs k)
      | none => none
    | _ => none
  | .dct ks vs => match dkey k with
    | some k => some (getK (ks.zip vs) k)
    | none => none
  | _ => none
/-- is it a dict -/
def isDct (st : Sto) : D → Bool
  | .loc n => match st[n]? with
    | some (.dct _) => true
    | some (.dcT _) => true
    | _ => false
  | .dct _ _ => true
  | _ => false
section
variable {g : G} {W : WX} {X : Cx} {σ : L2.St} {μ μ1 : Mu} {H H1 : Hp} {ρ : Env} {st : Sto}
mutual
theorem toP_dp : ∀ {d : D} {x : V} {p : PyData}, RV g μ H d x → toP d = some p → Dp g.K H x p
  | .non, _, _, h, e => by cases e; cases (show _ = V.non from h); exact .non
  | .bl b, _, _, h, e => by cases e; cases (show _ = V.bl b from h); exact .bl b
  | .int i, _, _, h, e => by cases e; cases (show _ = V.int i from h); exact .int i
  | .str s, _, _, h, e => by cases e; cases (show _ = V.str s from h); exact .str s
  | .tup xs, _, _, h, e => by
    obtain ⟨a, vs, rfl, q, r⟩ := h
    unfold toP at e
    split at e
    · rename_i ps e2
      cases e
      exact .tup (SqT.of q.2) (toPs_dp r e2)
    · cases e
  | .lst xs, _, _, h, e => by
    obtain ⟨a, vs, rfl, q, r⟩ := h
    unfold toP at e
    split at e
    · rename_i ps e2
      cases e
      exact .lst (SqL.of q.2) (toPs_dp r e2)
    · cases e
  | .rol xs, _, _, h, e => by cases e
  | .dct _ _, _, _, h, e => by cases e
  | .loc _, _, _, h, e => by cases e
  | .nam _, _, _, h, e => by cases e
  | .err _ _, _, _, h, e => by cases e
theorem toPs_dp : ∀ {ds : List D} {xs : List V} {ps : List PyData}, RVs g μ H ds xs → toPs ds = some ps → DpAll g.K H xs ps
  | [], _, _, h, e => by
    rw [show _ = [] from h]
    cases e
    exact .nil
  | d :: ds, _, _, h, e => by
    obtain ⟨v, r, rfl, h1, h2⟩ := h
    unfold toPs at e
    split at e
    · rename_i p ps e1 e2
      cases e
      exact .cons (toP_dp h1 e1) (toPs_dp h2 e2)
    · cases e
end
theorem toQ_dp {d : D} {x : V} {p : PyData} (S : RS g μ H st) (h : RV g μ H d x) (e : toQ st d = some p) : Dp g.K H x p := by
  cases d with
  | loc n =>
    obtain ⟨a, rfl, q⟩ := h
    unfold toQ at e
    simp only at e
    split at e
    · rename_i ys e2
      split at e
      · rename_i ps e3
        cases e
        obtain ⟨vs, e4, r⟩ := S.at_ n _ a e2 q
        exact .lst (SqL.of e4) (toPs_dp r e3)
      · cases e
    · cases e
  | _ => exact toP_dp h e
theorem dkey_at {d : D} {x : V} {k : Key} (h : RV g μ H d x) (e : dkey d = some k) : x = kV k := by
  cases d with
  | int i => cases e; exact h
  | str s => cases e; exact h
  | _ => cases e
theorem dkeys_at : ∀ {ds : List D} {xs : List V} {ks : List Key}, RVs g μ H ds xs → dkeys ds = some ks → xs = ks.map kV
  | [], _, _, h, e => by cases e; exact h
  | d :: ds, _, _, h, e => by
    obtain ⟨v, r, rfl, h1, h2⟩ := h
    unfold dkeys at e
    split at e
    · rename_i k ks e1 e2
      cases e
      rw [dkey_at h1 e1, dkeys_at h2 e2]
      rfl
    · cases e
theorem tkey_at {d : D} {x : V} {k : List Key} (h : RV g μ H d x) (e : tkey d = some k) : ∃ b, x = .ref b ∧ μ.off b ∧ H b = some (.tup (k.map kV)) := by
  cases d with
  | tup xs =>
    obtain ⟨a, vs, rfl, q, r⟩ := h
    exact ⟨a, rfl, q.1, by rw [← dkeys_at r e]; exact q.2⟩
  | _ => cases e
def RO (g : G) (μ : Mu) (H : Hp) : Option D → Option V → Prop
  | some d, some v => RV g μ H d v
  | none, none => True
  | _, _ => False
theorem getK_at {κ : Type} [DecidableEq κ] (k : κ) : ∀ {ps : List (κ × D)} {kvs : List (κ × V)}, kvs.map (·.1) = ps.map (·.1) → RVs g μ H (ps.map (·.2)) (kvs.map (·.2)) → RO g μ H (getK ps k) (valV kvs k)
  | [], [], _, _ => True.intro
  | [], _ :: _, e, _ => by cases e
  | _ :: _, [], e, _ => by cases e
  | p :: ps, q :: kvs, e, r => by
    rw [List.map_cons, List.map_cons] at e
    injection e with e1 e2
    obtain ⟨v, r', e3, h1, h2⟩ := r
    rw [List.map_cons] at e3
    injection e3 with e4 e5
    by_cases h : p.1 = k
    · rw [valV_pos (e1.trans h)]
      unfold getK
      rw [List.find?_cons, decide_eq_true h]
      show RV g μ H p.2 q.2
      rw [e4]
      exact h1
    · rw [valV_neg (fun z => h (e1.symm.trans z))]
      unfold getK
      rw [List.find?_cons, decide_eq_false h]
      exact getK_at k e2 (by rw [← e5] at h2; exact h2)
theorem zip_fst {ks : List Key} {vs : List D} (h : ks.length = vs.length) : (ks.zip vs).map (·.1) = ks := List.map_fst_zip (by omega)
theorem zip_snd {ks : List Key} {vs : List D} (h : ks.length = vs.length) : (ks.zip vs).map (·.2) = vs := List.map_snd_zip (by omega)
theorem dlook_at {d k : D} {x y : V} {o : Option D} (S : RS g μ H st) (hx : RV g μ H d x) (hy : RV g μ H k y) (e : dlook st d k = some o) : ∃ a ov, x = .ref a ∧ DGet H a y ov ∧ RO g μ H o ov := by
  cases d with
  | loc n =>
    obtain ⟨a, rfl, q⟩ := hx
    unfold dlook at e
    simp only at e
    split at e
    · rename_i kvs e2
      split at e
      · rename_i k' e3
        cases e
        obtain ⟨vs, e4, e5, r⟩ := S.at_ n _ a e2 q
        rw [dkey_at hy e3]
        exact ⟨a, _, rfl, DGet.k e4, getK_at k' e5 r⟩
      · cases e
    · rename_i kvs e2
      split at e
      · rename_i k' e3
        cases e
        obtain ⟨vs, e4, e5, r⟩ := S.at_ n _ a e2 q
        obtain ⟨b, rfl, nb, eb⟩ := tkey_at hy e3
        exact ⟨a, _, rfl, DGet.t e4 eb, getK_at k' e5 r⟩
      · cases e
    · cases e
  | dct ks vs =>
    obtain ⟨a, kvs, rfl, q, e5, r⟩ := hx
    unfold dlook at e
    simp only at e
    split at e
    · rename_i k' e3
      cases e
      rw [dkey_at hy e3]
      have hl : ks.length = vs.length := by
        rw [← e5, List.length_map]
        have := r.length
        rw [List.length_map] at this
        exact this
      exact ⟨a, _, rfl, DGet.k q.2, getK_at k' (by rw [zip_fst hl]; exact e5) (by rw [zip_snd hl]; exact r)⟩
    · cases e
  | _ => cases e
end
/-! ### arithmetic -/
def addD (a b : D) (st : Sto) : R D := match a with
  | .int i => match b with
    | .int j => .ok (.int (i + j)) st
    | _ => .no
  | .str s => match b with
    | .str t => guardR (s.length + t.length ≤ lim) (.ok (.str (s ++ t)) st)
    | _ => .no
  | .tup xs => match b with
    | .tup ys => guardR (xs.length + ys.length ≤ lim) (.ok (.tup (xs ++ ys)) st)
    | _ => .no
  | a => ofOpt (itemsL st a) fun xs => ofOpt (itemsL st b) fun ys => guardR (xs.length + ys.length ≤ lim) (.ok (.lst (xs ++ ys)) st)
@[simp] theorem addD_int {i j : Int} {st : Sto} : addD (.int i) (.int j) st = .ok (.int (i + j)) st := rfl
@[simp] theorem addD_tup {xs ys : List D} {st : Sto} : addD (.tup xs) (.tup ys) st = guardR (xs.length + ys.length ≤ lim) (.ok (.tup (xs ++ ys)) st) := rfl
@[simp] theorem addD_lst {xs ys : List D} {st : Sto} : addD (.lst xs) (.lst ys) st = guardR (xs.length + ys.length ≤ lim) (.ok (.lst (xs ++ ys)) st) := rfl
@[simp] theorem addD_str {s t : Str} {st : Sto} : addD (.str s) (.str t) st = guardR (s.length + t.length ≤ lim) (.ok (.str (s ++ t)) st) := rfl
@[simp] def subD (a b : D) (st : Sto) : R D := match a, b with
  | .int i, .int j => .ok (.int (i - j)) st
  | _, _ => .no
abbrev b64 : Int := 18446744073709551616
abbrev mulOk (i j : Int) : Prop := (-b64 < i ∧ i < b64) ∨ (-b64 < j ∧ j < b64)
def mulD (a b : D) (st : Sto) : R D := match a with
  | .int i => match b with
    | .int j => guardR (mulOk i j) (.ok (.int (i * j)) st)
    | _ => .no
  | .tup xs => match b with
    | .int j => guardR ((0 < xs.length ∧ xs.length ≤ 1000) ∧ 2 ≤ j ∧ j ≤ 1000) (.ok (.tup (List.replicate j.toNat xs).flatten) st)
    | _ => .no
  | a => match b with
    | .int j => ofOpt (itemsL st a) fun xs => guardR (0 ≤ j ∧ j ≤ 1000 ∧ xs.length ≤ 1000) (.ok (.lst (List.replicate j.toNat xs).flatten) st)
    | _ => .no
@[simp] theorem mulD_int {i j : Int} {st : Sto} : mulD (.int i) (.int j) st = guardR (mulOk i j) (.ok (.int (i * j)) st) := rfl
@[simp] theorem mulD_lst {xs : List D} {j : Int} {st : Sto} : mulD (.lst xs) (.int j) st = guardR (0 ≤ j ∧ j ≤ 1000 ∧ xs.length ≤ 1000) (.ok (.lst (List.replicate j.toNat xs).flatten) st) := rfl
@[simp] theorem mulD_tup {xs : List D} {j : Int} {st : Sto} : mulD (.tup xs) (.int j) st = guardR ((0 < xs.length ∧ xs.length ≤ 1000) ∧ 2 ≤ j ∧ j ≤ 1000) (.ok (.tup (List.replicate j.toNat xs).flatten) st) := rfl
@[simp] def fdivD (a b : D) (st : Sto) : R D := match a, b with
  | .int i, .int j => guardR (0 < j ∧ j < 1073741824) (.ok (.int (i / j)) st)
  | _, _ => .no
@[simp] def modD (a b : D) (st : Sto) : R D := match a, b with
  | .int i, .int j => guardR (0 < j) (.ok (.int (i % j)) st)
  | _, _ => .no
@[simp] def powD (a b : D) (st : Sto) : R D := match a, b with
  | .int i, .int j => guardR (0 ≤ j ∧ j ≤ 1000000 ∧ i.natAbs < 18446744073709551616) (.ok (.int (i ^ j.toNat)) st)
  | _, _ => .no
@[simp] def negD (a : D) (st : Sto) : R D := match a with
  | .int i => .ok (.int (-i)) st
  | _ => .no
section
variable {g : G} {W : WX} {X : Cx} {σ : L2.St} {μ μ1 : Mu} {H H1 : Hp} {ρ : Env} {st : Sto}
/-- a new tuple, a new list as an answer -/
theorem new_tup {ds : List D} {vs : List V} {Q : VK} (S : RS g μ H st) (r : RVs g μ H ds vs) (p : PostG g W σ μ H (RV g) (.ok (.tup ds) st) Q) {t : Addr} (ht : H t = none) : Q (.ref t) (upd H t (.tup vs)) :=
  PostG.done p (Go.side S ht) (S.side ht) ⟨t, vs, rfl, ⟨S.off ht, upd_same⟩, r.go (Go.side S ht)⟩
theorem new_lst {ds : List D} {vs : List V} {Q : VK} (S : RS g μ H st) (r : RVs g μ H ds vs) (p : PostG g W σ μ H (RV g) (.ok (.lst ds) st) Q) {t : Addr} (ht : H t = none) : Q (.ref t) (upd H t (.lst vs)) :=
  PostG.done p (Go.side S ht) (S.side ht) ⟨t, vs, rfl, ⟨S.off ht, upd_same⟩, r.go (Go.side S ht)⟩
def rAdd (K : Frag) : R2 := fun x y H Q => (rI0 (fun i j => V.int (i + j)) x y H Q ∨ (∃ i j, x = .str i ∧ y = .str j ∧ i.length + j.length ≤ sizeLine ∧ Q (.str (i ++ j)) H)) ∨ (rCatA K x y H Q ∨ rCat x y H Q)
theorem op_addA (hK : X.K = g.K) : OpR X (binaryOp .Add) (rAdd g.K) := by
  rw [← hK]
  exact fun pins s σ H x y v u Q I rx ry h => by
    rcases h with (h | h) | (h | h)
    · exact op_add pins s σ H x y v u Q I rx ry h
    · exact op_add_str pins s σ H x y v u Q I rx ry h
    · exact op_catA pins s σ H x y v u Q I rx ry h
    · exact op_cat pins s σ H x y v u Q I rx ry h
theorem om_add : OM g (rAdd g.K) addD := by
  intro W σ μ H st x y dx dy Q S rx ry p
  unfold addD at p
  split at p
  · rename_i i
    split at p
    · rename_i j
      exact .inl (.inl ⟨i, j, rx, ry, p.now S rfl⟩)
    · exact p.elim
  · rename_i s
    split at p
    · rename_i t
      obtain ⟨hl, q⟩ := post_guard p
      exact .inl (.inr ⟨s, t, rx, ry, lim_le hl, PostG.now q S rfl⟩)
    · exact p.elim
  · rename_i xs
    split at p
    · rename_i ys
      obtain ⟨hl, q⟩ := post_guard p
      obtain ⟨a, vs, rfl, k1, r1⟩ := rx
      obtain ⟨b, ws, rfl, k2, r2⟩ := ry
      refine .inr (.inl ⟨a, b, vs, ws, rfl, rfl, SqT.of k1.2, SqT.of k2.2, by rw [r1.length, r2.length]; exact lim_le hl, fun e => ?_, fun _ e => ?_, fun _ _ t ht => new_tup S (r1.app r2) q ht⟩)
      · have l := r1.length
        rw [e] at l
        obtain rfl := List.eq_nil_of_length_eq_zero l.symm
        exact PostG.now q S ⟨b, ws, rfl, k2, r2⟩
      · have l := r2.length
        rw [e] at l
        obtain rfl := List.eq_nil_of_length_eq_zero l.symm
        exact PostG.now q S ⟨a, vs, rfl, k1, by rw [List.append_nil]; exact r1⟩
    · exact p.elim
  · obtain ⟨xs, e1, p⟩ := post_opt p
    obtain ⟨ys, e2, p⟩ := post_opt p
    obtain ⟨hl, q⟩ := post_guard p
    obtain ⟨a, vs, rfl, k1, r1⟩ := itemsL_at S rx e1
    obtain ⟨b, ws, rfl, k2, r2⟩ := itemsL_at S ry e2
    exact .inr (.inr ⟨a, b, vs, ws, rfl, rfl, k1, k2, by rw [r1.length, r2.length]; exact lim_le hl, fun t ht => new_lst S (r1.app r2) q ht⟩)
theorem om_sub : OM g (rI0 fun i j => V.int (i - j)) subD := by
  intro W σ μ H st x y dx dy Q S rx ry p
  unfold subD at p
  split at p
  · exact ⟨_, _, rx, ry, p.now S rfl⟩
  · exact p.elim
theorem op_mulA (hK : X.K = g.K) : OpR X (binaryOp .Mult) (fun x y H Q => rI CMul (fun i j => V.int (i * j)) x y H Q ∨ (rRep x y H Q ∨ rRepT g.K x y H Q)) := by
  rw [← hK]
  exact orOp op_mul (orOp op_rep op_repT)
theorem flat_rep {ds : List D} {vs : List V} (r : RVs g μ H ds vs) : ∀ n : Nat, RVs g μ H (List.replicate n ds).flatten (List.replicate n vs).flatten
  | 0 => rfl
  | n + 1 => by
    rw [List.replicate_succ, List.replicate_succ, List.flatten_cons, List.flatten_cons]
    exact r.app (flat_rep r n)
theorem om_mul : OM g (fun x y H Q => rI CMul (fun i j => V.int (i * j)) x y H Q ∨ (rRep x y H Q ∨ rRepT g.K x y H Q)) mulD := by
  intro W σ μ H st x y dx dy Q S rx ry p
  unfold mulD at p
  split at p
  · rename_i i
    split at p
    · rename_i j
      obtain ⟨hl, q⟩ := post_guard p
      exact .inl ⟨i, j, rx, ry, hl, PostG.now q S rfl⟩
    · exact p.elim
  · rename_i xs
    split at p
    · rename_i j
      obtain ⟨⟨⟨h1, h2⟩, h3, h4⟩, q⟩ := post_guard p
      obtain ⟨a, vs, rfl, k1, r1⟩ := rx
      cases (show y = .int j from ry)
      have l := r1.length
      exact .inr (.inr ⟨a, j, vs, rfl, rfl, SqT.of k1.2, (fun e => by rw [e] at l; rw [← l] at h1; cases h1), h3, h4, (by rw [l]; exact h2), fun t ht => new_tup S (flat_rep r1 _) q ht⟩)
    · exact p.elim
  · split at p
    · rename_i j
      obtain ⟨xs, e1, p⟩ := post_opt p
      obtain ⟨⟨h1, h2, h3⟩, q⟩ := post_guard p
      obtain ⟨a, vs, rfl, k1, r1⟩ := itemsL_at S rx e1
      cases (show y = .int j from ry)
      refine .inr (.inl ⟨a, j, vs, rfl, rfl, k1, by omega, by omega, ?_, fun t ht => new_lst S (flat_rep r1 _) q ht⟩)
      rw [r1.length]
      refine lim_le (Nat.le_trans (Nat.mul_le_mul h3 (show j.toNat ≤ 1000 by omega)) (by decide))
    · exact p.elim
theorem om_fdiv : OM g (rI CDiv fun i j => V.int (i / j)) fdivD := by
  intro W σ μ H st x y dx dy Q S rx ry p
  unfold fdivD at p
  split at p
  · obtain ⟨hl, q⟩ := post_guard p
    exact ⟨_, _, rx, ry, hl, PostG.now q S rfl⟩
  · exact p.elim
theorem om_mod : OM g (rI (fun _ j => 0 < j) fun i j => V.int (i % j)) modD := by
  intro W σ μ H st x y dx dy Q S rx ry p
  unfold modD at p
  split at p
  · obtain ⟨hl, q⟩ := post_guard p
    exact ⟨_, _, rx, ry, hl, PostG.now q S rfl⟩
  · exact p.elim
theorem om_pow : OM g (rI CPow fun i j => V.int (i ^ j.toNat)) powD := by
  intro W σ μ H st x y dx dy Q S rx ry p
  unfold powD at p
  split at p
  · obtain ⟨hl, q⟩ := post_guard p
    exact ⟨_, _, rx, ry, hl, PostG.now q S rfl⟩
  · exact p.elim
theorem um_neg : UM g (rU fun i => V.int (-i)) negD := by
  intro W σ μ H st x dx Q S rx p
  unfold negD at p
  split at p
  · exact ⟨_, rx, p.now S rfl⟩
  · exact p.elim
end
/-! ### comparisons -/
@[simp] def cmpI (f : Int → Int → Bool) (a b : D) (st : Sto) : R D := match a, b with
  | .int i, .int j => .ok (.bl (f i j)) st
  | _, _ => .no
def intsD : List D → Option (List Int)
  | [] => some []
  | .int i :: ds => match intsD ds with
    | some is => some (i :: is)
    | none => none
  | _ => none
@[simp] theorem ints_map : ∀ ns : List Int, intsD (ns.map D.int) = some ns
  | [] => rfl
  | n :: ns => by simp only [List.map_cons, intsD, ints_map ns]
theorem ints_eq : ∀ {ds : List D} {ns : List Int}, intsD ds = some ns → ds = ns.map D.int
  | [], _, e => by cases e; rfl
  | d :: ds, _, e => by
    unfold intsD at e
    split at e
    · cases ‹_ = []›
    · rename_i e0
      cases e0
      split at e
      · rename_i e1
        cases e
        rw [ints_eq e1]
        rfl
      · cases e
    · cases e
def ltD (a b : D) (st : Sto) : R D := match a with
  | .int i => match b with
    | .int j => .ok (.bl (decide (i < j))) st
    | _ => .no
  | .tup xs => match b with
    | .tup ys => ofOpt (intsD xs) fun ns => ofOpt (intsD ys) fun ms => .ok (.bl (HT.lexLt ns ms)) st
    | _ => .no
  | _ => .no
@[simp] theorem ltD_int {i j : Int} {st : Sto} : ltD (.int i) (.int j) st = .ok (.bl (decide (i < j))) st := rfl
@[simp] theorem ltD_tup {xs ys : List D} {st : Sto} : ltD (.tup xs) (.tup ys) st = ofOpt (intsD xs) fun ns => ofOpt (intsD ys) fun ms => .ok (.bl (HT.lexLt ns ms)) st := rfl
def eqD (a b : D) (st : Sto) : R D := ofOpt (toQ st a) fun p => ofOpt (toQ st b) fun q => guardR (SeqAt.shaped p = true ∧ SeqAt.shaped q = true) (.ok (.bl (PyData.eqv p q)) st)
def neD (a b : D) (st : Sto) : R D := ofOpt (toQ st a) fun p => ofOpt (toQ st b) fun q => guardR (SeqAt.shaped p = true ∧ SeqAt.shaped q = true) (.ok (.bl (!PyData.eqv p q)) st)
/-- x in y; neg: not in -/
def inD (neg : Bool) (a b : D) (st : Sto) : R D := match isDct st b with
  | true => ofOpt (dlook st b a) fun o => .ok (.bl (o.isSome ^^ neg)) st
  | false => match b with
    | .tup ys => ofOpt (toQ st a) fun p => ofOpt (toPs ys) fun ps => guardR (SeqAt.shaped p = true ∧ SeqAt.shaped (.tuple ps) = true) (.ok (.bl ((ps.any fun z => PyData.eqv z p) ^^ neg)) st)
    | b => ofOpt (toQ st a) fun p => ofOpt (itemsL st b) fun ys => ofOpt (toPs ys) fun ps => guardR (SeqAt.shaped p = true ∧ SeqAt.shaped (.list ps) = true) (.ok (.bl ((ps.any fun z => PyData.eqv z p) ^^ neg)) st)
def isNon : D → Bool
  | .non => true
  | _ => false
@[simp] theorem isNon_non : isNon .non = true := rfl
@[simp] theorem isNon_int {i : Int} : isNon (.int i) = false := rfl
@[simp] theorem isNon_tup {i : List D} : isNon (.tup i) = false := rfl
@[simp] theorem isNon_lst {i : List D} : isNon (.lst i) = false := rfl
@[simp] theorem isNon_loc {i : Nat} : isNon (.loc i) = false := rfl
@[simp] theorem isNon_bl {i : Bool} : isNon (.bl i) = false := rfl
@[simp] theorem isNon_str {i : Str} : isNon (.str i) = false := rfl
@[simp] def isD (neg : Bool) (a b : D) (st : Sto) : R D := match b with
  | .non => .ok (.bl (isNon a ^^ neg)) st
  | _ => .no
section
variable {g : G} {W : WX} {X : Cx} {σ : L2.St} {μ μ1 : Mu} {H H1 : Hp} {ρ : Env} {st : Sto}
theorem om_cmpI (f : Int → Int → Bool) : OM g (rI0 fun i j => V.bl (f i j)) (cmpI f) := by
  intro W σ μ H st x y dx dy Q S rx ry p
  unfold cmpI at p
  split at p
  · exact ⟨_, _, rx, ry, p.now S rfl⟩
  · exact p.elim
theorem op_ltA (hK : X.K = g.K) (hu : X.A.units < cLine) : OpR X (compareOp .Lt) (fun x y H Q => rI0 (fun i j => V.bl (decide (i < j))) x y H Q ∨ rLtT g.K x y H Q) := by
  rw [← hK]
  exact orOp op_lt (op_ltT hu)
theorem om_lt : OM g (fun x y H Q => rI0 (fun i j => V.bl (decide (i < j))) x y H Q ∨ rLtT g.K x y H Q) ltD := by
  intro W σ μ H st x y dx dy Q S rx ry p
  unfold ltD at p
  split at p
  · split at p
    · exact .inl ⟨_, _, rx, ry, p.now S rfl⟩
    · exact p.elim
  · split at p
    · obtain ⟨ns, e1, p⟩ := post_opt p
      obtain ⟨ms, e2, p⟩ := post_opt p
      obtain ⟨a, vs, rfl, k1, r1⟩ := rx
      obtain ⟨b, ws, rfl, k2, r2⟩ := ry
      obtain rfl := ints_eq e1
      obtain rfl := ints_eq e2
      obtain rfl := r1.ints
      obtain rfl := r2.ints
      rw [ints_map, ofOpt_some, ints_map, ofOpt_some] at p
      exact .inr ⟨a, b, ns, ms, rfl, rfl, SqT.of k1.2, SqT.of k2.2, PostG.now p S rfl⟩
    · exact p.elim
  · exact p.elim
theorem op_eqA (hK : X.K = g.K) (hu : X.A.units + 65 < cLine) : OpR X (compareOp .Eq) (rEqD g.K) := by rw [← hK]; exact op_eqD (by omega)
theorem op_neA (hK : X.K = g.K) (hu : X.A.units + 65 < cLine) : OpR X (compareOp .NotEq) (rNeD g.K) := by rw [← hK]; exact op_neD (by omega)
theorem om_eq : OM g (rEqD g.K) eqD := by
  intro W σ μ H st x y dx dy Q S rx ry p
  obtain ⟨a, e1, p⟩ := post_opt p
  obtain ⟨b, e2, p⟩ := post_opt p
  obtain ⟨hl, p⟩ := post_guard p
  exact ⟨a, b, toQ_dp S rx e1, toQ_dp S ry e2, hl.1, hl.2, PostG.now p S rfl⟩
theorem om_ne : OM g (rNeD g.K) neD := by
  intro W σ μ H st x y dx dy Q S rx ry p
  obtain ⟨a, e1, p⟩ := post_opt p
  obtain ⟨b, e2, p⟩ := post_opt p
  obtain ⟨hl, p⟩ := post_guard p
  exact ⟨a, b, toQ_dp S rx e1, toQ_dp S ry e2, hl.1, hl.2, PostG.now p S rfl⟩
def rDin (neg : Bool) : R2 := fun y x H Q => ∃ a o, x = .ref a ∧ DGet H a y o ∧ Q (.bl (o.isSome ^^ neg)) H
theorem op_din (hu : X.A.units + 65 < cLine) : OpR X (compareOp .In) (rDin false) := by
  intro pins s σ H x y v u Q I rx ry h
  obtain ⟨a, o, rfl, gg, q⟩ := h
  obtain rfl : u = Value.ref a := ry
  exact d_in (by omega) I gg rx fun s3 I3 => ⟨.bl o.isSome, H, I3, rfl, by rw [Bool.xor_false] at q; exact q⟩
theorem op_dnin (hu : X.A.units + 65 < cLine) : OpR X (compareOp .NotIn) (rDin true) := by
  intro pins s σ H x y v u Q I rx ry h
  obtain ⟨a, o, rfl, gg, q⟩ := h
  obtain rfl : u = Value.ref a := ry
  exact d_notIn (by omega) I gg rx fun s3 I3 => ⟨.bl (!o.isSome), H, I3, rfl, by rw [Bool.xor_true] at q; exact q⟩
def rInA (K : Frag) (neg : Bool) : R2 := fun x y H Q => rDin neg x y H Q ∨ ((∃ d ds, Dp K H x d ∧ Dp K H y (.tuple ds) ∧ SeqAt.shaped d = true ∧ SeqAt.shaped (.tuple ds) = true ∧ Q (.bl ((ds.any fun z => PyData.eqv z d) ^^ neg)) H) ∨
  ∃ d ds, Dp K H x d ∧ Dp K H y (.list ds) ∧ SeqAt.shaped d = true ∧ SeqAt.shaped (.list ds) = true ∧ Q (.bl ((ds.any fun z => PyData.eqv z d) ^^ neg)) H)
theorem op_inA (hK : X.K = g.K) (hu : X.A.units + 65 < cLine) : OpR X (compareOp .In) (rInA g.K false) := by
  intro pins s σ H x y v u Q I rx ry h
  rw [← hK] at h
  unfold rInA at h
  simp only [Bool.xor_false] at h
  rcases h with h | h | h
  · exact op_din hu pins s σ H x y v u Q I rx ry h
  · exact op_inT rfl hu pins s σ H x y v u Q I rx ry h
  · exact op_inD hu pins s σ H x y v u Q I rx ry h
theorem op_ninA (hK : X.K = g.K) (hu : X.A.units + 65 < cLine) : OpR X (compareOp .NotIn) (rInA g.K true) := by
  intro pins s σ H x y v u Q I rx ry h
  rw [← hK] at h
  unfold rInA at h
  simp only [Bool.xor_true] at h
  rcases h with h | h | h
  · exact op_dnin hu pins s σ H x y v u Q I rx ry h
  · exact op_notInT rfl hu pins s σ H x y v u Q I rx ry h
  · exact op_notInD hu pins s σ H x y v u Q I rx ry h
theorem ro_some {o : Option D} {ov : Option V} (h : RO g μ H o ov) : ov.isSome = o.isSome := by
  cases o <;> cases ov <;> first
    | rfl
    | exact h.elim
theorem om_in (neg : Bool) : OM g (rInA g.K neg) (inD neg) := by
  intro W σ μ H st x y dx dy Q S rx ry p
  unfold inD at p
  split at p
  · obtain ⟨o, e1, p⟩ := post_opt p
    obtain ⟨a, ov, rfl, gg, ro⟩ := dlook_at S ry rx e1
    exact .inl ⟨a, ov, rfl, gg, by rw [ro_some ro]; exact PostG.now p S rfl⟩
  · split at p
    · obtain ⟨d, e1, p⟩ := post_opt p
      obtain ⟨ps, e2, p⟩ := post_opt p
      obtain ⟨hl, p⟩ := post_guard p
      obtain ⟨b, ws, rfl, k2, r2⟩ := ry
      exact .inr (.inl ⟨d, ps, toQ_dp S rx e1, .tup (SqT.of k2.2) (toPs_dp r2 e2), hl.1, hl.2, PostG.now p S rfl⟩)
    · obtain ⟨d, e1, p⟩ := post_opt p
      obtain ⟨ys, e3, p⟩ := post_opt p
      obtain ⟨ps, e2, p⟩ := post_opt p
      obtain ⟨hl, p⟩ := post_guard p
      obtain ⟨b, ws, rfl, k2, r2⟩ := itemsL_at S ry e3
      exact .inr (.inr ⟨d, ps, toQ_dp S rx e1, .lst (SqL.of k2) (toPs_dp r2 e2), hl.1, hl.2, PostG.now p S rfl⟩)
theorem isNon_at {d : D} {x : V} (h : RV g μ H d x) : decide (x = .non) = isNon d := by
  cases d with
  | non => rw [show x = V.non from h]; exact decide_eq_true rfl
  | bl b => rw [show x = V.bl b from h]; exact decide_eq_false (fun z => nomatch z)
  | int b => rw [show x = V.int b from h]; exact decide_eq_false (fun z => nomatch z)
  | str b => rw [show x = V.str b from h]; exact decide_eq_false (fun z => nomatch z)
  | tup xs => obtain ⟨a, vs, rfl, _⟩ := h; exact decide_eq_false (fun z => nomatch z)
  | lst xs => obtain ⟨a, vs, rfl, _⟩ := h; exact decide_eq_false (fun z => nomatch z)
  | rol xs => obtain ⟨a, vs, rfl, _⟩ := h; exact decide_eq_false (fun z => nomatch z)
  | dct xs ys => obtain ⟨a, vs, rfl, _⟩ := h; exact decide_eq_false (fun z => nomatch z)
  | loc xs => obtain ⟨a, rfl, _⟩ := h; exact decide_eq_false (fun z => nomatch z)
  | nam xs => obtain ⟨a, rfl, _⟩ := h; exact decide_eq_false (fun z => nomatch z)
  | err xs ys => obtain ⟨a, vs, rfl, _⟩ := h; exact decide_eq_false (fun z => nomatch z)
theorem om_is : OM g (fun x y H Q => y = .non ∧ Q (.bl (decide (x = .non))) H) (isD false) := by
  intro W σ μ H st x y dx dy Q S rx ry p
  unfold isD at p
  split at p
  · exact ⟨ry, by rw [isNon_at rx]; exact PostG.now p S (by rw [Bool.xor_false]; rfl)⟩
  · exact p.elim
end
/-! ### by the operators' signs -/
section
variable {g : G} {W : WX} {X : Cx} {a b : Expr} {ma mb : Env → Sto → R D} {pos : Pos}
theorem pm_add (hK : X.K = g.K) (ha : PM g W X a ma) (hb : PM g W X b mb) : PM g W X (.BinOp a .Add b pos) (mBin addD ma mb) := pm_bin (op_addA hK) om_add ha hb
theorem pm_sub (ha : PM g W X a ma) (hb : PM g W X b mb) : PM g W X (.BinOp a .Sub b pos) (mBin subD ma mb) := pm_bin op_sub om_sub ha hb
theorem pm_mul (hK : X.K = g.K) (ha : PM g W X a ma) (hb : PM g W X b mb) : PM g W X (.BinOp a .Mult b pos) (mBin mulD ma mb) := pm_bin (op_mulA hK) om_mul ha hb
theorem pm_fdiv (ha : PM g W X a ma) (hb : PM g W X b mb) : PM g W X (.BinOp a .FloorDiv b pos) (mBin fdivD ma mb) := pm_bin op_fdiv om_fdiv ha hb
theorem pm_mod (ha : PM g W X a ma) (hb : PM g W X b mb) : PM g W X (.BinOp a .Mod b pos) (mBin modD ma mb) := pm_bin op_mod om_mod ha hb
theorem pm_pow (ha : PM g W X a ma) (hb : PM g W X b mb) : PM g W X (.BinOp a .Pow b pos) (mBin powD ma mb) := pm_bin op_pow om_pow ha hb
theorem pm_neg (ha : PM g W X a ma) : PM g W X (.UnaryOp .USub a pos) (mUn negD ma) := pm_un un_neg um_neg ha
end
end Pl

set_option maxHeartbeats 4000000
/-! a set display with one element, an int -/
namespace Hn
open PySem PySem.Spec PyProof.Rows L2 EF
open PySem.W (Frag keepIn)
theorem kds_of {K : Frag} {c : Value} {q : Str} (h : W.codeIn K c q = true) : W.kdsCode K c = true := by
  unfold W.codeIn at h
  unfold W.kdsCode
  split at h
  · split at h
    · rename_i e
      simp only [e]
    · cases h
  · cases h
end Hn

set_option maxHeartbeats 4000000
/-! enumerate(t) of a tuple -/
namespace Hn
open PySem PySem.Spec PyProof.Rows L2 EF
open PySem.W (Frag keepIn)
/-- enumerate's record, over the iterator at it, which stands at i -/
def enumObj (it : Addr) : Obj := { cls := .type "enumerate", data := .fields #[.none, .bool false, .ref it, rawInt 0, .none, .none] }
theorem wpAny_if {β : Type} {M : Model} {A : Around} {c : Prop} [Decidable c] {x y : Sem β} {Q : β → Shared → Prop} {E : Value → Shared → Prop} {s : Shared} (hx : wpAny M A x Q E s) (hy : wpAny M A y Q E s) : wpAny M A (if c then x else y) Q E s := by
  split
  · exact hx
  · exact hy
theorem meets_enum1 {v : Value} {o : Obj} {H : Heap → Prop} (b : Begins v o H) : Meets (Builtin.«enumerate.__new__» { pos := [.type "enumerate", v] }) fun _ R s =>
    H s.heap ∧ R (.ok (.ret (.ref (s.heap.push o).objs.size))) ⟨(s.heap.push o).push (enumObj s.heap.objs.size), s.gens, s.drawn, s.toks, s.os⟩ := by
  refine Meets.of_wp fun prog w A R s h => ?_
  obtain ⟨hs, h⟩ := h
  unfold Builtin.«enumerate.__new__»
  refine wpAny_bind ?_
  unfold Builtin.SmallTypes.newClass
  refine wpAny_bind (wpAny_pure (wpAny_ite_false (by rfl) (wpAny_bind (wpAny_of_eq sub_enumerate (wpAny_ite_false (by rfl) (wpAny_pure ?_))))))
  refine wpAny_ite_true (by rfl) (wpAny_bind ?_)
  unfold Builtin.SmallTypes.calledThroughType
  refine wpAny_bind (wpAny_stack_any fun st => ?_)
  have key : ∀ short : Bool, wpAny (model prog w) A.in1 (do let it ← pyIter v; let r ← Builtin.SmallTypes.newRecord (.type "enumerate") (Builtin.SmallTypes.ownedTupleFields ++ [it, rawInt 0, .none, .none]); ret r) (fun fin s' => ∃ v, fin = Fin.done (Flow.ret v) ∧ R (Except.ok (Flow.ret v)) s') (fun e s' => R (Except.error e) s') s := by
    intro _
    refine wpAny_bind (b.iter _ _ _ _ _ _ hs ?_)
    refine wpAny_bind ?_
    unfold Builtin.SmallTypes.newRecord
    refine wpAny_newObj_type (wpAny_pure ⟨_, rfl, h⟩) ?_
    show 6 ≤ sizeLine + 2
    rw [sizeLine_eq]
    omega
  refine wpAny_pure (wpAny_if ?_ ?_)
  · exact wpAny_bind (wpAny_of_eq (a := (v, none)) (by rfl) (key true))
  · exact wpAny_bind (wpAny_of_eq (a := (v, none)) (by rfl) (key true))
theorem call_enum1 {prog : Program} {w : World} {A : Around} {E : Value → Shared → Prop} {s : Shared} {v : Value} {o : Obj} {H : Heap → Prop} {Q : Value → Shared → Prop} (b : Begins v o H) (hs : H s.heap)
    (h : ∀ h' : Heap, IsEnum h' (s.heap.objs.size + 1) s.heap.objs.size 0 .none → h'.get? s.heap.objs.size = some o → (∀ b o, s.heap.get? b = some o → h'.get? b = some o) → Q (.ref (s.heap.objs.size + 1)) ⟨h', s.gens, s.drawn, s.toks, s.os⟩) :
    wpAny (model prog w) A (call (.type "enumerate") [v]) Q E s := by
  refine callType_new F.called_enumerate (by decide) (F.typeCall_enumerate_1 v) (F.newCall_enumerate_1 v) (fun obj => F.args_object_init_2 obj v) F.entry_enumerate_new (meets_enum1 b) ⟨hs, ?_⟩
  have hz := Heap.size_push s.heap o
  have he : ((s.heap.push o).push (enumObj s.heap.objs.size)).get? (s.heap.objs.size + 1) = some (enumObj s.heap.objs.size) := by
    rw [← hz]
    exact Heap.get?_push_size _ rfl
  show Shared.TypeIs _ (.ref (s.heap.push o).objs.size) "enumerate" ∧ Q (.ref (s.heap.push o).objs.size) _
  rw [hz]
  exact ⟨⟨_, he, rfl⟩, h _ he (Heap.get?_push_of_some _ (Heap.get?_push_size _ b.free)) fun b o e => Heap.get?_push_of_some _ (Heap.get?_push_of_some _ e)⟩
/-- the turns of enumerate(t), t a tuple of xs -/
def IteT (K : Frag) (a : Addr) (xs : List V) : It where
  go := fun i H => SqT K H a xs ∧ i < xs.length
  yld := fun i H v H' => ∃ T x, v = .ref T ∧ H T = none ∧ H' = upd H T (.tup [.int i, x]) ∧ xs[i]? = some x
  stop := fun i H => SqT K H a xs ∧ xs.length ≤ i
theorem turn_enumT {P : Program} {w : World} {K : Frag} {elts : List Expr} {kk : Nat} {tpos : Pos} (a e it : Addr) (xs : List V) (h1 : e ≠ it) (h2 : e ≠ a) (h3 : a ≠ it) :
    Turn P w K (.Tuple elts kk tpos) (IteT K a xs) [e, it] e fun i h => i ≤ xs.length ∧ (∃ old, IsEnum h e it i old) ∧ h.IsTupleIter it a i where
  mem := List.mem_cons_self
  obj := by
    rintro i h ⟨_, ⟨old, he⟩, ⟨o, ho, _, hd⟩⟩ b hb
    rcases List.mem_cons.mp hb with rfl | hb
    · exact ⟨_, he, fun v q => nomatch q⟩
    · obtain rfl := List.mem_singleton.mp hb
      refine ⟨o, ho, fun v q => ?_⟩
      rw [hd] at q
      cases q
  keep := by
    rintro i h h' ⟨hi, ⟨old, he⟩, ⟨o, ho, hc, hd⟩⟩ k
    exact ⟨hi, ⟨old, k e List.mem_cons_self _ he⟩, o, k it (List.mem_cons_of_mem _ List.mem_cons_self) _ ho, hc, hd⟩
  item := by
    rintro X rfl rfl rfl hc i pins s σ H E I hf ⟨hi, he, hit⟩ ⟨hq, hlt⟩
    obtain ⟨its, rv, hT, _⟩ := I.tuple hq
    have W := WalksT.enumerateD (A := X.A) (Draws.tuple (prog := X.prog) (w := X.w) (A := X.A.in1) (I.ok.hd hc) it a h3 its.toArray) e h1 (fun z => (List.mem_cons.mp z).elim h1 fun z => h2 (List.mem_singleton.mp z)) List.mem_cons_self
    have hlen : its.toArray.size = xs.length := by rw [List.size_toArray, rv.length]
    obtain ⟨x, hx⟩ : ∃ x, xs[i]? = some x := ⟨_, List.getElem?_eq_getElem hlt⟩
    obtain ⟨u, hu, ru⟩ := rv.get hx
    refine W.item i s _ E (by omega) ⟨he, hit, hT⟩ fun T vals h' tk hP hTs hTv mid k1 => ⟨.ref T, rfl, ?_⟩
    obtain ⟨t, y, hy, rfl⟩ := hP
    have huy : u = y := by
      rw [List.getElem?_toArray, hu] at hy
      exact Option.some.inj hy
    subst huy
    refine W.go elts kk tpos i T _ _ E mid fun h'' st'' k2 => ?_
    have nT := W.apart i T h' mid
    have hT2 : IsTup h'' T #[.int i t, u] := by
      obtain ⟨o, ho, hc, n, hd⟩ := hTv
      exact ⟨o, k2 T o nT ho, hc, n, hd⟩
    have new : ObjOk X.prog X.w (upd H T (.tup [.int i, x])) h'' T (.tup [.int i, x]) := by
      refine ⟨by rw [sizeLine_eq]; exact Nat.le_of_ble_eq_true rfl, [.int i t, u], .cons ⟨t, rfl⟩ (.cons ru .nil), hT2⟩
    have I1 := I.turnedNew (t' := tk) (ch := [e, it]) (fun b o nb q => k2 b o nb (k1 b o nb q)) hf hTs new
    refine ⟨.ref T, _, I1, rfl, ⟨T, x, rfl, HOk.fresh I.hok hTs, rfl, hx⟩, ⟨hlt, st''.1, st''.2.1⟩, fun b hb => ?_⟩
    have nb : b ≠ T := fun z => nT (z ▸ hb)
    rw [upd_ne nb]
    exact (hf b hb).1
  done := by
    rintro X rfl rfl rfl hc i pins s σ H E I hf ⟨hi, he, hit⟩ ⟨hq, hle⟩
    obtain ⟨its, rv, hT, _⟩ := I.tuple hq
    have W := WalksT.enumerateD (A := X.A) (Draws.tuple (prog := X.prog) (w := X.w) (A := X.A.in1) (I.ok.hd hc) it a h3 its.toArray) e h1 (fun z => (List.mem_cons.mp z).elim h1 fun z => h2 (List.mem_singleton.mp z)) List.mem_cons_self
    have hlen : its.toArray.size = i := by rw [List.size_toArray, ← rv.length]; omega
    refine W.done s _ E ?_ fun h' tk k => ⟨rfl, I.turnedL (ch := [e, it]) (fun b o nb q => k b o nb q) hf⟩
    rw [hlen]
    exact ⟨he, hit, hT⟩
  self := by
    rintro A i s Q E ⟨_, ⟨old, he⟩, _⟩ q
    exact wpAny_pyIter_enum he q
/-- for i, x in enumerate(t), t a tuple -/
def iEnumT (K : Frag) (ta : TA) : TI := fun σ H R => ta σ H fun vs H1 => ∃ a xs, vs = [.ref a] ∧ SqT K H1 a xs ∧ R (IteT K a xs) H1
theorem pi_enumT {X : Cx} {K : Frag} {e : Expr} {ta : TA} {p pos tpos : Pos} {elts : List Expr} {kk : Nat} (hK : X.K = K) (hg : Gl X "enumerate") (hm : X.mg "enumerate" = none) (ha : PA X [e] ta) (hs : starEach [e] X.env = [(false, eval e X.env)] := by rfl) :
    PI X (.Tuple elts kk tpos) (.Call (.Name "enumerate" p) [e] [] pos) (iEnumT K ta) := by
  subst hK
  refine ⟨fun pins s σ H R I h => ?_⟩
  refine Call_ (ld_blt I hg hm boot_enumerate (callWith_type1 (thn (ha.run pos pins s σ H _ I h) ?_) hs rfl) (by decide) (by decide)) rfl
  rintro us s1 ⟨vs, H1, I1, r1, a, xs, rfl, hq, q⟩
  rw [Vals.ref1 r1]
  obtain ⟨its, rv, hT, hz⟩ := I1.tuple hq
  refine call_enum1 (begins_tuple a its.toArray) hT fun h' he hit k => ?_
  refine wpAny_pyIter_enum he ?_
  have I2 := I1.kept (t' := s1.toks) k
  have ha1 : a < s1.heap.objs.size := by
    obtain ⟨o, ho, _⟩ := hT
    exact Heap.lt_size ho
  refine ⟨s1.heap.objs.size + 1, [s1.heap.objs.size + 1, s1.heap.objs.size], _, IteT X.K a xs, H1, rfl, I2, turn_enumT a _ _ xs (Nat.succ_ne_self _) (Nat.ne_of_gt (Nat.lt_succ_of_lt ha1)) (Nat.ne_of_lt ha1), ⟨Nat.zero_le _, ⟨_, he⟩, ⟨_, hit, rfl, rfl⟩⟩, fun b hb => ?_, q⟩
  have hle : s1.heap.objs.size ≤ b := by
    rcases List.mem_cons.mp hb with rfl | hb
    · exact Nat.le_add_right _ _
    · rw [List.mem_singleton.mp hb]
      exact Nat.le_refl _
  exact I1.fpOk hle (HOk.fresh I1.hok hle)
end Hn

set_option maxHeartbeats 4000000
/-! defs that may raise an own error without a field -/
namespace Hn
open PySem PySem.Spec PyProof.Rows L2 EF
open PySem.W (Frag keepIn)
/-- what the written part says of an own error that is raised -/
structure Err (K : Frag) (mg : Str → Option Value) (x : Str) (C : Addr) : Prop where
  g : mg x = some (.ref C)
  k : keepIn K (.ref C) = true
  e : PySem.W.excIn K C PySem.HandSPX.veTail "ValueError.__new__" = true
  b : PySem.W.subIn K (.ref C) (.type "BaseException") = some true
  t : PySem.W.typeIn K (.ref C) = some (.type "type")
theorem Err.raises {X : Cx} {x : Str} {C : Addr} (T : Err X.K X.mg x C) : Raises X (.ref C) := raises_own T.b T.t
/-- a def that keeps a promise and may raise -/
def KeptX (P : Program) (w : World) (K : Frag) (mg : Str → Option Value) (base : Heap) (k : Nat) (x : Str) (ps : List Str) (sp : Sp) : Prop :=
  ∃ f fd, mg x = some (.ref f) ∧ keepIn K (.ref f) = true ∧ Binds K fd ps [] ∧ FnOk P w K mg base (L2.CX P w) k f fd ps sp
section
variable {P : Program} {w : World} {K : Frag} {mg : Str → Option Value} {base : Heap}
theorem KeptX.mono {j k : Nat} {x : Str} {ps : List Str} {sp : Sp} (G : KeptX P w K mg base j x ps sp) (h : j ≤ k) : KeptX P w K mg base k x ps sp := by
  obtain ⟨f, fd, a, b, c, d⟩ := G
  exact ⟨f, fd, a, b, c, d.mono h⟩
theorem Dfn.keptX {x : Str} {st : Stmt} {N ps : List Str} {k : Nat} {sp : Sp} (D : Dfn K mg x st ps) (S : FnScope N ps (defScope st)) (len : ∀ vs H Q E, sp vs H Q E → vs.length = ps.length)
    (hbody : ∀ (f : Addr) (cdv : Value) (A : Around) (outer : List Env) (s : Shared) (H : Hp) (vs : List V) (Q : VK) (E : XK), Room k (A.deeper (envOfC x (defScope st) s.heap.objs.size f cdv)) → sp vs H Q E →
      ∃ t, PSs (cxOf (L2.CX P w) P w K mg base N x (defScope st) f cdv A outer s H E) (defBody st) t ∧ t { nx := fun _ H' => Q .non H', rt := Q } (start N vs) H) :
    KeptX P w K mg base (k + 1) x ps sp := by
  obtain ⟨f, fd, F, b, g⟩ := D
  exact ⟨f, fd, g, F.kp, b, F.okX S len fun cdv A outer s H vs Q E hr h => hbody f cdv A outer s H vs Q E hr h⟩
end
section
variable {X : Cx} {k : Nat} {x : Str} {ps : List Str} {sp : Sp} {e : Expr} {es : List Expr} {t : TA} {p pos : Pos} {E : L2.St → XK}
/-- f(e, ..), f a def that may raise: what it raises must be wished for here -/
theorem pe_kx (G : KeptX X.prog X.w X.K X.mg X.base k x ps sp) (hr : Room k X.A) (hg : Gl X x) (hx : ∀ σ, PassesAt (L2.CX X.prog X.w) X σ (E σ)) (ha : PA X (e :: es) t) (hdb : (x == ("__debug__" : Str)) = false := by decide)
    (he : starEach (e :: es) X.env = (false, eval e X.env) :: starEach es X.env := by rfl) (hpl : (backTo pos (starEach es X.env)).any (·.1) = false := by rfl) : PE X (.Call (.Name x p) (e :: es) [] pos) (tCallS sp E t) := by
  obtain ⟨f, fd, gm, kp, b, F⟩ := G
  exact pe_callS F hr hg gm kp b hx ha hdb he hpl
/-- X(), X an own error without an __init__ -/
theorem pmk_own0 {C : Addr} (T : Err X.K X.mg x C) (hg : Gl X x) (hdb : (x == ("__debug__" : Str)) = false := by decide) : PMk X (.Call (.Name x p) [] [] pos) (fun _ H Q => Q (.ref C) none H) := by
  intro pins s σ H Q I h
  refine wpAny_Call_Name_kw (ld_glob I hg T.g ?_ hdb)
  refine PySem.W.callWith_K0 I.kIn T.k ?_
  show wpAny _ _ (call (.ref C) []) _ _ _
  obtain ⟨bm, N, nm, qn, bs, hdct, sn, sub, ab, col, dd, k0, k1, k2, k3, k5, mN, hC, hN, hni, Z⟩ := exc_obj I.kIn T.e
  exact wpAny_call_exc_subT F.excBase_ValueError Z hC hN hni (fun h' e hm => mk_of I hm T.raises h (HOk.gone I.hok hm.new)) (Nat.zero_le _)
end
end Hn

set_option maxHeartbeats 4000000
/-! raise C(e), C an own error with a field -/
namespace Hn
open PySem PySem.Spec PyProof.Rows L2 EF
open PySem.W (Frag keepIn)
section
variable {X : Cx} {C : Addr} {f x : Str} {e : Expr} {te : TE} {p pos : Pos}
end
/-- what the written part says of an own error with a field -/
structure ErrF (P : Program) (K : Frag) (mg : Str → Option Value) (x f : Str) (C : Addr) : Prop where
  g : mg x = some (.ref C)
  e : ErrC P K mg C f
  b : PySem.W.subIn K (.ref C) (.type "BaseException") = some true
  t : PySem.W.typeIn K (.ref C) = some (.type "type")
theorem ErrF.raises {X : Cx} {P : Program} {x f : Str} {C : Addr} (T : ErrF P X.K X.mg x f C) : Raises X (.ref C) := raises_own T.b T.t
end Hn

set_option maxHeartbeats 4000000
/-! slices of a tuple -/
namespace Hn
open PySem PySem.Spec PyProof.Rows L2 EF
open PySem.W (Frag keepIn)
theorem cut_all {xs : List V} {lo hi : Option Int} (h : HT.sIx xs.length 0 lo = 0 ∧ HT.sIx xs.length xs.length hi = xs.length) : cutV xs lo hi = xs := by
  unfold cutV
  rw [h.1, h.2, Nat.sub_zero, List.drop_zero, List.take_length]
end Hn

set_option maxHeartbeats 4000000
/-! subscripts, slices, truth, calls of built-ins, calls of own defs; what is dropped behind a call -/
namespace Pl
open PySem PySem.Spec PyProof.Rows L2 Hn
open PySem.W (Frag keepIn)
theorem hu65 {A : Around} {k : Nat} (hr : Room k A) : A.units + 65 < cLine := by have := hr.un; omega
/-! ### subscripts -/
def ixD (a i : D) (st : Sto) : R D := match isDct st a with
  | true => ofOpt (dlook st a i) fun o => ofOpt o fun d => .ok d st
  | false => match a with
    | .str s => match i with
      | .int j => guardR (s.length ≤ lim) (ofOpt (atI s.cps.toList j) fun c => .ok (.str ⟨#[c]⟩) st)
      | _ => .no
    | a => match i with
      | .int j => ofOpt (itemsS st a) fun xs => ofOpt (atI xs j) fun d => .ok d st
      | _ => .no
@[simp] theorem ixD_tup {xs : List D} {j : Int} {st : Sto} : ixD (.tup xs) (.int j) st = ofOpt (atI xs j) fun d => .ok d st := rfl
@[simp] theorem ixD_lst {xs : List D} {j : Int} {st : Sto} : ixD (.lst xs) (.int j) st = ofOpt (atI xs j) fun d => .ok d st := rfl
@[simp] theorem ixD_rol {xs : List D} {j : Int} {st : Sto} : ixD (.rol xs) (.int j) st = ofOpt (atI xs j) fun d => .ok d st := rfl
theorem ixD_loc {n : Nat} {xs : List D} {j : Int} {st : Sto} (h : st[n]? = some (.lst xs)) : ixD (.loc n) (.int j) st = ofOpt (atI xs j) fun d => .ok d st := by
  simp only [ixD, isDct, h, itemsS, itemsR, ofOpt_some]
section
variable {g : G} {W : WX} {X : Cx} {a b : Expr} {ma mb : Env → Sto → R D} {pos : Pos} {σ : L2.St} {μ μ1 : Mu} {H H1 : Hp} {ρ : Env} {st : Sto}
theorem _root_.L2.PE.or {X : Cx} {e : Expr} {t t' : TE} (h : PE X e t) (h' : PE X e t') : PE X e (fun σ H Q => t σ H Q ∨ t' σ H Q) := ⟨fun pins s σ H Q I q => q.elim (h.run pins s σ H Q I) (h'.run pins s σ H Q I)⟩
def rIxA (K : Frag) : R2 := fun x y H Q => rIxL K x y H Q ∨ (rIxT K x y H Q ∨ rIxS x y H Q)
theorem ix_A (hK : X.K = g.K) : IxR X (rIxA g.K) := by
  rw [← hK]
  exact ix_list.or (ix_tup.or ix_str)
/-- what stands at the same place -/
theorem atI_at {ds : List D} {vs : List V} {j : Int} {d : D} (r : RVs g μ H ds vs) (e : atI ds j = some d) : ∃ v, atI vs j = some v ∧ RV g μ H d v := by
  unfold atI at e ⊢
  rw [r.length]
  cases h : ixN ds.length j with
  | none => rw [h] at e; cases e
  | some n =>
    rw [h] at e
    obtain ⟨v, h1, h2⟩ := r.at (show ds[n]? = some d from e)
    exact ⟨v, h1, h2⟩
theorem pm_ix (hK : X.K = g.K) (hu : X.A.units + 65 < cLine) (ha : PM g W X a ma) (hb : PM g W X b mb) (hs : PlainIx b) (hn : NoSl b) : PM g W X (.Subscript a b pos) (mBin ixD ma mb) :=
  ((pe_dget (by omega) ha hb hn).or (pe_ix (ix_A hK) ha hb hs)).imp fun σ H Q ⟨μ, ρ, st, rel, p⟩ => by
    by_cases hd : ∃ dx st1 dy st2, ma ρ st = .ok dx st1 ∧ mb ρ st1 = .ok dy st2 ∧ isDct st2 dx = true
    · obtain ⟨dx, st1, dy, st2, e1, e2, e3⟩ := hd
      refine .inl (tG_bindE rel p fun μ1 dx' st1' x H1 e1' go1 rel1 rv1 p1 => tG_bindE rel1 p1 fun μ2 dy' st2' y H2 e2' go2 rel2 rv2 p2 => ?_)
      rw [e1] at e1'
      cases e1'
      rw [e2] at e2'
      cases e2'
      unfold ixD at p2
      rw [e3] at p2
      obtain ⟨o, e4, p2⟩ := post_opt p2
      obtain ⟨d, rfl, p2⟩ := post_opt p2
      obtain ⟨l, ov, rfl, gg, ro⟩ := dlook_at rel2.sto (rv1.go go2) rv2 e4
      cases ov with
      | none => exact ro.elim
      | some v => exact ⟨l, v, rfl, gg, PostG.now p2 rel2.sto ro⟩
    · refine .inr (tG_bindE rel p fun μ1 dx st1 x H1 e1 go1 rel1 rv1 p1 => tG_bindE rel1 p1 fun μ2 dy st2 y H2 e2 go2 rel2 rv2 p2 => ?_)
      have e3 : isDct st2 dx = false := by
        cases h : isDct st2 dx with
        | false => rfl
        | true => exact absurd ⟨dx, st1, dy, st2, e1, e2, h⟩ hd
      unfold ixD at p2
      rw [e3] at p2
      simp only at p2
      split at p2
      · split at p2
        · obtain ⟨hl, p2⟩ := post_guard p2
          obtain ⟨c, e4, p2⟩ := post_opt p2
          exact .inr (.inr ⟨_, _, c, rv1.go go2, rv2, lim_le hl, e4, PostG.now p2 rel2.sto rfl⟩)
        · exact p2.elim
      · split at p2
        · obtain ⟨xs, e4, p2⟩ := post_opt p2
          obtain ⟨d, e5, p2⟩ := post_opt p2
          obtain ⟨l, vs, rfl, hl, r⟩ := itemsS_at rel2.sto (rv1.go go2) e4
          obtain ⟨v, e6, rv⟩ := atI_at r e5
          rcases hl with hl | hl
          · exact .inr (.inl ⟨l, vs, _, v, rfl, rv2, hl, e6, PostG.now p2 rel2.sto rv⟩)
          · exact .inl ⟨l, vs, _, v, rfl, rv2, hl, e6, PostG.now p2 rel2.sto rv⟩
        · exact p2.elim
/-! ### slices -/
def cutD (xs : List D) (lo hi : Option Int) : List D := (xs.drop (HT.sIx xs.length 0 lo)).take (HT.sIx xs.length xs.length hi - HT.sIx xs.length 0 lo)
theorem cut_at {ds : List D} {vs : List V} {lo hi : Option Int} (r : RVs g μ H ds vs) : RVs g μ H (cutD ds lo hi) (cutV vs lo hi) := by
  unfold cutD cutV
  rw [r.length]
  exact (r.drop _).take _
abbrev MO := Env → Sto → R (Option Int)
@[simp] def mNoPart (_ : Env) (st : Sto) : R (Option Int) := .ok none st
@[simp] def intOf (d : D) (st : Sto) : R (Option Int) := match d with
  | .int i => .ok (some i) st
  | _ => .no
@[simp] def mPart (m : Env → Sto → R D) (ρ : Env) (st : Sto) : R (Option Int) := (m ρ st).bind intOf
abbrev PMO (g : G) (W : WX) (X : Cx) (e : Option Expr) (m : MO) : Prop := PO X e (tG g W (fun _ _ a b => b = a) m)
theorem _root_.L2.PO.imp {X : Cx} {e : Option Expr} {t t' : TO} (h : PO X e t) (k : ∀ σ H Q, t' σ H Q → t σ H Q) : PO X e t' := ⟨fun pins s σ H Q I q => h.run pins s σ H Q I (k _ _ _ q)⟩
theorem pmo_none : PMO g W X none mNoPart := po_none.imp fun σ H Q ⟨μ, ρ, st, rel, p⟩ => PostG.now p rel.sto rfl
theorem pmo_some (h : PM g W X a ma) : PMO g W X (some a) (mPart ma) := (po_some h).imp fun σ H Q ⟨μ, ρ, st, rel, p⟩ => tG_bind rel p fun μ1 d st1 x H1 go1 rel1 rv1 p1 => by
  cases d with
  | int i => exact ⟨i, rv1, PostG.now (show PostG g W σ μ1 H1 _ (.ok (some i) st1) Q from p1) rel1.sto rfl⟩
  | _ => exact p1.elim
def slD (d : D) (lo hi : Option Int) (st : Sto) : R D := match d with
  | .tup xs => .ok (.tup (cutD xs lo hi)) st
  | d => ofOpt (itemsR st d) fun xs => .ok (.lst (cutD xs lo hi)) st
@[simp] theorem slD_tup {xs : List D} {lo hi : Option Int} {st : Sto} : slD (.tup xs) lo hi st = .ok (.tup (cutD xs lo hi)) st := rfl
@[simp] theorem slD_lst {xs : List D} {lo hi : Option Int} {st : Sto} : slD (.lst xs) lo hi st = .ok (.lst (cutD xs lo hi)) st := rfl
@[simp] theorem slD_rol {xs : List D} {lo hi : Option Int} {st : Sto} : slD (.rol xs) lo hi st = .ok (.lst (cutD xs lo hi)) st := rfl
@[simp] def mSl (ma : Env → Sto → R D) (ml mh : MO) (ρ : Env) (st : Sto) : R D := (ma ρ st).bind fun x st1 => (ml ρ st1).bind fun l st2 => (mh ρ st2).bind fun h st3 => slD x l h st3
theorem sl_A (hK : X.K = g.K) : SlR X (fun x lo hi H Q => rSlA g.K x lo hi H Q ∨ rSlL g.K x lo hi H Q) := by
  rw [← hK]
  exact sl_tupA.or sl_list
variable {ml mh : MO} {lo hi : Option Expr} {p2 : Pos}
theorem pm_slice (hK : X.K = g.K) (ha : PM g W X a ma) (hl : PMO g W X lo ml) (hh : PMO g W X hi mh) : PM g W X (.Subscript a (.Slice lo hi none p2) pos) (mSl ma ml mh) :=
  (pe_slice (sl_A hK) ha hl hh).imp fun σ H Q ⟨μ, ρ, st, rel, p⟩ => tG_bind rel p fun μ1 dx st1 x H1 go1 rel1 rv1 p1 => tG_bind (Rp := fun _ _ a b => b = a) rel1 p1 fun μ2 l st2 l' H2 go2 rel2 e2 p2 => tG_bind (Rp := fun _ _ a b => b = a) rel2 p2 fun μ3 h st3 h' H3 go3 rel3 e3 p3 => by
    cases (show l' = l from e2)
    cases (show h' = h from e3)
    have rv := (rv1.go go2).go go3
    unfold slD at p3
    split at p3
    · rename_i xs
      obtain ⟨q, vs, rfl, k, r⟩ := rv
      exact .inl ⟨q, vs, rfl, SqT.of k.2, fun e => PostG.now p3 rel3.sto ⟨q, vs, rfl, k, by rw [← cut_all e]; exact cut_at r⟩, fun _ t ht => new_tup rel3.sto (cut_at r) p3 ht⟩
    · obtain ⟨xs, e4, p3⟩ := post_opt p3
      obtain ⟨q, vs, rfl, k, r⟩ := itemsR_at rel3.sto rv e4
      exact .inr ⟨q, vs, rfl, k, fun t ht => new_lst rel3.sto (cut_at r) p3 ht⟩
end
/-! ### truth -/
def truD (st : Sto) : D → Option Bool
  | .non => some false
  | .bl b => some b
  | .int i => some (i != 0)
  | .tup xs => some !xs.isEmpty
  | .lst xs => some !xs.isEmpty
  | .rol xs => some !xs.isEmpty
  | .loc n => match st[n]? with
    | some (.lst xs) => some !xs.isEmpty
    | some (.dct kvs) => some !kvs.isEmpty
    | _ => none
  | .dct ks vs => some !ks.isEmpty
  | _ => none
@[simp] def mTru (m : Env → Sto → R D) (ρ : Env) (st : Sto) : R Bool := (m ρ st).bind fun d st1 => ofOpt (truD st1 d) fun b => .ok b st1
theorem emp_at {g : G} {μ : Mu} {H : Hp} {ds : List D} {vs : List V} (r : RVs g μ H ds vs) : ds.isEmpty = vs.isEmpty := by
  cases ds with
  | nil => rw [show vs = [] from r]; rfl
  | cons d ds => obtain ⟨v, w, rfl, _⟩ := r; rfl
theorem map_emp {α β : Type} {f : α → β} {l : List α} : (l.map f).isEmpty = l.isEmpty := by cases l <;> rfl
section
variable {g : G} {W : WX} {X : Cx} {a b : Expr} {ma mb : Env → Sto → R D} {pos : Pos} {σ : L2.St} {μ μ1 : Mu} {H H1 : Hp} {ρ : Env} {st : Sto}
theorem tru_at {d : D} {x : V} {b : Bool} (S : RS g μ H st) (h : RV g μ H d x) (e : truD st d = some b) : TruV g.K x H b := by
  cases d with
  | non => cases e; rw [show x = V.non from h]; rfl
  | bl c => cases e; rw [show x = V.bl _ from h]; rfl
  | int i => cases e; rw [show x = V.int i from h]; rfl
  | str s => cases e
  | tup xs => obtain ⟨q, vs, rfl, k, r⟩ := h; cases e; rw [emp_at r]; exact .inr (.inl ⟨vs, SqT.of k.2, rfl⟩)
  | lst xs => obtain ⟨q, vs, rfl, k, r⟩ := h; cases e; rw [emp_at r]; exact .inl ⟨vs, SqL.of k.2, rfl⟩
  | rol xs => obtain ⟨q, vs, rfl, k, r⟩ := h; cases e; rw [emp_at r]; exact .inl ⟨vs, sqL_of k, rfl⟩
  | dct ks xs =>
    obtain ⟨q, kvs, rfl, k, e5, r⟩ := h
    cases e
    rw [← e5, map_emp]
    exact .inr (.inr ⟨kvs, k.2, rfl⟩)
  | loc n =>
    obtain ⟨q, rfl, k⟩ := h
    unfold truD at e
    simp only at e
    split at e
    · rename_i xs e2
      cases e
      obtain ⟨vs, e4, r⟩ := S.at_ n _ q e2 k
      rw [emp_at r]
      exact .inl ⟨vs, SqL.of e4, rfl⟩
    · rename_i kvs e2
      cases e
      obtain ⟨vs, e4, e5, r⟩ := S.at_ n _ q e2 k
      rw [← map_emp (f := (·.1)), ← e5, map_emp]
      exact .inr (.inr ⟨vs, e4, rfl⟩)
    · cases e
  | nam _ => cases e
  | err _ _ => cases e
theorem pmt_truth (hK : X.K = g.K) (ha : PM g W X a ma) (he : ∀ whole, isTrue a X.env whole = (do let v ← whole; standAt a.pos; holding [v] (truthy v))) : PMT g W X a (mTru ma) :=
  (pt_truth ha he).imp fun σ H Q ⟨μ, ρ, st, rel, p⟩ => tG_bind rel p fun μ1 d st1 x H1 go1 rel1 rv1 p1 => by
    obtain ⟨k, e, p1⟩ := post_opt p1
    rw [hK]
    exact ⟨k, tru_at rel1.sto rv1 e, PostG.now p1 rel1.sto rfl⟩
end
end Pl

set_option maxHeartbeats 4000000
/-! sorted of tuples, the first of which is empty: one type, compared as tuples are -/
namespace Hn
open PySem PySem.Spec PyProof.Rows L2 EF PySem.SeqAt
section
variable {prog : Program} {w : World} {A : Around} {E : Value → Shared → Prop} {s : Shared}
/-- tuple's own less, called by its slot -/
theorem own_lt {Q : Value → Shared → Prop} {a b : Addr} {xs ys : Array Value} {e r : Nat → Bool} (ha : s.heap.IsTuple a xs) (hb : s.heap.IsTuple b ys)
    (h1 : ∀ j (j1 : j < xs.size) (j2 : j < ys.size), EqAt A.in1 s xs[j] ys[j] (e j)) (h2 : ∀ j (j1 : j < xs.size) (j2 : j < ys.size), e j = false → RcLt A.in1 s xs[j] ys[j] (r j))
    (q : Q (.bool (firstLt e r (decide (xs.size < ys.size)) (List.range (min xs.size ys.size)))) s) : wpAny (model prog w) A (call (.builtin "tuple.__lt__") [.ref a, .ref b]) Q E s := by
  obtain ⟨⟨c, d, x, sl⟩, oa, ca, na, xa⟩ := id ha
  obtain ⟨⟨c', d', x', sl'⟩, ob, cb, nb, xb⟩ := id hb
  dsimp only at ca xa cb xb
  subst ca; subst xa; subst cb; subst xb
  exact call_meets F.slot_tuple_lt ⟨_, oa, rfl⟩ F.entry_tuple_lt (F.args_tuple_lt_2 _ _) (tuple_ltAt a b xs ys na nb d d' sl sl' e r) ⟨oa, ob, h1, h2, q⟩
theorem one_lt {us ws : List PyData} {a b : Value} {as bs : List Addr} {Q : Bool → Shared → Prop} (ra : Reads s.heap a (.tuple us) as) (rb : Reads s.heap b (.tuple ws) bs) (al : W.alikeAll us ws = true)
    (hu : A.units + min (PyData.tuple us).depth (PyData.tuple ws).depth < cLine) (hq : Q (W.dataLt (.tuple us) (.tuple ws)) s) : wpAny (model prog w) A (oneLt' true a b) Q E s := by
  cases ra with
  | @tuple p o vs n _ _ o1 o2 o3 o4 =>
    cases rb with
    | @tuple p' o' vs' n' _ _ q1 q2 q3 q4 =>
      have l1 : vs.size = us.length := by simpa using ReadsAll.length _ _ _ o4
      have l2 : vs'.size = ws.length := by simpa using ReadsAll.length _ _ _ q4
      rw [W.dataLt_tuple, ← W.firstLt_toks us ws al, ← l1, ← l2] at hq
      rw [oneLt'_eq]
      simp only [if_true]
      refine wpAny_bind (wpAny_cRoomFor (room_here hu) ?_)
      refine wpAny_bind (wpAny_callSpecialIfBound?_slot (T := "tuple") ⟨_, o1, o2⟩ F.slot_tuple_lt (own_lt (e := pairEq us ws) (r := fun j => W.dataLt (us.getD j .none) (ws.getD j .none)) ⟨_, o1, o2, _, o3⟩ ⟨_, q1, q2, _, q3⟩ (fun j j1 j2 => ?_) (fun j j1 j2 hj => ?_) (wpAny_truthy_bool hq)))
      · exact W.eqAt_alikeAll us ws A.in1 s vs.toList vs'.toList _ _ o4 q4 al (room_in hu) j (by simpa using j1) (by simpa using j2)
      · exact W.rcLt_alikeAll us ws A.in1 s vs.toList vs'.toList _ _ o4 q4 al (room_in hu) j (by simpa using j1) (by simpa using j2) hj
theorem firsts_of {h : Heap} {M : Model} : ∀ {vs : List Value} {ds : List PyData} {Q : List (Option Value) → Shared → Prop} {s : Shared}, s.heap = h → W.EachIs (fun v d => ∃ as, Reads h v d as) vs ds → (∀ d ∈ ds, ∃ xs, d = .tuple xs) →
    (∀ os : List (Option Value), os.length = vs.length → (∀ xs, ds.head? = some (.tuple xs) → xs = [] → os.head? = some none) → Q os s) → wpAny M A (vs.mapM firstOfTuple') Q E s
  | _, _, Q, s, hs, .nil, _, q => by
    rw [List.mapM_nil]
    exact wpAny_pure (q [] rfl fun xs e => by cases e)
  | v :: vs, d :: ds, Q, s, hs, .cons ⟨as, r⟩ t, ht, q => by
    subst hs
    obtain ⟨xs, rfl⟩ := ht d List.mem_cons_self
    rw [List.mapM_cons]
    refine wpAny_bind ?_
    rw [W.kas_first_eq]
    cases r with
    | @tuple p o ws n _ _ o1 o2 o3 o4 =>
      refine wpAny_bind (W.Looks.here (show W.Looks M s.heap (typeOf (.ref p)) o.cls from (W.Looks.ld o1).andThen .now) ?_)
      rw [o2, if_neg (by first | decide | simp)]
      refine wpAny_bind (listItems_at o1 o3 (wpAny_pure ?_))
      refine wpAny_bind (firsts_of (Q := fun bs s' => wpAny M A (pure (ws[0]? :: bs)) Q E s') rfl t (fun d hd => ht d (List.mem_cons_of_mem _ hd)) fun os l _ => wpAny_pure (q _ (by rw [List.length_cons, List.length_cons, l]) fun ys e1 e2 => ?_))
      have e3 : xs = ys := by
        have : PyData.tuple xs = .tuple ys := by simpa using e1
        injection this
      subst e3
      subst e2
      have : ws.size = 0 := by simpa using ReadsAll.length _ _ _ o4
      rw [List.head?_cons, Array.getElem?_eq_none (by omega)]
/-- they can be sorted -/
theorem sortsAt_empty {vs : List Value} {ds : List PyData} (e : W.EachIs (fun v d => ∃ as, Reads s.heap v d as) vs ds) (al : W.AllAlike ds) (h0 : ds.head? = some (.tuple [])) (ht : ∀ d ∈ ds, ∃ xs, d = .tuple xs) (hu : ∀ d, d ∈ ds → A.units + d.depth < cLine) :
    W.SortsAt prog w A s (W.dataKind s.heap ds) vs := by
  refine ⟨fun v hv => ?_, oneType', fun E x y a b Q ha hb hq => ?_, fun l2 E Q hq => ?_⟩
  · obtain ⟨d, hd, as, r⟩ := e.left v hv
    exact ⟨_, W.dataKind_some al hd r⟩
  · obtain ⟨d, as, hd, ra, rfl⟩ := W.dataKind_inv ha
    obtain ⟨d', bs, hd', rb, rfl⟩ := W.dataKind_inv hb
    have z := al d hd d' hd'
    have u := hu d hd
    obtain ⟨us, rfl⟩ := ht d hd
    obtain ⟨ws, rfl⟩ := ht d' hd'
    rw [keyLt'_oneType]
    exact one_lt ra rb (by simpa [W.alike] using z) (by have := Nat.min_le_left (PyData.tuple us).depth (PyData.tuple ws).depth; omega) hq
  · rw [keyKind'_eq, List.mapM_toArray, map_eq_pure_bind]
    refine wpAny_bind (wpAny_bind (firsts_of rfl e ht fun os l hh => wpAny_pure ?_))
    have hn := hh [] h0 rfl
    cases os with
    | nil => cases hn
    | cons o os =>
      obtain rfl : o = none := by simpa using hn
      rw [if_neg (by simp), if_neg (by simp)]
      rw [oneTypeOnly'_eq, List.mapM_toArray, map_eq_pure_bind]
      have tys : ∀ v ∈ vs, W.Looks (model prog w) s.heap (typeOf v) (.type "tuple") := fun v hv => by
        obtain ⟨d, hd, as, r⟩ := e.left v hv
        obtain ⟨xs, rfl⟩ := ht d hd
        exact W.looks_reads r
      refine wpAny_bind (wpAny_bind (wpAny_bind (W.kas_mapM (r := .type "tuple") _ (fun v hv Q' hq => (tys v hv).here hq) (wpAny_pure ?_))))
      cases vs with
      | nil => simp at l2
      | cons v vs =>
        have same : ((List.map (fun _ => Value.type "tuple") (v :: vs)).toArray.all fun x => x == Value.type "tuple") = true := by
          rw [List.all_toArray, List.all_map, List.all_eq_true]
          exact fun _ _ => beq_self_eq_true _
        rw [show (List.map (fun _ => Value.type "tuple") (v :: vs)).toArray[0]? = some (Value.type "tuple") by simp]
        simp only [same, if_true]
        exact wpAny_pure (wpAny_pure hq)
/-- sorted(xs) of them -/
theorem sorted_empty {l : Addr} {β : Type} {vs : List Value} {bs : List β} {enc : β → PyData} {R : Value → β → Prop} {Q : Value → Shared → Prop} (hl : s.heap.IsList l vs.toArray) (e : W.EachIs R vs bs) (er : W.EachIs (fun v b => ∃ as, Reads s.heap v (enc b) as) vs bs) (al : W.AllAlike (bs.map enc))
    (h0 : (bs.map enc).head? = some (.tuple [])) (ht : ∀ d ∈ bs.map enc, ∃ xs, d = .tuple xs) (hL : bs.length ≤ sizeLine) (hu : ∀ b, b ∈ bs → A.units + 2 + (enc b).depth < cLine)
    (q : ∀ out, out.length = bs.length → W.EachIs R out (bs.mergeSort (W.dataLe false enc)) → Q (.ref (s.heap.objs.size + 1)) { s with heap := sortedAll s.heap vs (List.toArray out) }) : wpAny (model prog w) A (call (.builtin "sorted") [.ref l]) Q E s := by
  have er' : W.EachIs (fun v b => ∃ as, Reads (W.sortingHeap (W.copyHeap s.heap vs) (s.heap.objs.size + 1) vs) v (enc b) as) vs bs := er.mono fun _ _ ⟨as, r⟩ => ⟨as, Reads.keeps (fun _ _ => W.sorting_copy_old) r⟩
  have ee := W.each_map (R := fun v d => ∃ as, Reads (W.sortingHeap (W.copyHeap s.heap vs) (s.heap.objs.size + 1) vs) v d as) enc er'
  have room : ∀ d, d ∈ bs.map enc → A.in1.in1.units + d.depth < cLine := fun d hd => by
    obtain ⟨b, hb, rfl⟩ := List.mem_map.mp hd
    exact hu b hb
  have S := sortsAt_empty (prog := prog) (w := w) (A := A.in1.in1) (s := { s with heap := W.sortingHeap (W.copyHeap s.heap vs) (s.heap.objs.size + 1) vs }) ee al h0 ht room
  exact W.sorted_vals hl S (by rw [e.length]; exact hL) (q _ ((W.sortVals_length false rfl).trans e.length) (W.sortVals_data false e er' al))
end
end Hn

set_option maxHeartbeats 4000000
/-! calls of built-ins -/
namespace Pl
open PySem PySem.Spec PyProof.Rows L2 Hn
open PySem.W (Frag keepIn)
def CM (g : G) (r : List V → Hp → VK → Prop) (mo : List D → Sto → R D) : Prop := ∀ (W : WX) (σ : L2.St) (μ : Mu) (H : Hp) (st : Sto) (vs : List V) (ds : List D) (Q : VK), RS g μ H st → RVs g μ H ds vs → PostG g W σ μ H (RV g) (mo ds st) Q → r vs H Q
@[simp] def mCall (mo : List D → Sto → R D) (ms : Env → Sto → R (List D)) (ρ : Env) (st : Sto) : R D := (ms ρ st).bind mo
def blsD : List D → Option (List Bool)
  | [] => some []
  | .bl i :: ds => match blsD ds with
    | some is => some (i :: is)
    | none => none
  | _ => none
@[simp] theorem bls_map : ∀ ns : List Bool, blsD (ns.map D.bl) = some ns
  | [] => rfl
  | n :: ns => by simp only [List.map_cons, blsD, bls_map ns]
theorem bls_eq : ∀ {ds : List D} {ns : List Bool}, blsD ds = some ns → ds = ns.map D.bl
  | [], _, e => by cases e; rfl
  | d :: ds, _, e => by
    unfold blsD at e
    split at e
    · cases ‹_ = []›
    · rename_i e0
      cases e0
      split at e
      · rename_i e1
        cases e
        rw [bls_eq e1]
        rfl
      · cases e
    · cases e
def lenD (ds : List D) (st : Sto) : R D := match ds with
  | [.str s] => guardR (s.length ≤ lim) (.ok (.int s.length) st)
  | [.dct ks vs] => .ok (.int ks.length) st
  | [.loc n] => match st[n]? with
    | some (.lst xs) => .ok (.int xs.length) st
    | some (.dct kvs) => .ok (.int kvs.length) st
    | _ => .no
  | [d] => ofOpt (itemsS st d) fun xs => .ok (.int xs.length) st
  | _ => .no
@[simp] theorem lenD_tup {xs : List D} {st : Sto} : lenD [.tup xs] st = .ok (.int xs.length) st := rfl
@[simp] theorem lenD_lst {xs : List D} {st : Sto} : lenD [.lst xs] st = .ok (.int xs.length) st := rfl
@[simp] theorem lenD_rol {xs : List D} {st : Sto} : lenD [.rol xs] st = .ok (.int xs.length) st := rfl
theorem lenD_loc {n : Nat} {xs : List D} {st : Sto} (h : st[n]? = some (.lst xs)) : lenD [.loc n] st = .ok (.int xs.length) st := by simp only [lenD, h]
@[simp] def absD (ds : List D) (st : Sto) : R D := match ds with
  | [.int i] => .ok (.int (if i < 0 then -i else i)) st
  | _ => .no
@[simp] def intD (ds : List D) (st : Sto) : R D := match ds with
  | [.int i] => .ok (.int i) st
  | [.bl b] => .ok (.int (if b then 1 else 0)) st
  | _ => .no
@[simp] def min2D (ds : List D) (st : Sto) : R D := match ds with
  | [.int i, .int j] => .ok (.int (if j < i then j else i)) st
  | _ => .no
@[simp] def max2D (ds : List D) (st : Sto) : R D := match ds with
  | [.int i, .int j] => .ok (.int (if j > i then j else i)) st
  | _ => .no
def sumD (ds : List D) (st : Sto) : R D := match ds with
  | [d] => ofOpt (itemsR st d) fun xs => ofOpt (intsD xs) fun ns => .ok (.int ns.sum) st
  | _ => .no
def allD (ds : List D) (st : Sto) : R D := match ds with
  | [d] => ofOpt (itemsR st d) fun xs => ofOpt (blsD xs) fun bs => .ok (.bl (bs.all id)) st
  | _ => .no
def anyD (ds : List D) (st : Sto) : R D := match ds with
  | [d] => ofOpt (itemsR st d) fun xs => ofOpt (blsD xs) fun bs => .ok (.bl (bs.any id)) st
  | _ => .no
@[simp] theorem sumD_lst {xs : List D} {st : Sto} : sumD [.lst xs] st = ofOpt (intsD xs) fun ns => .ok (.int ns.sum) st := rfl
@[simp] theorem allD_lst {xs : List D} {st : Sto} : allD [.lst xs] st = ofOpt (blsD xs) fun ns => .ok (.bl (ns.all id)) st := rfl
@[simp] theorem anyD_lst {xs : List D} {st : Sto} : anyD [.lst xs] st = ofOpt (blsD xs) fun ns => .ok (.bl (ns.any id)) st := rfl
def listD (ds : List D) (st : Sto) : R D := match ds with
  | [d] => ofOpt (itemsS st d) fun xs => .ok (.lst xs) st
  | _ => .no
def listM (ds : List D) (st : Sto) : R D := match ds with
  | [d] => ofOpt (itemsS st d) fun xs => .ok (.loc st.length) (st ++ [.lst xs])
  | _ => .no
def tupleD (ds : List D) (st : Sto) : R D := match ds with
  | [.tup xs] => .ok (.tup xs) st
  | [d] => ofOpt (itemsR st d) fun xs => .ok (.tup xs) st
  | _ => .no
@[simp] theorem listD_tup {xs : List D} {st : Sto} : listD [.tup xs] st = .ok (.lst xs) st := rfl
@[simp] theorem listD_lst {xs : List D} {st : Sto} : listD [.lst xs] st = .ok (.lst xs) st := rfl
@[simp] theorem listM_tup {xs : List D} {st : Sto} : listM [.tup xs] st = .ok (.loc st.length) (st ++ [.lst xs]) := rfl
@[simp] theorem tupleD_lst {xs : List D} {st : Sto} : tupleD [.lst xs] st = .ok (.tup xs) st := rfl
@[simp] theorem tupleD_tup {xs : List D} {st : Sto} : tupleD [.tup xs] st = .ok (.tup xs) st := rfl
theorem tupleD_loc {n : Nat} {xs : List D} {st : Sto} (h : st[n]? = some (.lst xs)) : tupleD [.loc n] st = .ok (.tup xs) st := by simp only [tupleD, itemsR, h, ofOpt_some]
/-- ascending ints -/
def sortZ (ns : List Int) : List Int := ns.mergeSort fun a b => decide (a ≤ b)
def pdOf (d : D) : PyData := (toP d).getD .none
def sortP (ds : List D) : List D := ds.mergeSort fun a b => PySem.W.dataLe false pdOf a b
def SortOk (ps : List PyData) : Prop := PySem.W.AllAlike ps ∧ (PySem.W.Sortable ps ∨ (ps.head? = some (.tuple []) ∧ ∀ d ∈ ps, ∃ xs, d = .tuple xs)) ∧ ∀ p ∈ ps, p.depth ≤ 7
open Classical in
noncomputable def sortedL (xs : List D) (st : Sto) : R D := match intsD xs with
  | some ns => .ok (.lst ((sortZ ns).map D.int)) st
  | none => ofOpt (toPs xs) fun ps => guardR (SortOk ps) (.ok (.lst (sortP xs)) st)
def keysI : List Key → Option (List Int)
  | [] => some []
  | .inl i :: ks => match keysI ks with
    | some is => some (i :: is)
    | none => none
  | _ => none
def sortedKs (ks : List Key) (st : Sto) : R D := ofOpt (keysI ks) fun ns => guardR (ns.length < 64) (.ok (.lst ((sortZ ns).map D.int)) st)
noncomputable def sortedD (ds : List D) (st : Sto) : R D := match ds with
  | [.dct ks vs] => sortedKs ks st
  | [.loc n] => match st[n]? with
    | some (.lst xs) => sortedL xs st
    | some (.dct kvs) => sortedKs (kvs.map (·.1)) st
    | _ => .no
  | [d] => ofOpt (itemsR st d) fun xs => sortedL xs st
  | _ => .no
@[simp] theorem sortedD_lst {xs : List D} {st : Sto} : sortedD [.lst xs] st = sortedL xs st := rfl
theorem sortedL_ints {ns : List Int} {st : Sto} : sortedL (ns.map D.int) st = .ok (.lst ((sortZ ns).map D.int)) st := by simp only [sortedL, ints_map]
theorem sortZ_perm (ns : List Int) : (sortZ ns).Perm ns := List.mergeSort_perm _ _
theorem sortZ_le (ns : List Int) : (sortZ ns).Pairwise (· ≤ ·) :=
  (List.pairwise_mergeSort (le := fun a b : Int => decide (a ≤ b)) (fun a b c h1 h2 => decide_eq_true (Int.le_trans (of_decide_eq_true h1) (of_decide_eq_true h2))) (fun a b => by
    rcases Int.le_total a b with h | h
    · simp [h]
    · simp [h]) ns).imp fun h => of_decide_eq_true h
theorem sortZ_uniq {ns ms : List Int} (p : ms.Perm ns) (w : ms.Pairwise (· ≤ ·)) : ms = sortZ ns :=
  List.Perm.eq_of_pairwise (fun a b _ _ h1 h2 => Int.le_antisymm h1 h2) w (sortZ_le ns) (p.trans (sortZ_perm ns).symm)
section
variable {g : G} {W : WX} {X : Cx} {e : Expr} {es : List Expr} {ms : Env → Sto → R (List D)} {p pos : Pos} {σ : L2.St} {μ μ1 : Mu} {H H1 : Hp} {ρ : Env} {st : Sto} {r : List V → Hp → VK → Prop} {mo : List D → Sto → R D} {x : Str} {id : String}
theorem pm_callB (hc : CallR X (.builtin id) r) (hm : CM g r mo) (hg : Gl X x) (hmg : X.mg x = none) (hv : bootBuiltins x = some (.builtin id)) (ha : PMA g W X (e :: es) ms) (hn : x ≠ "__name__" := by decide) (hdb : (x == ("__debug__" : Str)) = false := by decide)
    (he : starEach (e :: es) X.env = (false, eval e X.env) :: starEach es X.env := by rfl) (hpl : (backTo pos (starEach es X.env)).any (·.1) = false := by rfl) : PM g W X (.Call (.Name x p) (e :: es) [] pos) (mCall mo ms) :=
  (pe_callB hc hg hmg hv ha hn hdb he hpl).imp fun σ H Q ⟨μ, ρ, st, rel, p⟩ => tG_bind rel p fun μ1 ds st1 vs H1 go1 rel1 rv1 p1 => hm W σ μ1 H1 st1 vs ds Q rel1.sto rv1 p1
theorem pm_callTy (hc : CallR X (.type id) r) (hm : CM g r mo) (hg : Gl X x) (hmg : X.mg x = none) (hv : bootBuiltins x = some (.type id)) (ha : PMA g W X (e :: es) ms) (hn : x ≠ "__name__" := by decide) (hdb : (x == ("__debug__" : Str)) = false := by decide)
    (he : starEach (e :: es) X.env = (false, eval e X.env) :: starEach es X.env := by rfl) (hpl : (backTo pos (starEach es X.env)).any (·.1) = false := by rfl) : PM g W X (.Call (.Name x p) (e :: es) [] pos) (mCall mo ms) :=
  (pe_callTy hc hg hmg hv ha hn hdb he hpl).imp fun σ H Q ⟨μ, ρ, st, rel, p⟩ => tG_bind rel p fun μ1 ds st1 vs H1 go1 rel1 rv1 p1 => hm W σ μ1 H1 st1 vs ds Q rel1.sto rv1 p1
theorem one_at {d : D} {vs : List V} (h : RVs g μ H [d] vs) : ∃ v, vs = [v] ∧ RV g μ H d v := by
  obtain ⟨v, r, rfl, h1, h2⟩ := h
  cases (show r = [] from h2)
  exact ⟨v, rfl, h1⟩
theorem two_at {d d' : D} {vs : List V} (h : RVs g μ H [d, d'] vs) : ∃ v v', vs = [v, v'] ∧ RV g μ H d v ∧ RV g μ H d' v' := by
  obtain ⟨v, r, rfl, h1, h2⟩ := h
  obtain ⟨v', rfl, h3⟩ := one_at h2
  exact ⟨v, v', rfl, h1, h3⟩
def rLenA (K : Frag) : List V → Hp → VK → Prop := fun vs H Q => Hn.rLen K vs H Q ∨ ((∃ z, vs = [.str z] ∧ z.length ≤ sizeLine ∧ Q (.int z.length) H) ∨ ∃ a kvs, vs = [V.ref a] ∧ H a = some (.dK kvs) ∧ Q (.int kvs.length) H)
theorem call_lenA (hK : X.K = g.K) : CallR X (.builtin "len") (rLenA g.K) := orCall (lenK hK) (orCall call_len_str call_lenD)
theorem cm_len : CM g (rLenA g.K) lenD := by
  intro W σ μ H st vs ds Q S rv p
  unfold lenD at p
  split at p
  · obtain ⟨v, rfl, h⟩ := one_at rv
    obtain ⟨hl, p⟩ := post_guard p
    exact .inr (.inl ⟨_, by rw [show v = _ from h], lim_le hl, PostG.now p S rfl⟩)
  · obtain ⟨v, rfl, a, kvs, rfl, k, e5, r⟩ := one_at rv
    refine .inr (.inr ⟨a, kvs, rfl, k.2, ?_⟩)
    rw [← e5, List.length_map] at p
    exact PostG.now p S rfl
  · obtain ⟨v, rfl, a, rfl, k⟩ := one_at rv
    split at p
    · rename_i xs e2
      obtain ⟨vs, e4, r⟩ := S.at_ _ _ a e2 k
      rw [← r.length] at p
      exact .inl ⟨a, vs, rfl, .inl (SqL.of e4), PostG.now p S rfl⟩
    · rename_i kvs e2
      obtain ⟨vs, e4, e5, r⟩ := S.at_ _ _ a e2 k
      have hl : kvs.length = vs.length := by
        have := congrArg List.length e5
        rw [List.length_map, List.length_map] at this
        exact this.symm
      rw [hl] at p
      exact .inr (.inr ⟨a, vs, rfl, e4, PostG.now p S rfl⟩)
    · exact p.elim
  · obtain ⟨v, rfl, h⟩ := one_at rv
    obtain ⟨xs, e1, p⟩ := post_opt p
    obtain ⟨a, vs, rfl, k, r⟩ := itemsS_at S h e1
    rw [← r.length] at p
    exact .inl ⟨a, vs, rfl, k.symm, PostG.now p S rfl⟩
  · exact p.elim
theorem cm_abs : CM g (fun xs H Q => ∃ i, xs = [V.int i] ∧ Q (.int (if i < 0 then -i else i)) H) absD := by
  intro W σ μ H st vs ds Q S rv p
  unfold absD at p
  split at p
  · obtain ⟨v, rfl, h⟩ := one_at rv
    exact ⟨_, by rw [show v = _ from h], PostG.now p S rfl⟩
  · exact p.elim
theorem cm_int : CM g (fun xs H Q => (∃ i, xs = [V.int i] ∧ Q (.int i) H) ∨ ∃ k, xs = [V.bl k] ∧ Q (.int (if k then 1 else 0)) H) intD := by
  intro W σ μ H st vs ds Q S rv p
  unfold intD at p
  split at p
  · obtain ⟨v, rfl, h⟩ := one_at rv
    exact .inl ⟨_, by rw [show v = _ from h], PostG.now p S rfl⟩
  · obtain ⟨v, rfl, h⟩ := one_at rv
    exact .inr ⟨_, by rw [show v = _ from h], PostG.now p S rfl⟩
  · exact p.elim
theorem cm_min2 : CM g (fun xs H Q => ∃ i j, xs = [V.int i, .int j] ∧ Q (.int (if j < i then j else i)) H) min2D := by
  intro W σ μ H st vs ds Q S rv p
  unfold min2D at p
  split at p
  · obtain ⟨v, v', rfl, h, h'⟩ := two_at rv
    exact ⟨_, _, by rw [show v = _ from h, show v' = _ from h'], PostG.now p S rfl⟩
  · exact p.elim
theorem cm_all : CM g (rAll g.K) allD := by
  intro W σ μ H st vs ds Q S rv p
  unfold allD at p
  split at p
  · obtain ⟨v, rfl, h⟩ := one_at rv
    obtain ⟨xs, e1, p2⟩ := post_opt p
    obtain ⟨ns, e2, p3⟩ := post_opt p2
    obtain ⟨a, vs, rfl, k, r⟩ := itemsR_at S h e1
    obtain rfl := bls_eq e2
    obtain rfl := r.bls
    exact ⟨a, ns, rfl, k, PostG.now p3 S rfl⟩
  · exact p.elim
theorem cm_list : CM g (rListOf g.K) listD := by
  intro W σ μ H st vs ds Q S rv p
  unfold listD at p
  split at p
  · obtain ⟨v, rfl, h⟩ := one_at rv
    obtain ⟨xs, e1, p⟩ := post_opt p
    obtain ⟨a, vs, rfl, k, r⟩ := itemsS_at S h e1
    exact ⟨a, vs, rfl, k.symm, fun t ht => new_lst S r p ht⟩
  · exact p.elim
theorem cm_tuple : CM g (rTupOf g.K) tupleD := by
  intro W σ μ H st vs ds Q S rv p
  unfold tupleD at p
  split at p
  · obtain ⟨v, rfl, a, vs, rfl, k, r⟩ := one_at rv
    exact ⟨a, vs, rfl, .inr ⟨SqT.of k.2, PostG.now p S ⟨a, vs, rfl, k, r⟩⟩⟩
  · obtain ⟨v, rfl, h⟩ := one_at rv
    obtain ⟨xs, e1, p2⟩ := post_opt p
    obtain ⟨a, vs, rfl, k, r⟩ := itemsR_at S h e1
    exact ⟨a, vs, rfl, .inl ⟨k, fun t ht => new_tup S r p2 ht⟩⟩
  · exact p.elim
/-- pairs of a thing and its datum -/
theorem pairs_at : ∀ {ds : List D} {vs : List V} {ps : List PyData}, RVs g μ H ds vs → toPs ds = some ps → ∃ L : List (V × D), L.map (·.1) = vs ∧ L.map (·.2) = ds ∧ (∀ q ∈ L, RV g μ H q.2 q.1 ∧ toP q.2 = some (pdOf q.2)) ∧ ps = ds.map pdOf
  | [], _, _, h, e => by
    cases e
    exact ⟨[], (show _ = [] from h).symm, rfl, fun _ z => absurd z List.not_mem_nil, rfl⟩
  | d :: ds, _, _, h, e => by
    obtain ⟨v, r, rfl, h1, h2⟩ := h
    unfold toPs at e
    split at e
    · rename_i q qs e1 e2
      cases e
      obtain ⟨L, l1, l2, l3, l4⟩ := pairs_at h2 e2
      have e3 : pdOf d = q := by unfold pdOf; rw [e1]; rfl
      refine ⟨(v, d) :: L, by rw [List.map_cons, l1], by rw [List.map_cons, l2], fun q' hq => ?_, by rw [List.map_cons, e3, l4]⟩
      rcases List.mem_cons.mp hq with rfl | hq
      · exact ⟨h1, by rw [e1, e3]⟩
      · exact l3 q' hq
    · cases e
def rSortM (K : Frag) : List V → Hp → VK → Prop := fun vs H Q => ∃ (a : Addr) (L : List (V × D)), vs = [.ref a] ∧ SqL K H a (L.map (·.1)) ∧ (∀ p ∈ L, Dp K H p.1 (pdOf p.2)) ∧ SortOk (L.map fun p => pdOf p.2) ∧
  ∀ p : Addr, H p = none → Q (.ref p) (upd H p (.lst ((L.mergeSort fun a b => PySem.W.dataLe false pdOf a.2 b.2).map (·.1))))
theorem call_sortM {K : Frag} (e1 : X.K = K) (hu : X.A.units + 65 < cLine) : CallR X (.builtin "sorted") (rSortM K) := by
  subst e1
  rintro pins s σ H vs us Q I r ⟨a, L, rfl, hs, hd, ⟨al, so, dp⟩, q⟩
  obtain ⟨its, rv, hl, hz⟩ := I.list hs
  rw [Vals.ref1 r]
  have e2 : (L.map fun p => ((p.1, pdOf p.2) : V × PyData)).map (·.1) = L.map (·.1) := by rw [List.map_map]; rfl
  have e := each_vals (P := L.map fun p => (p.1, pdOf p.2)) (by rw [e2]; exact rv)
  rw [List.length_map] at hz
  have er : PySem.W.EachIs (fun v p => ∃ as, Reads s.heap v ((fun p : V × PyData => p.2) p) as) its (L.map fun p => (p.1, pdOf p.2)) := by
    have z : ∀ p ∈ L.map (fun p => ((p.1, pdOf p.2) : V × PyData)), ∀ u, RelV p.1 u → ∃ as, Reads s.heap u p.2 as := fun p hp u ru => by
      obtain ⟨w, hw, rfl⟩ := List.mem_map.mp hp
      exact Dp.reads I _ _ u (hd w hw) ru
    revert z e
    generalize (L.map fun p => ((p.1, pdOf p.2) : V × PyData)) = M
    intro e z
    clear q hl hs al so dp hz r rv e2 hd
    induction e with
    | nil => exact .nil
    | cons r t ih => exact .cons (z _ List.mem_cons_self _ r) (ih fun p hp => z p (List.mem_cons_of_mem _ hp))
  have em : (L.map fun p => ((p.1, pdOf p.2) : V × PyData)).map (·.2) = L.map fun p => pdOf p.2 := by rw [List.map_map]; rfl
  have fin : ∀ out : List Value, PySem.W.EachIs (fun v p => RelV p.1 v) out ((L.map fun p => ((p.1, pdOf p.2) : V × PyData)).mergeSort (PySem.W.dataLe false fun p : V × PyData => p.2)) → EP X pins σ Q (Value.ref (s.heap.objs.size + 1)) { s with heap := PyProof.Rows.sortedAll s.heap its (List.toArray out) } := fun out hE => by
    obtain ⟨c, hc⟩ := PyProof.Rows.sortedAll_at s.heap its out.toArray
    have sm : ((L.map fun p => ((p.1, pdOf p.2) : V × PyData)).mergeSort (PySem.W.dataLe false fun p : V × PyData => p.2)).map (·.1) = (L.mergeSort fun a b => PySem.W.dataLe false pdOf a.2 b.2).map (·.1) := by
      rw [← List.map_mergeSort (r := fun a b : V × D => PySem.W.dataLe false pdOf a.2 b.2) (f := fun p : V × D => ((p.1, pdOf p.2) : V × PyData)) (fun _ _ _ _ => rfl), List.map_map]
      rfl
    have hv := vals_each hE
    rw [sm] at hv
    have hlen : ((L.mergeSort fun a b => PySem.W.dataLe false pdOf a.2 b.2).map (·.1)).length ≤ sizeLine := by
      rw [List.length_map, List.length_mergeSort]
      exact hz
    exact ⟨.ref _, upd H (s.heap.objs.size + 1) (.lst ((L.mergeSort fun a b => PySem.W.dataLe false pdOf a.2 b.2).map (·.1))), I.laid (t' := s.toks) (fun _ _ => PyProof.Rows.sortedAll_old) (Nat.le_succ _) ⟨hlen, out, c, hv, hc⟩, rfl, q _ (I.hok.fresh (Nat.le_succ _))⟩
  have room : ∀ p ∈ L.map (fun p => ((p.1, pdOf p.2) : V × PyData)), X.A.units + 2 + p.2.depth < cLine := fun p hp => by
    have := dp p.2 (by rw [← em]; exact List.mem_map.mpr ⟨p, hp, rfl⟩)
    omega
  rcases so with so | ⟨h0, ht⟩
  · exact PySem.W.sorted_data (R := fun v p => RelV p.1 v) (enc := fun p : V × PyData => p.2) hl.isList e er (by rw [em]; exact al) (by rw [em]; exact so) (by rw [List.length_map]; exact hz) room fun out _ hE => fin out hE
  · exact sorted_empty (R := fun v p => RelV p.1 v) (enc := fun p : V × PyData => p.2) hl.isList e er (by rw [em]; exact al) (by rw [em]; exact h0) (by rw [em]; exact ht) (by rw [List.length_map]; exact hz) room fun out _ hE => fin out hE
def rSortK : List V → Hp → VK → Prop := fun xs H Q => ∃ (a : Addr) (kvs : List (Key × V)) (ks : List Int), xs = [.ref a] ∧ Rd H a (.dK kvs) ∧ kvs.map (·.1) = ks.map Sum.inl ∧ ks.length < 64 ∧
    ∀ (ys : List Int) (p : Addr), ys.Perm ks → ys.Pairwise (· ≤ ·) → H p = none → Q (.ref p) (upd H p (.lst (ys.map V.int)))
def rSortedA (K : Frag) : List V → Hp → VK → Prop := fun vs H Q => rSortedI K vs H Q ∨ (rSortM K vs H Q ∨ rSortK vs H Q)
theorem call_sortedA (hK : X.K = g.K) (hc : X.calm = true) (hu : X.A.units + 65 < cLine) : CallR X (.builtin "sorted") (rSortedA g.K) := by
  rw [← hK]
  exact orCall cr_sortedI (orCall (call_sortM rfl hu) (call_sortedDI hc))
theorem keysI_eq : ∀ {ks : List Key} {ns : List Int}, keysI ks = some ns → ks = ns.map Sum.inl
  | [], _, e => by cases e; rfl
  | d :: ds, _, e => by
    unfold keysI at e
    split at e
    · cases ‹_ = []›
    · rename_i e0
      cases e0
      split at e
      · rename_i e1
        cases e
        rw [keysI_eq e1]
        rfl
      · cases e
    · cases e
theorem sortK_k {ks : List Key} {a : Addr} {kvs : List (Key × V)} {Q : VK} (S : RS g μ H st) (ha : H a = some (.dK kvs)) (e5 : kvs.map (·.1) = ks) (p : PostG g W σ μ H (RV g) (sortedKs ks st) Q) : rSortK [.ref a] H Q := by
  obtain ⟨ns, e1, p2⟩ := post_opt p
  obtain ⟨hl, p3⟩ := post_guard p2
  exact ⟨a, kvs, ns, rfl, .inl ha, e5.trans (keysI_eq e1), hl, fun ys t pm w ht => by rw [sortZ_uniq pm w]; exact new_lst S (.ofInts _) p3 ht⟩
theorem sortL_k {xs : List D} {a : Addr} {vs : List V} {Q : VK} (S : RS g μ H st) (k : SqL g.K H a vs) (r : RVs g μ H xs vs) (p : PostG g W σ μ H (RV g) (sortedL xs st) Q) : rSortedA g.K [.ref a] H Q := by
  unfold sortedL at p
  split at p
  · rename_i ns e2
    obtain rfl := ints_eq e2
    obtain rfl := r.ints
    exact .inl ⟨a, ns, rfl, k, fun ys t pm w ht => by rw [sortZ_uniq pm w]; exact new_lst S (.ofInts _) p ht⟩
  · obtain ⟨ps, e1, p2⟩ := post_opt p
    obtain ⟨hl, p3⟩ := post_guard p2
    obtain ⟨L, l1, l2, l3, l4⟩ := pairs_at r e1
    refine .inr (.inl ⟨a, L, rfl, by rw [l1]; exact k, fun q hq => toP_dp (l3 q hq).1 (l3 q hq).2, by rw [l4, ← l2, List.map_map] at hl; exact hl, fun t ht => new_lst S ?_ p3 ht⟩)
    have e3 : sortP xs = (L.mergeSort fun a b => PySem.W.dataLe false pdOf a.2 b.2).map (·.2) := by
      rw [← l2]
      exact (List.map_mergeSort (r := fun a b : V × D => PySem.W.dataLe false pdOf a.2 b.2) (f := fun p : V × D => p.2) (fun _ _ _ _ => rfl)).symm
    rw [e3]
    have al : ∀ M : List (V × D), (∀ q ∈ M, RV g μ H q.2 q.1) → RVs g μ H (M.map (·.2)) (M.map (·.1)) := fun M => by
      induction M with
      | nil => exact fun _ => rfl
      | cons q M ih => exact fun h => ⟨q.1, _, rfl, h q List.mem_cons_self, ih fun z hz => h z (List.mem_cons_of_mem _ hz)⟩
    exact al _ fun q hq => (l3 q ((List.mergeSort_perm _ _).mem_iff.mp hq)).1
theorem cm_sorted : CM g (rSortedA g.K) sortedD := by
  intro W σ μ H st vs ds Q S rv p
  unfold sortedD at p
  split at p
  · obtain ⟨v, rfl, a, kvs, rfl, k, e5, r⟩ := one_at rv
    exact .inr (.inr (sortK_k S k.2 e5 p))
  · obtain ⟨v, rfl, a, rfl, k⟩ := one_at rv
    split at p
    · rename_i xs e2
      obtain ⟨vs, e4, r⟩ := S.at_ _ _ a e2 k
      exact sortL_k S (SqL.of e4) r p
    · rename_i kvs e2
      obtain ⟨vs, e4, e5, r⟩ := S.at_ _ _ a e2 k
      exact .inr (.inr (sortK_k S e4 e5 p))
    · exact p.elim
  · obtain ⟨v, rfl, h⟩ := one_at rv
    obtain ⟨xs, e1, p2⟩ := post_opt p
    obtain ⟨a, vs, rfl, k, r⟩ := itemsR_at S h e1
    exact sortL_k S k r p2
  · exact p.elim
end
end Pl

set_option maxHeartbeats 4000000
/-! own defs: their promise by data, their call; what nobody can reach any more is dropped behind a call -/
namespace Pl
open PySem PySem.Spec PyProof.Rows L2 Hn
open PySem.W (Frag keepIn)
mutual
/-- d names only what stands below n in the store -/
def ClD (n : Nat) : D → Prop
  | .loc m => m < n
  | .tup xs => ClDs n xs
  | .lst xs => ClDs n xs
  | .rol xs => ClDs n xs
  | .dct _ xs => ClDs n xs
  | .err _ xs => ClDs n xs
  | _ => True
def ClDs (n : Nat) : List D → Prop
  | [] => True
  | d :: ds => ClD n d ∧ ClDs n ds
end
def ClC (n : Nat) : C → Prop
  | .lst xs => ClDs n xs
  | .dct kvs => ClDs n (kvs.map (·.2))
  | .dcT kvs => ClDs n (kvs.map (·.2))
  | .set xs => ClDs n xs
  | .ins _ fs => ClDs n (fs.map (·.2))
/-- what stood in the store is as it was, or names only what stood -/
def Unch (st st' : Sto) : Prop := st.length ≤ st'.length ∧ ∀ i, i < st.length → st'[i]? = st[i]? ∨ ∃ c, st'[i]? = some c ∧ ClC st.length c
open Classical in
noncomputable def gc (st : Sto) (r : R D) : R D := match r with
  | .ok d st' => if ClD st.length d ∧ Unch st st' then .ok d (st'.take st.length) else .ok d st'
  | .er e st' => if ClDs st.length (e.fs.map (·.2)) ∧ Unch st st' then .er e (st'.take st.length) else .er e st'
  | .no => .no
theorem Unch.app (st x : Sto) : Unch st (st ++ x) := ⟨by rw [List.length_append]; omega, fun i h => .inl (List.getElem?_append_left h)⟩
theorem gc_app {st x : Sto} {d : D} (h : ClD st.length d) : gc st (.ok d (st ++ x)) = .ok d st := by
  unfold gc
  simp only
  rw [if_pos ⟨h, Unch.app st x⟩, List.take_left]
theorem gc_same {st : Sto} {d : D} : gc st (.ok d st) = .ok d st := by
  unfold gc
  simp only
  split
  · rw [List.take_length]
  · rfl
theorem gc_er_same {st : Sto} {e : Er} : gc st (.er e st) = .er e st := by
  unfold gc
  simp only
  split
  · rw [List.take_length]
  · rfl
theorem gc_er_app {st x : Sto} {e : Er} (h : ClDs st.length (e.fs.map (·.2))) : gc st (.er e (st ++ x)) = .er e st := by
  unfold gc
  simp only
  rw [if_pos ⟨h, Unch.app st x⟩, List.take_left]
@[simp] theorem gc_no {st : Sto} : gc st .no = .no := rfl
section
variable {g : G} {W : WX} {X : Cx} {σ : L2.St} {μ μ1 : Mu} {ν : List Addr} {H H1 : Hp} {ρ : Env} {st st' : Sto}
mutual
theorem RV.cl : ∀ {d : D} {v : V}, RV g μ H d v → ClD μ.ls.length d
  | .non, _, _ => True.intro
  | .bl _, _, _ => True.intro
  | .int _, _, _ => True.intro
  | .str _, _, _ => True.intro
  | .nam _, _, _ => True.intro
  | .err _ xs, _, h => by obtain ⟨_, _, _, _, r⟩ := h; exact RVs.cl r
  | .tup xs, _, h => by obtain ⟨_, _, _, _, r⟩ := h; exact RVs.cl r
  | .lst xs, _, h => by obtain ⟨_, _, _, _, r⟩ := h; exact RVs.cl r
  | .rol xs, _, h => by obtain ⟨_, _, _, _, r⟩ := h; exact RVs.cl r
  | .dct _ xs, _, h => by obtain ⟨_, _, _, _, _, r⟩ := h; exact RVs.cl r
  | .loc n, _, h => by obtain ⟨_, _, e⟩ := h; exact (List.getElem?_eq_some_iff.mp e).1
theorem RVs.cl : ∀ {ds : List D} {vs : List V}, RVs g μ H ds vs → ClDs μ.ls.length ds
  | [], _, _ => True.intro
  | d :: ds, _, h => by obtain ⟨_, _, _, h1, h2⟩ := h; exact ⟨RV.cl h1, RVs.cl h2⟩
end
theorem clIntsS {n : Nat} : ∀ ns : List Int, ClDs n (ns.map D.int)
  | [] => True.intro
  | i :: ns => ⟨True.intro, clIntsS ns⟩
theorem RC.cl {a : Addr} {c : C} (h : RC g μ H a c) : ClC μ.ls.length c := by
  cases c with
  | lst xs => obtain ⟨_, _, r⟩ := h; exact r.cl
  | dct xs => obtain ⟨_, _, _, r⟩ := h; exact r.cl
  | dcT xs => obtain ⟨_, _, _, r⟩ := h; exact r.cl
  | set xs => obtain ⟨ns, e, _, _⟩ := h; subst e; exact clIntsS ns
  | ins c fs => obtain ⟨_, _, _, _, _, r⟩ := h; exact r.2.cl
def Mu.more (μ : Mu) (ν : List Addr) : Mu := ⟨μ.ls ++ ν, μ.pv⟩
theorem off_less {a : Addr} (k : (μ.more ν).off a) : μ.off a := ⟨fun z => k.1 (List.mem_append_left _ z), k.2⟩
theorem Go.mu {μ' : Mu} (x : Go μ H μ' H1) : ∃ ν, μ' = μ.more ν := by
  obtain ⟨ν, e⟩ := x.ext
  refine ⟨ν, ?_⟩
  have q := x.pv
  cases μ' with
  | mk l p =>
    have e1 : l = μ.ls ++ ν := e
    have e2 : p = μ.pv := q
    rw [e1, e2]
    rfl
mutual
theorem RV.less : ∀ {d : D} {v : V}, RV g (μ.more ν) H d v → ClD μ.ls.length d → RV g μ H d v
  | .non, _, h, _ => h
  | .bl _, _, h, _ => h
  | .int _, _, h, _ => h
  | .str _, _, h, _ => h
  | .nam _, _, h, _ => h
  | .err f xs, _, h, c => by
    obtain ⟨a, vs, e, ⟨dd, ee, q⟩, r⟩ := h
    exact ⟨a, vs, e, ⟨dd, ee, fun b hb => ⟨off_less (q b hb).1, (q b hb).2⟩⟩, RVs.less r c⟩
  | .tup xs, _, h, c => by
    obtain ⟨a, vs, e, q, r⟩ := h
    exact ⟨a, vs, e, ⟨off_less q.1, q.2⟩, RVs.less r c⟩
  | .lst xs, _, h, c => by
    obtain ⟨a, vs, e, q, r⟩ := h
    exact ⟨a, vs, e, ⟨off_less q.1, q.2⟩, RVs.less r c⟩
  | .rol xs, _, h, c => by
    obtain ⟨a, vs, e, q, r⟩ := h
    exact ⟨a, vs, e, q.imp_left fun q => ⟨off_less q.1, q.2⟩, RVs.less r c⟩
  | .dct _ xs, _, h, c => by
    obtain ⟨a, vs, e, q, k, r⟩ := h
    exact ⟨a, vs, e, ⟨off_less q.1, q.2⟩, k, RVs.less r c⟩
  | .loc n, _, h, c => by
    obtain ⟨a, e, q⟩ := h
    refine ⟨a, e, ?_⟩
    have q2 : (μ.ls ++ ν)[n]? = Option.some a := q
    rw [List.getElem?_append_left (show n < μ.ls.length from c)] at q2
    exact q2
theorem RVs.less : ∀ {ds : List D} {vs : List V}, RVs g (μ.more ν) H ds vs → ClDs μ.ls.length ds → RVs g μ H ds vs
  | [], _, h, _ => h
  | d :: ds, _, h, c => by
    obtain ⟨v, r, e, h1, h2⟩ := h
    exact ⟨v, r, e, RV.less h1 c.1, RVs.less h2 c.2⟩
end
theorem RC.less {a : Addr} {c : C} (h : RC g (μ.more ν) H a c) (k : ClC μ.ls.length c) : RC g μ H a c := by
  cases c with
  | lst xs => obtain ⟨vs, e, r⟩ := h; exact ⟨vs, e, r.less k⟩
  | dct xs => obtain ⟨vs, e, q, r⟩ := h; exact ⟨vs, e, q, r.less k⟩
  | dcT xs => obtain ⟨vs, e, q, r⟩ := h; exact ⟨vs, e, q, r.less k⟩
  | set xs => exact h
  | ins c fs => obtain ⟨C, dx, gs, e, q, r⟩ := h; exact ⟨C, dx, gs, e, q, r.1, r.2.less k⟩
theorem RS.less (S0 : RS g μ H st) (S : RS g (μ.more ν) H1 st') (u : Unch st st') : RS g μ H1 (st'.take st.length) := by
  refine ⟨by rw [List.length_take, Nat.min_eq_left u.1, S0.len], (List.nodup_append.mp (show (μ.ls ++ ν).Nodup from S.nd)).1, fun n c a e1 e2 => ?_, fun a ha => ?_, S.old⟩
  · have hn : n < st.length := by rw [← S0.len]; exact (List.getElem?_eq_some_iff.mp e2).1
    rw [List.getElem?_take, if_pos hn] at e1
    have k := S.at_ n c a e1 (by show (μ.ls ++ ν)[n]? = Option.some a; rw [List.getElem?_append_left (by rw [S0.len]; exact hn)]; exact e2)
    refine k.less ?_
    rcases u.2 n hn with z | ⟨c', z, q⟩
    · rw [z] at e1
      obtain ⟨b, _, r⟩ := S0.addr e1
      exact r.cl
    · rw [z] at e1
      obtain rfl := Option.some.inj e1
      rw [S0.len]
      exact q
  · obtain ⟨h1, h2⟩ := S.pvs a ha
    exact ⟨fun z => h1 (List.mem_append_left _ z), h2⟩
theorem Go.less {μ' : Mu} (x : Go μ H μ' H1) : Go μ H μ H1 := ⟨⟨[], by simp⟩, rfl, fun _ h => .inl h, x.keep⟩
theorem gc_ok {d : D} {Q : VK} (S : RS g μ H st) (p : PostG g W σ μ H (RV g) (gc st (.ok d st')) Q) {μ' : Mu} {v : V} (x : Go μ H μ' H1) (S' : RS g μ' H1 st') (r : RV g μ' H1 d v) : Q v H1 := by
  unfold gc at p
  simp only at p
  split at p
  · rename_i k
    obtain ⟨ν, rfl⟩ := x.mu
    exact PostG.done p x.less (S.less S' k.2) (r.less (by rw [S.len]; exact k.1))
  · exact PostG.done p x S' r
theorem gc_er {e : Er} {Q : VK} (S : RS g μ H st) (p : PostG g W σ μ H (RV g) (gc st (.er e st')) Q) {μ' : Mu} {cls : Value} {dd : Option Addr} (x : Go μ H μ' H1) (S' : RS g μ' H1 st') (r : RErr g μ' H1 e cls dd) : W cls dd σ H1 := by
  unfold gc at p
  simp only at p
  split at p
  · rename_i k
    obtain ⟨ν, rfl⟩ := x.mu
    refine p μ H1 cls dd x.less (S.less S' k.2) ?_
    obtain ⟨C, h1, h2, h3⟩ := r
    refine ⟨C, h1, h2, h3.imp_right fun ⟨f, d, a, v, e1, e2, e3, e4⟩ => ⟨f, d, a, v, e1, e2, ⟨off_less e3.1, e3.2⟩, e4.less ?_⟩⟩
    have k1 := k.1
    rw [e1] at k1
    rw [S.len]
    exact k1.1
  · exact p μ' H1 cls dd x S' r
end
/-! ### statements' outcomes -/
inductive O where
  | nx (ρ : Env) (st : Sto)
  | rt (d : D) (st : Sto)
  | bk (ρ : Env) (st : Sto)
  | ct (ρ : Env) (st : Sto)
  | er (e : Er) (ρ : Env) (st : Sto)
  | no
def PostS (g : G) (W : WX) (μ : Mu) (H : Hp) (o : O) (Dn : Ends) : Prop :=
  match o with
  | .nx ρ' st' => ∀ μ' σ' H', Go μ H μ' H' → Rel g μ' σ' H' ρ' st' → Dn.nx σ' H'
  | .rt d st' => ∀ μ' v H', Go μ H μ' H' → RS g μ' H' st' → RV g μ' H' d v → Dn.rt v H'
  | .bk ρ' st' => ∀ μ' σ' H', Go μ H μ' H' → Rel g μ' σ' H' ρ' st' → Dn.bk σ' H'
  | .ct ρ' st' => ∀ μ' σ' H', Go μ H μ' H' → Rel g μ' σ' H' ρ' st' → Dn.ct σ' H'
  | .er e ρ' st' => ∀ μ' σ' H' cls dd, Go μ H μ' H' → Rel g μ' σ' H' ρ' st' → RErr g μ' H' e cls dd → W cls dd σ' H'
  | .no => False
def tS (g : G) (W : WX) (m : Env → Sto → O) : TS := fun Dn σ H => ∃ μ ρ st, Rel g μ σ H ρ st ∧ PostS g W μ H (m ρ st) Dn
abbrev PMS (g : G) (W : WX) (X : Cx) (s : Stmt) (m : Env → Sto → O) : Prop := PS X s (tS g W m)
abbrev PMSs (g : G) (W : WX) (X : Cx) (s : List Stmt) (m : Env → Sto → O) : Prop := PSs X s (tS g W m)
def toR : O → R D
  | .nx _ st => .ok .non st
  | .rt d st => .ok d st
  | .er e _ st => .er e st
  | _ => .no
@[simp] theorem toR_nx {ρ : Env} {st : Sto} : toR (.nx ρ st) = .ok .non st := rfl
@[simp] theorem toR_rt {d : D} {st : Sto} : toR (.rt d st) = .ok d st := rfl
@[simp] theorem toR_er {e : Er} {ρ : Env} {st : Sto} : toR (.er e ρ st) = .er e st := rfl
/-- a def of k parameters and n names by its body -/
noncomputable def mDef (k n : Nat) (m : Env → Sto → O) (ds : List D) (st : Sto) : R D := if ds.length = k then gc st (toR (m (ds.map some ++ List.replicate (n - k) none) st)) else .no
/-- a promise by data -/
def spM (g : G) (f : List D → Sto → R D) : Sp := fun vs H Q E => ∃ μ st ds, RS g μ H st ∧ RVs g μ H ds vs ∧ PostG g (fun c d _ H => E c d H) [] μ H (RV g) (f ds st) Q
abbrev KeptM (g : G) (base : Heap) (k : Nat) (x : Str) (ps : List Str) (f : List D → Sto → R D) : Prop := KeptX g.P g.w g.K g.mg base k x ps (spM g f)
section
variable {g : G} {W : WX} {X : Cx} {σ : L2.St} {μ μ1 : Mu} {ν : List Addr} {H H1 : Hp} {ρ : Env} {st st' : Sto}
mutual
/-- the heap as it was found plays no part in what stands -/
theorem RV.swap {g : G} {h0 : Hp} {μ : Mu} {H : Hp} : ∀ {d : D} {v : V}, RV g μ H d v → RV { g with h0 := h0 } μ H d v
  | .non, _, h => h
  | .bl _, _, h => h
  | .int _, _, h => h
  | .str _, _, h => h
  | .tup xs, _, h => by obtain ⟨a, vs, e, q, r⟩ := h; exact ⟨a, vs, e, q, RVs.swap r⟩
  | .lst xs, _, h => by obtain ⟨a, vs, e, q, r⟩ := h; exact ⟨a, vs, e, q, RVs.swap r⟩
  | .rol xs, _, h => by obtain ⟨a, vs, e, q, r⟩ := h; exact ⟨a, vs, e, q, RVs.swap r⟩
  | .dct ks xs, _, h => by obtain ⟨a, vs, e, q, k, r⟩ := h; exact ⟨a, vs, e, q, k, RVs.swap r⟩
  | .loc n, _, h => h
  | .nam _, _, h => h
  | .err f xs, _, h => by obtain ⟨a, vs, e, q, r⟩ := h; exact ⟨a, vs, e, q, RVs.swap r⟩
theorem RVs.swap {g : G} {h0 : Hp} {μ : Mu} {H : Hp} : ∀ {ds : List D} {vs : List V}, RVs g μ H ds vs → RVs { g with h0 := h0 } μ H ds vs
  | [], _, h => h
  | d :: ds, _, h => by obtain ⟨v, r, e, h1, h2⟩ := h; exact ⟨v, r, e, RV.swap h1, RVs.swap h2⟩
end
theorem RC.swap {g : G} {h0 : Hp} {μ : Mu} {H : Hp} {a : Addr} {c : C} (h : RC g μ H a c) : RC { g with h0 := h0 } μ H a c := by
  cases c with
  | lst xs => obtain ⟨vs, e, r⟩ := h; exact ⟨vs, e, r.swap⟩
  | dct xs => obtain ⟨vs, e, q, r⟩ := h; exact ⟨vs, e, q, r.swap⟩
  | dcT xs => obtain ⟨vs, e, q, r⟩ := h; exact ⟨vs, e, q, r.swap⟩
  | set xs => exact h
  | ins c fs => obtain ⟨C, dx, gs, e, q, r⟩ := h; exact ⟨C, dx, gs, e, q, r.1, r.2.swap⟩
theorem RS.swap {g : G} {h0 : Hp} {μ : Mu} {H : Hp} {st : Sto} (S : RS g μ H st) (k : ∀ a, H a = none → h0 a = none) : RS { g with h0 := h0 } μ H st := ⟨S.len, S.nd, fun n c a e1 e2 => (S.at_ n c a e1 e2).swap, S.pvs, k⟩
theorem RErr.swap {g : G} {h0 : Hp} {μ : Mu} {H : Hp} {e : Er} {cls : Value} {dd : Option Addr} (h : RErr g μ H e cls dd) : RErr { g with h0 := h0 } μ H e cls dd := by
  obtain ⟨C, h1, h2, h3⟩ := h
  exact ⟨C, h1, h2, h3.imp_right fun ⟨f, d, a, v, e1, e2, e3, e4⟩ => ⟨f, d, a, v, e1, e2, e3, e4.swap⟩⟩
theorem rel_start {N : List Str} {ds : List D} {vs : List V} (S : RS g μ H st) (r : RVs g μ H ds vs) : Rel g μ (L2.start N vs) H (ds.map some ++ List.replicate (N.length - ds.length) none) st := by
  have l := r.length
  refine ⟨by unfold L2.start; simp only [List.length_append, List.length_map, List.length_replicate, l], fun i d e => ?_, S⟩
  by_cases h : i < ds.length
  · rw [List.getElem?_append_left (by rw [List.length_map]; exact h), List.getElem?_map] at e
    obtain ⟨d', e1, e2⟩ := Option.map_eq_some_iff.mp e
    cases e2
    obtain ⟨v, e3, rv⟩ := r.at e1
    refine ⟨v, ?_, rv⟩
    unfold L2.start
    rw [List.getElem?_append_left (by rw [List.length_map, l]; exact h), List.getElem?_map, e3]
    rfl
  · rw [List.getElem?_append_right (by rw [List.length_map]; omega)] at e
    rw [List.getElem?_replicate] at e
    split at e
    · cases e
    · cases e
theorem _root_.Hn.Dfn.keptM {P : Program} {w : World} {K : Frag} {mg : Str → Option Value} {base : Heap} {x : Str} {st : Stmt} {N ps : List Str} {k : Nat} {m : Env → Sto → O} {h0 : Hp} (D : Dfn K mg x st ps) (S : FnScope N ps (defScope st))
    (hbody : ∀ (f : Addr) (cdv : Value) (A : Around) (ou : List PySem.Env) (s : Shared) (H : Hp) (E : XK), Room k (A.deeper (envOfC x (defScope st) s.heap.objs.size f cdv)) →
      PMSs ⟨P, w, K, mg, none, H⟩ (fun c d _ H => E c d H) (cxOf (L2.CX P w) P w K mg base N x (defScope st) f cdv A ou s H E) (defBody st) m) :
    KeptM ⟨P, w, K, mg, none, h0⟩ base (k + 1) x ps (mDef ps.length N.length m) := by
  refine D.keptX S (fun vs H Q E h => ?_) (fun f cdv A ou s H vs Q E hr h => ⟨_, hbody f cdv A ou s H E hr, ?_⟩)
  · obtain ⟨μ, st, ds, S, r, p⟩ := h
    rw [r.length]
    unfold mDef at p
    split at p
    · assumption
    · exact p.elim
  · obtain ⟨μ, st, ds, S, r, p⟩ := h
    unfold mDef at p
    split at p
    · rename_i hl
      have S1 : RS ⟨P, w, K, mg, none, H⟩ μ H st := RS.swap S fun _ e => e
      have bk : ∀ {μ' : Mu} {H' : Hp} {st' : Sto}, RS ⟨P, w, K, mg, none, H⟩ μ' H' st' → RS ⟨P, w, K, mg, none, h0⟩ μ' H' st' := fun S' => RS.swap S' fun a e => S.old a (S'.old a e)
      refine ⟨μ, _, st, rel_start S1 (RVs.swap r), ?_⟩
      rw [hl]
      cases hm : m (ds.map some ++ List.replicate (N.length - ps.length) none) st with
      | nx ρ' st' =>
        rw [hm] at p
        exact fun μ' σ' H' x rel => gc_ok S p x (bk rel.sto) rfl
      | rt d st' =>
        rw [hm] at p
        exact fun μ' v H' x S' rv => gc_ok S p x (bk S') (RV.swap rv)
      | er e ρ' st' =>
        rw [hm] at p
        exact fun μ' σ' H' cls dd x rel re => gc_er S p x (bk rel.sto) (RErr.swap re)
      | bk ρ' st' => rw [hm] at p; exact p.elim
      | ct ρ' st' => rw [hm] at p; exact p.elim
      | no => rw [hm] at p; exact p.elim
    · exact p.elim
variable {k : Nat} {x : Str} {ps : List Str} {f : List D → Sto → R D} {e : Expr} {es : List Expr} {ms : Env → Sto → R (List D)} {p pos : Pos} {base : Heap}
/-- f(e, ..) -/
theorem pm_call (Gf : KeptM g base k x ps f) (hP : X.prog = g.P) (hw : X.w = g.w) (hK : X.K = g.K) (hm : X.mg = g.mg) (hb : X.base = base) (hr : Room k X.A) (hg : Gl X x) (hx : ∀ σ, PassesAt (L2.CX X.prog X.w) X σ (WE W σ)) (ha : PMA g W X (e :: es) ms) (hdb : (x == ("__debug__" : Str)) = false := by decide)
    (he : starEach (e :: es) X.env = (false, eval e X.env) :: starEach es X.env := by rfl) (hpl : (backTo pos (starEach es X.env)).any (·.1) = false := by rfl) : PM g W X (.Call (.Name x p) (e :: es) [] pos) (mCall f ms) := by
  refine (pe_kx (k := k) (ps := ps) (sp := spM g f) (E := WE W) (by rw [hP, hw, hK, hm, hb]; exact Gf) hr hg hx ha hdb he hpl).imp fun σ H Q ⟨μ, ρ, st, rel, p⟩ => tG_bind rel p fun μ1 ds st1 vs H1 go1 rel1 rv1 p1 => ?_
  exact ⟨μ1, st1, ds, rel1.sto, rv1, R.post_mono p1 (fun _ _ q => q) fun _ _ q => q⟩
theorem passNo {X : Cx} : ∀ σ, PassesAt (L2.CX X.prog X.w) X σ (WE (fun _ _ _ _ => False) σ) := fun σ pins H s e s' I ⟨a, B, H', cls, d, _, _, _, _, _, _, _, h⟩ => h.elim
end
end Pl

set_option maxHeartbeats 4000000
/-! statements -/
namespace Pl
open PySem PySem.Spec PyProof.Rows L2 Hn
open PySem.W (Frag keepIn)
def O.of {α : Type} (r : R α) (ρ : Env) (k : α → Sto → O) : O := match r with
  | .ok a st => k a st
  | .er e st => .er e ρ st
  | .no => .no
@[simp] theorem O.of_ok {α : Type} (a : α) (st : Sto) (ρ : Env) (k : α → Sto → O) : O.of (.ok a st) ρ k = k a st := rfl
@[simp] theorem O.of_er {α : Type} (e : Er) (st : Sto) (ρ : Env) (k : α → Sto → O) : O.of (.er e st) ρ k = .er e ρ st := rfl
section
variable {α β : Type} {g : G} {W : WX} {X : Cx} {σ : L2.St} {μ μ1 : Mu} {H H1 : Hp} {ρ : Env} {st : Sto} {Dn : Ends}
theorem PostS.base {o : O} (x : Go μ H μ1 H1) (p : PostS g W μ H o Dn) : PostS g W μ1 H1 o Dn := by
  cases o with
  | nx ρ' st' => exact fun μ' σ' H' y => p μ' σ' H' (x.trans y)
  | rt d st' => exact fun μ' v H' y => p μ' v H' (x.trans y)
  | bk ρ' st' => exact fun μ' σ' H' y => p μ' σ' H' (x.trans y)
  | ct ρ' st' => exact fun μ' σ' H' y => p μ' σ' H' (x.trans y)
  | er e ρ' st' => exact fun μ' σ' H' cls dd y => p μ' σ' H' cls dd (x.trans y)
  | no => exact p
theorem tG_OE {Rp : Mu → Hp → α → β → Prop} {m : Env → Sto → R α} {k : α → Sto → O} {Kt : β → Hp → Prop} (rel : Rel g μ σ H ρ st) (p : PostS g W μ H (O.of (m ρ st) ρ k) Dn)
    (c : ∀ μ1 a st1 x H1, m ρ st = .ok a st1 → Go μ H μ1 H1 → Rel g μ1 σ H1 ρ st1 → Rp μ1 H1 a x → PostS g W μ1 H1 (k a st1) Dn → Kt x H1) : tG g W Rp m σ H Kt := by
  refine ⟨μ, ρ, st, rel, ?_⟩
  cases e : m ρ st with
  | ok a st1 =>
    rw [e] at p
    exact fun μ1 x H1 go S rv => c μ1 a st1 x H1 e go (rel.go go S) rv (PostS.base go p)
  | er x st1 =>
    rw [e] at p
    exact fun μ1 H1 cls dd go S re => p μ1 σ H1 cls dd go (rel.go go S) re
  | no =>
    rw [e] at p
    exact p.elim
theorem tG_O {Rp : Mu → Hp → α → β → Prop} {m : Env → Sto → R α} {k : α → Sto → O} {Kt : β → Hp → Prop} (rel : Rel g μ σ H ρ st) (p : PostS g W μ H (O.of (m ρ st) ρ k) Dn)
    (c : ∀ μ1 a st1 x H1, Go μ H μ1 H1 → Rel g μ1 σ H1 ρ st1 → Rp μ1 H1 a x → PostS g W μ1 H1 (k a st1) Dn → Kt x H1) : tG g W Rp m σ H Kt := by
  refine ⟨μ, ρ, st, rel, ?_⟩
  cases e : m ρ st with
  | ok a st1 =>
    rw [e] at p
    exact fun μ1 x H1 go S rv => c μ1 a st1 x H1 go (rel.go go S) rv (PostS.base go p)
  | er x st1 =>
    rw [e] at p
    exact fun μ1 H1 cls dd go S re => p μ1 σ H1 cls dd go (rel.go go S) re
  | no =>
    rw [e] at p
    exact p.elim
end
@[simp] def mSeq (a b : Env → Sto → O) (ρ : Env) (st : Sto) : O := match a ρ st with
  | .nx ρ' st' => b ρ' st'
  | o => o
@[simp] def mNext (ρ : Env) (st : Sto) : O := .nx ρ st
@[simp] def mSet (i : Nat) (m : Env → Sto → R D) (ρ : Env) (st : Sto) : O := O.of (m ρ st) ρ fun d st1 => .nx (ρ.set i (some d)) st1
@[simp] def mExpr (m : Env → Sto → R D) (ρ : Env) (st : Sto) : O := O.of (m ρ st) ρ fun _ st1 => .nx ρ st1
@[simp] def mRet (m : Env → Sto → R D) (ρ : Env) (st : Sto) : O := O.of (m ρ st) ρ fun d st1 => .rt d st1
@[simp] def mRetN (_ : Env) (st : Sto) : O := .rt .non st
@[simp] def mBreak (ρ : Env) (st : Sto) : O := .bk ρ st
@[simp] def mCont (ρ : Env) (st : Sto) : O := .ct ρ st
@[simp] def mIfS (t : Env → Sto → R Bool) (a b : Env → Sto → O) (ρ : Env) (st : Sto) : O := O.of (t ρ st) ρ fun c st1 => if c = true then a ρ st1 else b ρ st1
@[simp] def mRaise0 (x : Str) (ρ : Env) (st : Sto) : O := .er ⟨x, []⟩ ρ st
@[simp] def mRaise1 (x f : Str) (m : Env → Sto → R D) (ρ : Env) (st : Sto) : O := O.of (m ρ st) ρ fun d st1 => .er ⟨x, [(f, d)]⟩ ρ st1
/-! ### targets -/
inductive Pat where
  | nm (i : Nat)
  | tp (ps : List Pat)
mutual
def Pat.set : Pat → D → Env → Option Env
  | .nm i, d, ρ => some (ρ.set i (some d))
  | .tp ps, .tup xs, ρ => setAll ps xs ρ
  | _, _, _ => none
def setAll : List Pat → List D → Env → Option Env
  | [], [], ρ => some ρ
  | p :: ps, d :: ds, ρ => match p.set d ρ with
    | some ρ' => setAll ps ds ρ'
    | none => none
  | _, _, _ => none
end
mutual
def Pat.sl : Pat → List Nat
  | .nm i => [i]
  | .tp ps => slAll ps
def slAll : List Pat → List Nat
  | [] => []
  | p :: ps => p.sl ++ slAll ps
end
@[simp] theorem set_nm {i : Nat} {d : D} {ρ : Env} : (Pat.nm i).set d ρ = some (ρ.set i (some d)) := rfl
@[simp] theorem set_tp {ps : List Pat} {xs : List D} {ρ : Env} : (Pat.tp ps).set (.tup xs) ρ = setAll ps xs ρ := rfl
@[simp] theorem setAll_nil {ρ : Env} : setAll [] [] ρ = some ρ := rfl
@[simp] theorem setAll_cons {p : Pat} {ps : List Pat} {d : D} {ds : List D} {ρ : Env} : setAll (p :: ps) (d :: ds) ρ = match p.set d ρ with
    | some ρ' => setAll ps ds ρ'
    | none => none := rfl
def ofOptO {α : Type} (o : Option α) (f : α → O) : O := match o with
  | some a => f a
  | none => .no
@[simp] theorem ofOptO_some {α : Type} (a : α) (f : α → O) : ofOptO (some a) f = f a := rfl
@[simp] def mAsg (p : Pat) (m : Env → Sto → R D) (ρ : Env) (st : Sto) : O := O.of (m ρ st) ρ fun d st1 => ofOptO (p.set d ρ) fun ρ' => .nx ρ' st1
theorem wipe_get (σ : L2.St) (j : Nat) : ∀ vs : List Nat, (wipe σ vs)[j]? = if j ∈ vs then (σ[j]?).map (fun _ => none) else σ[j]?
  | [] => rfl
  | v :: vs => by
    unfold wipe
    rw [List.getElem?_set, wipe_get σ j vs, wipe_length]
    by_cases h : v = j
    · subst h
      rw [if_pos rfl, if_pos List.mem_cons_self]
      by_cases h2 : v < σ.length
      · rw [if_pos h2, List.getElem?_eq_getElem h2]
        rfl
      · rw [if_neg h2, List.getElem?_eq_none_iff.mpr (by omega)]
        rfl
    · rw [if_neg h]
      by_cases h2 : j ∈ vs
      · rw [if_pos h2, if_pos (List.mem_cons_of_mem _ h2)]
      · rw [if_neg h2, if_neg fun z => (List.mem_cons.mp z).elim (fun z => h z.symm) h2]
theorem wipe_set {σ : L2.St} {vs : List Nat} {i : Nat} {x : Option V} (h : i ∈ vs) : wipe (σ.set i x) vs = wipe σ vs := by
  apply List.ext_getElem?
  intro j
  rw [wipe_get, wipe_get]
  by_cases hj : j ∈ vs
  · rw [if_pos hj, if_pos hj]
    by_cases e : i = j
    · subst e
      rw [List.getElem?_set]
      by_cases h2 : i < σ.length
      · rw [if_pos rfl, if_pos h2, List.getElem?_eq_getElem h2]
        rfl
      · rw [if_pos rfl, if_neg h2, List.getElem?_eq_none_iff.mpr (by omega)]
    · rw [List.getElem?_set_ne e]
  · rw [if_neg hj, if_neg hj, List.getElem?_set_ne fun e => hj (by rw [← e]; exact h)]
theorem wipe_wipe (σ : L2.St) (vs : List Nat) : wipe (wipe σ vs) vs = wipe σ vs := by
  apply List.ext_getElem?
  intro j
  rw [wipe_get, wipe_get]
  by_cases hj : j ∈ vs
  · rw [if_pos hj, if_pos hj]
    cases σ[j]? <;> rfl
  · rw [if_neg hj, if_neg hj]
def wipeD (ρ : Env) : List Nat → Env
  | [] => ρ
  | v :: vs => (wipeD ρ vs).set v none
@[simp] theorem wipeD_nil {ρ : Env} : wipeD ρ [] = ρ := rfl
@[simp] theorem wipeD_cons {ρ : Env} {v : Nat} {vs : List Nat} : wipeD ρ (v :: vs) = (wipeD ρ vs).set v none := rfl
theorem wipeD_len (ρ : Env) : ∀ vs : List Nat, (wipeD ρ vs).length = ρ.length
  | [] => rfl
  | v :: vs => by unfold wipeD; rw [List.length_set, wipeD_len ρ vs]
theorem wipeD_some {ρ : Env} {i : Nat} {d : D} : ∀ {vs : List Nat}, (wipeD ρ vs)[i]? = some (some d) → ρ[i]? = some (some d) ∧ i ∉ vs
  | [], h => ⟨h, List.not_mem_nil⟩
  | v :: vs, h => by
    unfold wipeD at h
    by_cases e : v = i
    · subst e
      rw [List.getElem?_set] at h
      split at h
      · split at h <;> cases h
      · rename_i k; exact absurd rfl k
    · rw [List.getElem?_set_ne e] at h
      obtain ⟨h1, h2⟩ := wipeD_some h
      exact ⟨h1, fun z => (List.mem_cons.mp z).elim (fun z => e z.symm) h2⟩
section
variable {g : G} {W : WX} {X : Cx} {σ : L2.St} {μ μ1 : Mu} {H H1 : Hp} {ρ : Env} {st : Sto}
theorem Rel.wipe (r : Rel g μ σ H ρ st) (vs : List Nat) : Rel g μ (L2.wipe σ vs) H (wipeD ρ vs) st := ⟨by rw [wipe_length, wipeD_len, r.len], fun i d e => by
  obtain ⟨e1, n⟩ := wipeD_some e
  obtain ⟨v, h1, h2⟩ := r.slot i d e1
  exact ⟨v, by rw [wipe_get, if_neg n]; exact h1, h2⟩, r.sto⟩
def gP (g : G) (p : Pat) : TG := fun v σ H Q => ∃ μ ρ st d ρ', Rel g μ σ H ρ st ∧ RV g μ H d v ∧ p.set d ρ = some ρ' ∧ ∀ σ', Rel g μ σ' H ρ' st → (∀ vs, (∀ i ∈ p.sl, i ∈ vs) → L2.wipe σ' vs = L2.wipe σ vs) → Q σ' H
def gPs (g : G) (ps : List Pat) : TGs := fun us σ H Q => ∃ μ ρ st ds ρ', Rel g μ σ H ρ st ∧ RVs g μ H ds us ∧ setAll ps ds ρ = some ρ' ∧ ∀ σ', Rel g μ σ' H ρ' st → (∀ vs, (∀ i ∈ slAll ps, i ∈ vs) → L2.wipe σ' vs = L2.wipe σ vs) → Q σ' H
theorem _root_.L2.PG.imp {X : Cx} {e : Expr} {t t' : TG} (h : PG X e t) (k : ∀ v σ H Q, t' v σ H Q → t v σ H Q) : PG X e t' := ⟨fun pins s σ H v u Q I r q => h.run pins s σ H v u Q I r (k _ _ _ _ q)⟩
theorem _root_.L2.PGs.imp {X : Cx} {e : List Expr} {t t' : TGs} (h : PGs X e t) (k : ∀ v σ H Q, t' v σ H Q → t v σ H Q) : PGs X e t' := ⟨fun pins s σ H v u Q I r q => h.run pins s σ H v u Q I r (k _ _ _ _ q)⟩
variable {e : Expr} {es : List Expr} {pos : Pos}
theorem pg_nm {i : Nat} (h : PG X e (gName i)) : PG X e (gP g (.nm i)) := h.imp fun v σ H Q ⟨μ, ρ, st, d, ρ', rel, rv, e, q⟩ => by
  cases e
  exact q _ (rel.set rv) fun vs h => wipe_set (h i List.mem_cons_self)
theorem pgs_none : PGs X [] (gPs g []) := pgs_nil.imp fun v σ H Q ⟨μ, ρ, st, ds, ρ', rel, rv, e, q⟩ => by
  cases ds with
  | nil =>
    cases e
    exact ⟨rv, q σ rel fun _ _ => rfl⟩
  | cons d ds => cases e
theorem pgs_more {p : Pat} {ps : List Pat} (h1 : PG X e (gP g p)) (h2 : PGs X es (gPs g ps)) (hs : (assignEach (e :: es) X.env).map (·.2) = assign e X.env :: (assignEach es X.env).map (·.2) := by rfl) : PGs X (e :: es) (gPs g (p :: ps)) :=
  (pgs_cons h1 h2 hs).imp fun us σ H Q ⟨μ, ρ, st, ds, ρ', rel, rv, e, q⟩ => by
    cases ds with
    | nil => cases e
    | cons d ds =>
      obtain ⟨v, r, rfl, r1, r2⟩ := rv
      unfold setAll at e
      cases e1 : p.set d ρ with
      | none => rw [e1] at e; cases e
      | some ρ1 =>
        rw [e1] at e
        refine ⟨v, r, rfl, μ, ρ, st, d, ρ1, rel, r1, e1, fun σ1 rel1 w1 => ⟨μ, ρ1, st, ds, ρ', rel1, r2, e, fun σ2 rel2 w2 => q σ2 rel2 fun vs h => ?_⟩⟩
        rw [w2 vs fun i hi => h i (List.mem_append_right _ hi), w1 vs fun i hi => h i (List.mem_append_left _ hi)]
theorem pg_tp {ps : List Pat} {k : Nat} (hc : X.calm = true) (hK : X.K = g.K) (h : PGs X es (gPs g ps)) (hn : (assignEach es X.env).length = ps.length := by rfl) (hst : (assignEach es X.env).findIdx? (·.1) = none := by rfl) : PG X (.Tuple es k pos) (gP g (.tp ps)) :=
  (pg_tup (n := ps.length) hc h hn hst).imp fun v σ H Q ⟨μ, ρ, st, d, ρ', rel, rv, e, q⟩ => by
    cases d with
    | tup xs =>
      obtain ⟨a, vs, rfl, k, r⟩ := rv
      have hl : ∀ (ps : List Pat) (xs : List D) (ρ ρ' : Env), setAll ps xs ρ = some ρ' → xs.length = ps.length := fun ps => by
        induction ps with
        | nil => intro xs ρ ρ' h; cases xs with
          | nil => rfl
          | cons => cases h
        | cons p ps ih => intro xs ρ ρ' h; cases xs with
          | nil => cases h
          | cons x xs =>
            unfold setAll at h
            split at h
            · rw [List.length_cons, List.length_cons, ih _ _ _ h]
            · cases h
      exact ⟨a, vs, rfl, by rw [hK]; exact SqT.of k.2, by rw [r.length, hl _ _ _ _ e], μ, ρ, st, xs, ρ', rel, r, e, q⟩
    | _ => cases e
variable {m ma mb : Env → Sto → R D} {a b : Env → Sto → O} {s : Stmt} {ss ss2 : List Stmt} {mt : Env → Sto → R Bool}
theorem pms_nil : PMSs g W X [] mNext := pss_nil.imp fun Dn σ H ⟨μ, ρ, st, rel, p⟩ => p μ σ H Go.refl rel
theorem pms_cons (h1 : PMS g W X s a) (h2 : PMSs g W X ss b) : PMSs g W X (s :: ss) (mSeq a b) := (pss_cons h1 h2).imp fun Dn σ H ⟨μ, ρ, st, rel, p⟩ => by
  refine ⟨μ, ρ, st, rel, ?_⟩
  unfold mSeq at p
  cases e : a ρ st with
  | nx ρ' st' =>
    rw [e] at p
    exact fun μ' σ' H' go rel' => ⟨μ', ρ', st', rel', PostS.base go p⟩
  | rt d st' => rw [e] at p; exact p
  | bk ρ' st' => rw [e] at p; exact p
  | ct ρ' st' => rw [e] at p; exact p
  | er x ρ' st' => rw [e] at p; exact p
  | no => rw [e] at p; exact p
theorem pms_one (h1 : PMS g W X s a) : PMSs g W X [s] a := pss_one h1
theorem pms_set {i : Nat} {x : Str} {pos' : Pos} (hN : X.N.Nodup) (hi : X.N[i]? = some x) (hx : Loc X.env.scope x) (h : PM g W X e m) (hs : swapsWith e (some (.Name x pos')) pos.line X.env = pure false := by rfl) (hf : X.fn x = true ∨ X.env.scope.names.lookup x = some .local := by first | exact .inl rfl | exact .inr rfl | assumption) :
    PMS g W X (.Assign [.Name x pos'] e pos) (mSet i m) := (ps_set hN hi hx h hs hf).imp fun Dn σ H ⟨μ, ρ, st, rel, p⟩ => tG_O rel p fun μ1 d st1 x H1 go rel1 rv p1 => p1 μ1 _ H1 Go.refl (rel1.set rv)
theorem pms_expr (h : PM g W X e m) (hs : swapsWith e none pos.line X.env = pure false := by rfl) : PMS g W X (.Expr e pos) (mExpr m) := (ps_expr h hs).imp fun Dn σ H ⟨μ, ρ, st, rel, p⟩ => tG_O rel p fun μ1 d st1 x H1 go rel1 rv p1 => p1 μ1 σ H1 Go.refl rel1
theorem pms_ret (h : PM g W X e m) : PMS g W X (.Return (some e) pos) (mRet m) := (ps_ret h).imp fun Dn σ H ⟨μ, ρ, st, rel, p⟩ => tG_O rel p fun μ1 d st1 x H1 go rel1 rv p1 => p1 μ1 x H1 Go.refl rel1.sto rv
theorem pms_if (ht : PMT g W X e mt) (ha : PMSs g W X ss a) (hb : PMSs g W X ss2 b) : PMS g W X (.If e ss ss2 pos) (mIfS mt a b) := (ps_if ht ha hb).imp fun Dn σ H ⟨μ, ρ, st, rel, p⟩ => tG_O (Rp := RB) rel p fun μ1 c st1 c' H1 go rel1 rv p1 => by
  cases (show c' = c from rv)
  cases c with
  | true => exact ⟨μ1, ρ, st1, rel1, p1⟩
  | false => exact ⟨μ1, ρ, st1, rel1, p1⟩
theorem pms_raise0 {x : Str} {C : Addr} {p1 p2 : Pos} (T : Err X.K X.mg x C) (hm : X.mg = g.mg) (hc : X.calm = true) (tk : Takes X W) (hg : Gl X x) (hdb : (x == ("__debug__" : Str)) = false := by decide) : PMS g W X (.Raise (some (.Call (.Name x p1) [] [] p2)) none pos) (mRaise0 x) :=
  (ps_raise hc tk (pmk_own0 T hg hdb)).imp fun Dn σ H ⟨μ, ρ, st, rel, p⟩ => p μ σ H (.ref C) none Go.refl rel ⟨C, by rw [← hm]; exact T.g, rfl, .inl ⟨rfl, rfl⟩⟩
theorem go_same (k : Same H H1) : Go μ H μ H1 := ⟨⟨[], by simp⟩, rfl, fun _ h => .inl h, fun a o _ e => k a o e⟩
theorem RS.same (S : RS g μ H st) (k : Same H H1) : RS g μ H1 st := ⟨S.len, S.nd, fun n c a e1 e2 => by
  have z := S.at_ n c a e1 e2
  obtain ⟨o, eo⟩ := z.some
  exact z.go (go_same k) ((k a o eo).trans eo.symm), fun a ha => by
  obtain ⟨h1, o, e⟩ := S.pvs a ha
  exact ⟨h1, o, k a o e⟩, fun a e => S.old a (by
  cases q : H a with
  | none => rfl
  | some o => rw [k a o q] at e; cases e)⟩
end
/-! ### while -/
def whileN (t : Env → Sto → R Bool) (b : Env → Sto → O) : Nat → Env → Sto → O
  | 0, _, _ => .no
  | n + 1, ρ, st => O.of (t ρ st) ρ fun c st1 => if c = true then (match b ρ st1 with
    | .nx ρ2 st2 => whileN t b n ρ2 st2
    | .ct ρ2 st2 => whileN t b n ρ2 st2
    | .bk ρ2 st2 => .nx ρ2 st2
    | o => o) else .nx ρ st1
open Classical in
noncomputable def mWhile (t : Env → Sto → R Bool) (b : Env → Sto → O) (ρ : Env) (st : Sto) : O := if h : ∃ n, whileN t b n ρ st ≠ .no then whileN t b h.choose ρ st else .no
theorem whileN_mono {t : Env → Sto → R Bool} {b : Env → Sto → O} : ∀ {n m : Nat} {ρ : Env} {st : Sto}, n ≤ m → whileN t b n ρ st ≠ .no → whileN t b m ρ st = whileN t b n ρ st
  | 0, _, _, _, _, h => absurd rfl h
  | n + 1, 0, _, _, le, _ => absurd le (by omega)
  | n + 1, m + 1, ρ, st, le, h => by
    unfold whileN at h ⊢
    cases e : t ρ st with
    | ok c st1 =>
      rw [e] at h
      cases c with
      | false => rfl
      | true =>
        simp only [O.of_ok, if_true] at h ⊢
        cases e2 : b ρ st1 with
        | nx ρ2 st2 => rw [e2] at h; exact whileN_mono (by omega) h
        | ct ρ2 st2 => rw [e2] at h; exact whileN_mono (by omega) h
        | _ => rfl
    | _ => rfl
theorem mWhile_eq {t : Env → Sto → R Bool} {b : Env → Sto → O} {ρ : Env} {st : Sto} {o : O} (n : Nat) (e : whileN t b n ρ st = o) (h : o ≠ .no) : mWhile t b ρ st = o := by
  have q : ∃ n, whileN t b n ρ st ≠ .no := ⟨n, by rw [e]; exact h⟩
  unfold mWhile
  rw [dif_pos q]
  rcases Nat.le_total n q.choose with l | l
  · rw [whileN_mono l (by rw [e]; exact h), e]
  · rw [← e, whileN_mono l q.choose_spec]
section
variable {g : G} {W : WX} {X : Cx} {e : Expr} {pos : Pos} {mt : Env → Sto → R Bool} {b : Env → Sto → O} {ss : List Stmt}
theorem pms_while (hp : PassesOwn (model X.prog X.w) X.A X.env X.xe) (ht : PMT g W X e mt) (hb : PMSs g W X ss b) : PMS g W X (.While e ss [] pos) (mWhile mt b) := (ps_while hp ht hb).imp fun Dn σ H ⟨μ, ρ, st, rel, p⟩ => by
  refine ⟨fun n σ H => ∃ μ ρ st, Rel g μ σ H ρ st ∧ PostS g W μ H (whileN mt b n ρ st) Dn, ?_, ?_⟩
  · unfold mWhile at p
    split at p
    · exact ⟨_, μ, ρ, st, rel, p⟩
    · exact p.elim
  · rintro n σ H ⟨μ, ρ, st, rel, p⟩
    cases n with
    | zero => exact p.elim
    | succ n =>
      unfold whileN at p
      refine tG_O (Rp := RB) rel p fun μ1 c st1 c' H1 go rel1 rv p1 => ?_
      cases (show c' = c from rv)
      cases c with
      | false => exact p1 μ1 σ H1 Go.refl rel1
      | true =>
        refine ⟨fun σ' H' => ∃ μ ρ st, Rel g μ σ' H' ρ st ∧ PostS g W μ H' (whileN mt b n ρ st) Dn, fun σ' H' z => ⟨n, Nat.lt_succ_self n, z⟩, μ1, ρ, st1, rel1, ?_⟩
        simp only [if_true] at p1
        cases e2 : b ρ st1 with
        | nx ρ2 st2 => rw [e2] at p1; exact fun μ' σ' H' go' rel' => ⟨μ', ρ2, st2, rel', PostS.base go' p1⟩
        | ct ρ2 st2 => rw [e2] at p1; exact fun μ' σ' H' go' rel' => ⟨μ', ρ2, st2, rel', PostS.base go' p1⟩
        | bk ρ2 st2 => rw [e2] at p1; exact p1
        | rt d st2 => rw [e2] at p1; exact p1
        | er x ρ2 st2 => rw [e2] at p1; exact p1
        | no => rw [e2] at p1; exact p1
end
end Pl

set_option maxHeartbeats 4000000
/-! a caught own error asked by isinstance; a call of a def that a local name holds -/
namespace Hn
open PySem PySem.Spec PyProof.Rows L2 EF
open PySem.W (Frag keepIn)
section
variable {X : Cx} {a D : Addr} {oe : Obj} {pn : List (Addr × Obj)}
end
end Hn

set_option maxHeartbeats 4000000
/-! data whose tuples are short; data beside a bag -/
namespace Hn
open PySem PySem.Spec PyProof.Rows L2 EF
open PySem.W (Frag keepIn)
mutual
/-- no tuple within has more than b items (what stands in lists is not asked) -/
def Wide (b : Nat) : PyData → Prop
  | .tuple ds => ds.length ≤ b ∧ WideL b ds
  | _ => True
def WideL (b : Nat) : List PyData → Prop
  | [] => True
  | d :: ds => Wide b d ∧ WideL b ds
end
theorem wideL_iff {b : Nat} : ∀ {ds : List PyData}, WideL b ds ↔ ∀ d ∈ ds, Wide b d
  | [] => ⟨fun _ d h => absurd h List.not_mem_nil, fun _ => trivial⟩
  | d :: ds => by
    rw [WideL, wideL_iff, List.forall_mem_cons]
mutual
theorem Wide.mono {b c : Nat} (h : b ≤ c) : ∀ {d : PyData}, Wide b d → Wide c d
  | .tuple ds, w => ⟨Nat.le_trans w.1 h, WideL.mono h w.2⟩
  | .none, _ => trivial
  | .bool _, _ => trivial
  | .int _, _ => trivial
  | .str _, _ => trivial
  | .list _, _ => trivial
  | .dict _, _ => trivial
theorem WideL.mono {b c : Nat} (h : b ≤ c) : ∀ {ds : List PyData}, WideL b ds → WideL c ds
  | [], _ => trivial
  | d :: ds, w => ⟨Wide.mono h w.1, WideL.mono h w.2⟩
end
theorem Wide.at {b : Nat} {ds : List PyData} (w : Wide b (.tuple ds)) {d : PyData} (h : d ∈ ds) : Wide b d := wideL_iff.mp w.2 d h
theorem Wide.of {b : Nat} {ds : List PyData} (h : ds.length ≤ b) (w : ∀ d ∈ ds, Wide b d) : Wide b (.tuple ds) := ⟨h, wideL_iff.mpr w⟩
theorem Rep.but {N M : Addr → Prop} {b g : Addr} {H H' : Hp} {d : PyData} {x : V} (h : Rep N H d x) (hb : BagAt H b g) (t : But b g H H') (hN : ∀ a, N a → a ≠ b ∧ a ≠ g) (hM : ∀ a, N a → M a) : Rep M H' d x :=
  h.keep (fun a kvs e => t.keep hb e fun _ z => by cases z) (fun a xs e => t.keep hb e fun _ z => by cases z) fun a xs na e => ⟨hM a na, t a _ (hN a na).1 (hN a na).2 e⟩
theorem RepL.but {N M : Addr → Prop} {b g : Addr} {H H' : Hp} {ds : List PyData} {xs : List V} (h : RepL N H ds xs) (hb : BagAt H b g) (t : But b g H H') (hN : ∀ a, N a → a ≠ b ∧ a ≠ g) (hM : ∀ a, N a → M a) : RepL M H' ds xs :=
  h.keep (fun a kvs e => t.keep hb e fun _ z => by cases z) (fun a xs e => t.keep hb e fun _ z => by cases z) fun a xs na e => ⟨hM a na, t a _ (hN a na).1 (hN a na).2 e⟩
theorem Rep.all {N M : Addr → Prop} {H : Hp} {d : PyData} {x : V} (h : Rep N H d x) (hM : ∀ a, N a → M a) : Rep M H d x := h.keep (fun _ _ e => e) (fun _ _ e => e) fun _ _ na e => ⟨hM _ na, e⟩
end Hn

set_option maxHeartbeats 4000000
/-! chains in rows of ints, and what a search has seen of them -/
namespace Hn
open PySem PySem.Spec PyProof.Rows L2 EF
open PySem.W (Frag keepIn)
/-- the row of v -/
def rowAt (rows : List (List Int)) (v : Int) : List Int := rows.getD v.toNat []
/-- a chain leads from u to v -/
inductive Reach (rows : List (List Int)) (u : Int) : Int → Prop
  | refl : Reach rows u u
  | step {v w : Int} : Reach rows u v → w ∈ rowAt rows v → Reach rows u w
/-- all entries are people -/
def InRange (rows : List (List Int)) : Prop := ∀ r ∈ rows, ∀ w ∈ r, 0 ≤ w ∧ w < (rows.length : Int)
theorem row_range {rows : List (List Int)} (h : InRange rows) {v w : Int} (hw : w ∈ rowAt rows v) : 0 ≤ w ∧ w < (rows.length : Int) := by
  unfold rowAt at hw
  rw [List.getD_eq_getElem?_getD] at hw
  cases e : rows[v.toNat]? with
  | none =>
    rw [e] at hw
    cases hw
  | some r =>
    rw [e] at hw
    exact h r (List.mem_of_getElem? e) w hw
theorem Reach.range {rows : List (List Int)} (h : InRange rows) {u v : Int} (hu : 0 ≤ u ∧ u < (rows.length : Int)) (r : Reach rows u v) : 0 ≤ v ∧ v < (rows.length : Int) := by
  cases r with
  | refl => exact hu
  | step _ hw => exact row_range h hw
/-- a lot of different ints below n is of at most n -/
theorem few_below {n : Nat} {ks : List Int} (nd : ks.Nodup) (h : ∀ k ∈ ks, 0 ≤ k ∧ k < (n : Int)) : ks.length ≤ n := by
  have h1 : (ks.map Int.toNat).Nodup := by
    refine List.pairwise_map.mpr (nd.imp_of_mem fun ha hb ne e => ne ?_)
    have := (h _ ha).1
    have := (h _ hb).1
    omega
  have h2 : (ks.map Int.toNat) ⊆ List.range n := fun x hx => by
    obtain ⟨k, hk, rfl⟩ := List.mem_map.mp hx
    have := h k hk
    exact List.mem_range.mpr (by omega)
  have h3 := List.Nodup.length_le_of_subset h1 h2
  rw [List.length_map, List.length_range] at h3
  exact h3
/-- what has been seen on the way from u -/
structure Seen (rows : List (List Int)) (u : Int) (S : Int → Bool) (c : Nat) : Prop where
  ks : ∃ ks : List Int, ks.Nodup ∧ ks.length = c ∧ ∀ k, S k = true ↔ k ∈ ks
  re : ∀ k, S k = true → Reach rows u k
  st : S u = true
theorem Seen.le {rows : List (List Int)} {u : Int} {S : Int → Bool} {c : Nat} (s : Seen rows u S c) (h : InRange rows) (hu : 0 ≤ u ∧ u < (rows.length : Int)) : c ≤ rows.length := by
  obtain ⟨ks, nd, rfl, e⟩ := s.ks
  exact few_below nd fun k hk => (s.re k ((e k).mpr hk)).range h hu
theorem Seen.one {rows : List (List Int)} {u : Int} : Seen rows u (fun j => decide (j = u)) 1 :=
  ⟨⟨[u], List.nodup_cons.mpr ⟨List.not_mem_nil, List.nodup_nil⟩, rfl, fun k => by rw [decide_eq_true_iff, List.mem_singleton]⟩, fun k h => of_decide_eq_true h ▸ .refl, decide_eq_true rfl⟩
theorem Seen.add {rows : List (List Int)} {u w : Int} {S : Int → Bool} {c : Nat} (s : Seen rows u S c) (n : S w = false) (r : Reach rows u w) : Seen rows u (fun j => S j || decide (j = w)) (c + 1) := by
  obtain ⟨ks, nd, rfl, e⟩ := s.ks
  refine ⟨⟨w :: ks, List.nodup_cons.mpr ⟨fun m => ?_, nd⟩, rfl, fun k => ?_⟩, fun k h => ?_, ?_⟩
  · rw [(e w).mpr m] at n
    cases n
  · rw [Bool.or_eq_true, decide_eq_true_iff, List.mem_cons, e k, or_comm]
  · rcases (Bool.or_eq_true _ _).mp h with h | h
    · exact s.re k h
    · rw [of_decide_eq_true h]
      exact r
  · rw [s.st, Bool.true_or]
/-- a search that has nothing ahead has seen all -/
theorem Seen.all {rows : List (List Int)} {u : Int} {S : Int → Bool} {c : Nat} (s : Seen rows u S c) (cl : ∀ k, S k = true → ∀ w ∈ rowAt rows k, S w = true) (k : Int) : S k = true ↔ Reach rows u k := by
  refine ⟨s.re k, fun r => ?_⟩
  induction r with
  | refl => exact s.st
  | step _ hw ih => exact cl _ ih _ hw
end Hn

set_option maxHeartbeats 4000000
/-! a search in layers: who is found, and by how many cards -/
namespace Hn
open PySem PySem.Spec PyProof.Rows L2 EF
open PySem.W (Frag keepIn)
/-- how far k is, by the pairs -/
def dist : List (Int × Int) → Int → Option Int
  | [], _ => none
  | p :: r, k => if p.1 = k then some p.2 else dist r k
theorem dist_mem {k : Int} : ∀ {kvs : List (Int × Int)}, k ∈ kvs.map (·.1) ↔ ∃ d, dist kvs k = some d
  | [] => ⟨fun h => absurd h List.not_mem_nil, fun ⟨d, h⟩ => by cases h⟩
  | p :: r => by
    rw [List.map_cons, List.mem_cons]
    by_cases e : p.1 = k
    · exact ⟨fun _ => ⟨p.2, if_pos e⟩, fun _ => .inl e.symm⟩
    · rw [show dist (p :: r) k = dist r k from if_neg e, ← dist_mem (kvs := r)]
      exact ⟨fun h => h.resolve_left fun z => e z.symm, .inr⟩
theorem dist_snoc {w d : Int} (k : Int) : ∀ {kvs : List (Int × Int)}, dist kvs w = none → dist (kvs ++ [(w, d)]) k = if k = w then some d else dist kvs k
  | [], _ => by
    show (if w = k then some d else none) = if k = w then some d else none
    by_cases e : w = k
    · rw [if_pos e, if_pos e.symm]
    · rw [if_neg e, if_neg fun z => e z.symm]
  | p :: r, h => by
    have hw : ¬ p.1 = w := fun z => by
      rw [show dist (p :: r) w = some p.2 from if_pos z] at h
      cases h
    have ih := dist_snoc (d := d) k (kvs := r) (by rw [show dist (p :: r) w = dist r w from if_neg hw] at h; exact h)
    show (if p.1 = k then some p.2 else dist (r ++ [(w, d)]) k) = if k = w then some d else if p.1 = k then some p.2 else dist r k
    by_cases e : p.1 = k
    · rw [if_pos e, if_pos e, if_neg fun z => hw (e.trans z)]
    · rw [if_neg e, if_neg e, ih]
/-- what is known at the head of each turn: l is the layer m -/
structure Lay (rows : List (List Int)) (u : Int) (kvs : List (Int × Int)) (l : List Int) (m : Int) : Prop where
  nd : (kvs.map (·.1)).Nodup
  re : ∀ k d, dist kvs k = some d → Reach rows u k
  st : dist kvs u = some 0
  low : ∀ k d, dist kvs k = some d → 0 ≤ d ∧ d ≤ m ∧ (k ≠ u → 0 < d ∧ ∃ j, dist kvs j = some (d - 1) ∧ k ∈ rowAt rows j)
  lay : ∀ k, k ∈ l ↔ dist kvs k = some m
  dn : ∀ k d, dist kvs k = some d → d < m → ∀ w ∈ rowAt rows k, ∃ e, dist kvs w = some e ∧ e ≤ d + 1
  m0 : 0 ≤ m
/-- within a turn: the cards that Pe tells have been followed; f is the next layer so far -/
structure Mid (rows : List (List Int)) (u : Int) (l : List Int) (m : Int) (Pe : Int → Int → Prop) (kvs : List (Int × Int)) (f : List Int) : Prop where
  nd : (kvs.map (·.1)).Nodup
  re : ∀ k d, dist kvs k = some d → Reach rows u k
  st : dist kvs u = some 0
  low : ∀ k d, dist kvs k = some d → 0 ≤ d ∧ d ≤ m + 1 ∧ (k ≠ u → 0 < d ∧ ∃ j, dist kvs j = some (d - 1) ∧ k ∈ rowAt rows j)
  lay : ∀ k, k ∈ l ↔ dist kvs k = some m
  fu : ∀ k, k ∈ f ↔ dist kvs k = some (m + 1)
  dn : ∀ k d, dist kvs k = some d → d < m → ∀ w ∈ rowAt rows k, ∃ e, dist kvs w = some e ∧ e ≤ d + 1
  cur : ∀ k w, Pe k w → ∃ e, dist kvs w = some e ∧ e ≤ m + 1
  m0 : 0 ≤ m
section
variable {rows : List (List Int)} {u : Int} {l : List Int} {m : Int} {Pe Pe' : Int → Int → Prop} {kvs : List (Int × Int)} {f : List Int}
theorem Lay.start : Lay rows u [(u, 0)] [u] 0 := by
  have e : ∀ k d, dist [(u, 0)] k = some d → k = u ∧ d = 0 := fun k d h => by
    have h' : (if u = k then some (0 : Int) else none) = some d := h
    split at h'
    · rename_i z
      exact ⟨z.symm, (Option.some.inj h').symm⟩
    · cases h'
  refine ⟨List.nodup_cons.mpr ⟨List.not_mem_nil, List.nodup_nil⟩, fun k d h => ?_, if_pos rfl, fun k d h => ?_, fun k => ?_, fun k d h lt => ?_, Int.le_refl _⟩
  · rw [(e k d h).1]
    exact .refl
  · obtain ⟨h1, h2⟩ := e k d h
    exact ⟨by omega, by omega, fun n => absurd h1 n⟩
  · rw [List.mem_singleton]
    exact ⟨fun h => h ▸ if_pos rfl, fun h => (e k 0 h).1⟩
  · have := (e k d h).2
    omega
theorem Lay.mid (s : Lay rows u kvs l m) : Mid rows u l m (fun _ _ => False) kvs [] :=
  ⟨s.nd, s.re, s.st, fun k d h => ⟨(s.low k d h).1, by have := (s.low k d h).2.1; omega, (s.low k d h).2.2⟩, s.lay,
    fun k => ⟨fun h => absurd h List.not_mem_nil, fun h => by have := (s.low k _ h).2.1; omega⟩, s.dn, fun _ _ h => h.elim, s.m0⟩
theorem Mid.skip (s : Mid rows u l m Pe kvs f) {w d : Int} (h : dist kvs w = some d) (hp : ∀ k x, Pe' k x → Pe k x ∨ x = w) : Mid rows u l m Pe' kvs f :=
  ⟨s.nd, s.re, s.st, s.low, s.lay, s.fu, s.dn, fun k x p => by
    rcases hp k x p with z | z
    · exact s.cur k x z
    · rw [z]
      exact ⟨d, h, (s.low w d h).2.1⟩, s.m0⟩
theorem Mid.add (s : Mid rows u l m Pe kvs f) {v w : Int} (hv : v ∈ l) (hw : w ∈ rowAt rows v) (n : dist kvs w = none) (hp : ∀ k x, Pe' k x → Pe k x ∨ x = w) : Mid rows u l m Pe' (kvs ++ [(w, m + 1)]) (f ++ [w]) := by
  have dv := (s.lay v).mp hv
  have ds : ∀ k, dist (kvs ++ [(w, m + 1)]) k = if k = w then some (m + 1) else dist kvs k := fun k => dist_snoc k n
  have up : ∀ {k d}, dist kvs k = some d → dist (kvs ++ [(w, m + 1)]) k = some d := fun {k d} h => by
    rw [ds, if_neg (fun z => by rw [z, n] at h; cases h)]
    exact h
  have dw : dist (kvs ++ [(w, m + 1)]) w = some (m + 1) := by rw [ds, if_pos rfl]
  have m0 := s.m0
  refine ⟨?_, fun k d h => ?_, up s.st, fun k d h => ?_, fun k => ?_, fun k => ?_, fun k d h lt x hx => ?_, fun k x p => ?_, s.m0⟩
  · rw [List.map_append]
    refine List.nodup_append.mpr ⟨s.nd, List.nodup_cons.mpr ⟨List.not_mem_nil, List.nodup_nil⟩, fun x hx y hy => ?_⟩
    rw [List.mem_singleton.mp hy]
    intro z
    obtain ⟨d, hd⟩ := dist_mem.mp hx
    rw [z, n] at hd
    cases hd
  · rw [ds] at h
    split at h
    · rename_i z
      rw [z]
      exact .step (s.re v m dv) hw
    · exact s.re k d h
  · rw [ds] at h
    split at h
    · rename_i z
      obtain rfl := Option.some.inj h
      refine ⟨by omega, Int.le_refl _, fun _ => ⟨by omega, v, ?_, z ▸ hw⟩⟩
      rw [show m + 1 - 1 = m by omega]
      exact up dv
    · obtain ⟨h1, h2, h3⟩ := s.low k d h
      refine ⟨h1, h2, fun ne => ?_⟩
      obtain ⟨h4, j, h5, h6⟩ := h3 ne
      exact ⟨h4, j, up h5, h6⟩
  · rw [s.lay k, ds]
    split
    · rename_i z
      rw [z, n]
      exact ⟨fun h => (by cases h), fun h => by have := Option.some.inj h; omega⟩
    · exact Iff.rfl
  · rw [List.mem_append, List.mem_singleton, s.fu k, ds]
    split
    · rename_i z
      exact ⟨fun _ => rfl, fun _ => .inr z⟩
    · rename_i z
      exact ⟨fun h => h.resolve_right z, .inl⟩
  · rw [ds] at h
    split at h
    · have := Option.some.inj h
      omega
    · obtain ⟨e, h1, h2⟩ := s.dn k d h lt x hx
      exact ⟨e, up h1, h2⟩
  · rcases hp k x p with z | z
    · obtain ⟨e, h1, h2⟩ := s.cur k x z
      exact ⟨e, up h1, h2⟩
    · rw [z]
      exact ⟨_, dw, Int.le_refl _⟩
theorem Mid.lay_next (s : Mid rows u l m Pe kvs f) (hp : ∀ k, k ∈ l → ∀ w ∈ rowAt rows k, Pe k w) : Lay rows u kvs f (m + 1) :=
  ⟨s.nd, s.re, s.st, s.low, s.fu, fun k d h lt w hw => by
    rcases Int.lt_or_le d m with z | z
    · exact s.dn k d h z w hw
    · obtain rfl : d = m := by omega
      exact s.cur k w (hp k ((s.lay k).mpr h) w hw), by have := s.m0; omega⟩
end
/-- the people whom u finds, and by how many cards -/
structure Dists (rows : List (List Int)) (u : Int) (kvs : List (Int × Int)) : Prop where
  nd : (kvs.map (·.1)).Nodup
  re : ∀ k, k ∈ kvs.map (·.1) ↔ Reach rows u k
  st : dist kvs u = some 0
  low : ∀ k d, dist kvs k = some d → 0 ≤ d ∧ (k ≠ u → 0 < d ∧ ∃ j, dist kvs j = some (d - 1) ∧ k ∈ rowAt rows j)
  ok : ∀ k d, dist kvs k = some d → ∀ w ∈ rowAt rows k, ∃ e, dist kvs w = some e ∧ e ≤ d + 1
theorem Lay.dists {rows : List (List Int)} {u : Int} {kvs : List (Int × Int)} {m : Int} (s : Lay rows u kvs [] m) : Dists rows u kvs := by
  have ok : ∀ k d, dist kvs k = some d → ∀ w ∈ rowAt rows k, ∃ e, dist kvs w = some e ∧ e ≤ d + 1 := fun k d h w hw => by
    refine s.dn k d h ?_ w hw
    have h1 := (s.low k d h).2.1
    rcases Int.lt_or_le d m with z | z
    · exact z
    · obtain rfl : d = m := by omega
      exact absurd ((s.lay k).mpr h) List.not_mem_nil
  refine ⟨s.nd, fun k => ?_, s.st, fun k d h => ⟨(s.low k d h).1, (s.low k d h).2.2⟩, ok⟩
  rw [dist_mem]
  refine ⟨fun ⟨d, h⟩ => s.re k d h, fun r => ?_⟩
  induction r with
  | refl => exact ⟨0, s.st⟩
  | step _ hw ih =>
    obtain ⟨d, hd⟩ := ih
    obtain ⟨e, he, _⟩ := ok _ d hd _ hw
    exact ⟨e, he⟩
theorem Lay.few {rows : List (List Int)} {u : Int} {kvs : List (Int × Int)} {l : List Int} {m : Int} (s : Lay rows u kvs l m) (h : InRange rows) (hu : 0 ≤ u ∧ u < (rows.length : Int)) : kvs.length ≤ rows.length := by
  have z := few_below s.nd fun k hk => by
    obtain ⟨d, hd⟩ := dist_mem.mp hk
    exact (s.re k d hd).range h hu
  rw [List.length_map] at z
  exact z
theorem Mid.few {rows : List (List Int)} {u : Int} {kvs : List (Int × Int)} {l f : List Int} {m : Int} {Pe : Int → Int → Prop} (s : Mid rows u l m Pe kvs f) (h : InRange rows) (hu : 0 ≤ u ∧ u < (rows.length : Int)) : kvs.length ≤ rows.length := by
  have z := few_below s.nd fun k hk => by
    obtain ⟨d, hd⟩ := dist_mem.mp hk
    exact (s.re k d hd).range h hu
  rw [List.length_map] at z
  exact z
end Hn

set_option maxHeartbeats 4000000
/-! t[::-1] of a tuple -/
namespace Hn
open PySem PySem.Spec PyProof.Rows L2 EF
open PySem.W (Frag keepIn)
section
variable {P : Program} {w : World} {A : Around} {E : Value → Shared → Prop} {z : Shared}
/-- the places of [::-1]: from the last one down -/
theorem places_back (n : Nat) : Builtin.Slice.slicePlaces ((n : Int) - 1) (-1) (-1) = n := by
  unfold Builtin.Slice.slicePlaces
  rw [if_neg (show ¬ (-1 : Int) > 0 by decide), show (- -1 : Int) = 1 by decide]
  split
  · rw [Int.ediv_one]
    omega
  · omega
theorem applied_back {sl : Addr} {a b c : Value} {n : Nat} {Q : Int × Int × Nat → Shared → Prop} (hs : z.heap.IsSliceOf sl a b c) (ha : IsPart a none) (hb : IsPart b none) (hc : IsPart c (some (-1)))
    (h : Q ((n : Int) - 1, -1, n) z) : wpAny (model P w) A (Builtin.Slice.sliceApplied (.ref sl) (pure (n : Int))) Q E z := by
  obtain ⟨_, g, _, d⟩ := hs
  rw [← places_back n] at h
  unfold Builtin.Slice.sliceApplied Builtin.Slice.sliceFields
  have tail : wpAny (model P w) A (pure ((n : Int) - 1, (-1 : Int), Builtin.Slice.slicePlaces ((n : Int) - 1) (-1) (-1))) Q E z := wpAny_pure (by
    rw [places_back n] at h ⊢
    exact h)
  refine wpAny_bind (wpAny_bind (wpAny_field g d (x := a) rfl (wpAny_bind (wpAny_field g d (x := b) rfl (wpAny_bind (wpAny_field g d (x := c) rfl (wpAny_pure (wpAny_bind (HT.slicePart_ hc ?_)))))))))
  show wpAny _ _ (if ((-1 : Int) == 0) = true then _ else _) _ _ z
  rw [if_neg (by decide)]
  exact wpAny_bind (HT.slicePart_ ha (wpAny_bind (HT.slicePart_ hb (wpAny_bind (wpAny_pure tail)))))
theorem picked_back (xs : Array Value) : ((List.range xs.size).filterMap fun (k : Nat) => xs[(((xs.size : Int) - 1) + (k : Int) * (-1)).toNat]?).toArray = xs.toList.reverse.toArray := by
  have one : ∀ k : Nat, (((xs.size : Int) - 1) + (k : Int) * (-1)).toNat = xs.size - 1 - k := fun k => by omega
  simp only [one]
  rw [← PySem.W.krv_all xs, ← List.filterMap_reverse, ← PySem.W.krv_range, List.filterMap_map]
  rfl
theorem got_back {t sl : Addr} {its : Array Value} {a b c : Value} {Q : Value → Shared → Prop} (ht : IsTup z.heap t its) (hs : z.heap.IsSliceOf sl a b c) (ha : IsPart a none) (hb : IsPart b none) (hc : IsPart c (some (-1))) (lt : its.size ≤ sizeLine)
    (h : Q (.ref z.heap.objs.size) { z with heap := z.heap.push { cls := .type "tuple", data := .seq its.toList.reverse.toArray } }) : wpAny (model P w) A (getItem (.ref t) (.ref sl)) Q E z := by
  have room : sizeOk (.seq its.toList.reverse.toArray) := (show its.toList.reverse.toArray.size ≤ sizeLine by simpa using lt)
  have isS : z.TypeIs (.ref sl) "slice" := by
    obtain ⟨o, g, k, _⟩ := hs
    exact ⟨o, g, k⟩
  have none' : ¬ ((((its.size : Int) - 1) == 0 && (-1 : Int) == 1 && its.size == its.size) = true) := by simp
  unfold getItem
  with_reducible refine wpAny_holding ?_
  first | refine wpAny_bind (wpAny_pure (wpAny_bind (wpAny_sequenceKey ht.typeIs (by decide) ?_))) | refine wpAny_bind (wpAny_sequenceKey ht.typeIs (by decide) ?_)
  refine wpAny_bind (wpAny_callSpecial?_slot (name := Str.ofString "__getitem__") ht.typeIs slot_tuple_getitem (wpAny_call_entry slot_tuple_getitem ht.typeIs entry_tuple_getitem ?_ (args_tuple_getitem _ _)))
  show wpAny _ _ (Builtin.Tuple.tupleItemsOf (.ref t) >>= _) _ _ z
  refine wpAny_bind (tupleItemsOf_ ht (wpAny_bind (wpAny_typeOf isS ?_)))
  rw [if_pos (by decide)]
  refine wpAny_bind (applied_back hs ha hb hc ?_)
  show wpAny _ _ (if (((its.size : Int) - 1) == 0 && (-1 : Int) == 1 && its.size == its.size) = true then _ else _) _ _ z
  rw [if_neg none', picked_back]
  first
    | exact wpAny_bind (m := Builtin.Tuple.tupleExact _) (wpAny_newObj_type (wpAny_pure ⟨_, rfl, wpAny_pure h⟩) room)
    | exact wpAny_bind (wpAny_bind (m := Builtin.Tuple.tupleExact _) (wpAny_newObj_type (wpAny_pure (wpAny_pure ⟨_, rfl, wpAny_pure h⟩)) room))
    | exact wpAny_bind (wpAny_bind (m := Builtin.Tuple.tupleExact _) (wpAny_newObj_type (wpAny_pure ⟨_, rfl, wpAny_pure h⟩) room))
    | exact wpAny_bind (m := Builtin.Tuple.tupleExact _) (wpAny_newObj_type (wpAny_bind (wpAny_pure (wpAny_pure ⟨_, rfl, wpAny_pure h⟩))) room)
end
def tRevT (K : PySem.W.Frag) (te : TE) : TE := fun σ H Q => te σ H fun x H1 => ∃ a xs, x = .ref a ∧ SqT K H1 a xs ∧ ∀ p, H1 p = none → Q (.ref p) (upd H1 p (.tup xs.reverse))
theorem pe_revT {X : Cx} {e : Expr} {te : TE} {k : Nat} {p1 p2 p3 pos : Pos} (he : PE X e te) : PE X (.Subscript e (.Slice none none (some (.UnaryOp .USub (.Constant (.int 1) k p1) p2)) p3) pos) (tRevT X.K te) := by
  have less : PO X (some (.UnaryOp .USub (.Constant (.int 1) k p1) p2)) (tPart (tUn (rU fun i => .int (-i)) (tC (.int 1)))) := po_some (pe_un un_neg pe_int)
  constructor
  intro pins s σ H Q I h
  refine Subscript_ (thn (he.run pins s σ H _ I h) ?_)
  rintro v s1 ⟨_, H1, I1, r1, a, xs, rfl, hx, q⟩
  cases r1
  refine wpAny_Slice (thn (po_none.run pins s1 σ H1 (fun o G => o = none ∧ G = H1) I1 ⟨rfl, rfl⟩) ?_)
  rintro va s2 ⟨_, G1, I2, pa, rfl, rfl⟩
  refine thn (po_none.run pins s2 σ _ (fun o G => o = none ∧ G = G1) I2 ⟨rfl, rfl⟩) ?_
  rintro vb s3 ⟨_, G2, I3, pb, rfl, rfl⟩
  refine thn (less.run pins s3 σ _ (fun o G => o = some (-1) ∧ G = G2) I3 ⟨1, rfl, -1, rfl, rfl, rfl⟩) ?_
  rintro vc s4 ⟨_, G3, I4, pc, rfl, rfl⟩
  have I5 : Inv X pins σ G3 { s4 with heap := s4.heap.push { cls := .type "slice", data := .fields #[va, vb, vc] } } := I4.kept (t' := s4.toks) fun _ _ g => Heap.get?_push_of_some _ g
  obtain ⟨its, r, ht, hz⟩ := I5.tuple hx
  have le : its.toArray.size ≤ sizeLine := by
    rw [List.size_toArray, ← r.length]
    exact hz
  show wpAny (model X.prog X.w) X.A (subscriptTail e (.Slice none none (some (.UnaryOp .USub (.Constant (.int 1) k p1) p2)) p3) (.ref a) (.ref s4.heap.objs.size)) (EP X pins σ Q) X.xe { s4 with heap := s4.heap.push { cls := .type "slice", data := .fields #[va, vb, vc] } }
  refine tail_any (ops := [.ref a, .ref s4.heap.objs.size]) ht.typeIs slot_tuple_getitem.lookup (got_back ht (Heap.IsSliceOf.new _ va vb vc) pa pb pc le ?_) (by with_unfolding_all rfl)
  have fit : xs.reverse.length ≤ sizeLine := by
    rw [List.length_reverse]
    exact hz
  exact ⟨.ref _, _, I5.laid (t' := s4.toks) (o := .tup xs.reverse) (fun _ _ g => Heap.get?_push_of_some _ g) (Nat.le_refl _) ⟨fit, _, r.reverse, IsTup.new _ _⟩, rfl, q _ (I5.hok.fresh (Nat.le_refl _))⟩
end Hn

set_option maxHeartbeats 4000000
/-! cutting a block behind a statement; enumerate(list) in a comprehension; a list of own lists beside a bag -/
namespace Hn
open PySem PySem.Spec PyProof.Rows L2 EF
open PySem.W (Frag keepIn)
theorem But.new {b g p : Addr} {H : Hp} {o : HO} (n : H p = none) : But b g H (upd H p o) := .of (same_new n)
theorem But.mut {b g p : Addr} {H H' : Hp} {o : HO} (t : But b g H H') (n : H p = none) : But b g H (upd H' p o) := fun a x h1 h2 e => by
  rw [upd_ne (ne_of_none e n)]
  exact t a x h1 h2 e
theorem But.none {b g a : Addr} {H H' : Hp} (t : But b g H H') (h : BagAt H' b g) (n : H' a = none) : H a = none := by
  obtain ⟨n1, n2⟩ := h.ne n
  cases z : H a with
  | none => rfl
  | some o =>
    rw [t a o n1 n2 z] at n
    cases n
theorem BagAt.mut {b g p : Addr} {H : Hp} {o : HO} (h : BagAt H b g) (n1 : p ≠ b) (n2 : p ≠ g) : BagAt (upd H p o) b g := by
  obtain ⟨n, s, c, gs, al, h1, h2, r⟩ := h
  exact ⟨n, s, c, gs, al, by rw [upd_ne (Ne.symm n1)]; exact h1, by rw [upd_ne (Ne.symm n2)]; exact h2, r⟩
theorem lst_ne {H : Hp} {a p : Addr} {o : HO} (h : H a = some o) (n : H p = Option.none) : a ≠ p := fun z => by
  rw [z, n] at h
  cases h
/-- c is a new list of new lists of ints, beside the bag -/
structure Cards (H0 H : Hp) (b g c : Addr) (rows : List (List Int)) : Prop where
  bt : But b g H0 H
  bag : BagAt H b g
  nc : H0 c = none
  cb : c ≠ b
  cg : c ≠ g
  qs : ∃ qs : List Addr, H c = some (.lst (qs.map V.ref)) ∧ qs.length = rows.length ∧ (∀ q ∈ qs, H0 q = none ∧ q ≠ c ∧ q ≠ b ∧ q ≠ g) ∧
    ∀ (i : Nat) (q : Addr) (r : List Int), qs[i]? = some q → rows[i]? = some r → H q = some (.lst (r.map V.int))
section
variable {H0 H H' : Hp} {b g c p : Addr} {rows : List (List Int)}
theorem Cards.nil (bt : But b g H0 H) (h : BagAt H b g) (n : H c = none) : Cards H0 (upd H c (.lst [])) b g c [] :=
  ⟨bt.trans (.new n), h.same (same_new n), bt.none h n, (h.ne n).1, (h.ne n).2, [], upd_same, rfl, fun q h => absurd h List.not_mem_nil, fun i q r e => by simp at e⟩
theorem Cards.but (k : Cards H0 H b g c rows) (t : But b g H H') (h : BagAt H' b g) : Cards H0 H' b g c rows := by
  obtain ⟨bt, bag, nc, cb, cg, qs, h1, h2, h3, h4⟩ := k
  refine ⟨bt.trans t, h, nc, cb, cg, qs, t _ _ cb cg h1, h2, h3, fun i q r e1 e2 => ?_⟩
  obtain ⟨_, _, n1, n2⟩ := h3 q (List.mem_of_getElem? e1)
  exact t _ _ n1 n2 (h4 i q r e1 e2)
theorem Cards.same (k : Cards H0 H b g c rows) (t : Same H H') : Cards H0 H' b g c rows := k.but (.of t) (k.bag.same t)
/-- what is not within may be changed -/
theorem Cards.mut (k : Cards H0 H b g c rows) {o : HO} (hp : H0 p = none) (n1 : p ≠ b) (n2 : p ≠ g) (n3 : p ≠ c) (n4 : ∀ qs : List Addr, H c = some (.lst (qs.map V.ref)) → p ∉ qs) : Cards H0 (upd H p o) b g c rows := by
  obtain ⟨bt, bag, nc, cb, cg, qs, h1, h2, h3, h4⟩ := k
  refine ⟨bt.mut hp, bag.mut n1 n2, nc, cb, cg, qs, by rw [upd_ne (Ne.symm n3)]; exact h1, h2, h3, fun i q r e1 e2 => ?_⟩
  have nq : q ≠ p := fun z => n4 qs h1 (by rw [← z]; exact List.mem_of_getElem? e1)
  rw [upd_ne nq]
  exact h4 i q r e1 e2
/-- one more row, a list at p -/
theorem Cards.push (k : Cards H0 H b g c rows) {r : List Int} (hp : H p = some (.lst (r.map V.int))) (n0 : H0 p = none) (n1 : p ≠ b) (n2 : p ≠ g) (n3 : p ≠ c) : ∃ acc, H c = some (.lst acc) ∧ acc.length = rows.length ∧ Cards H0 (upd H c (.lst (acc ++ [.ref p]))) b g c (rows ++ [r]) := by
  obtain ⟨bt, bag, nc, cb, cg, qs, h1, h2, h3, h4⟩ := k
  refine ⟨_, h1, by rw [List.length_map]; exact h2, bt.mut nc, bag.mut cb cg, nc, cb, cg, qs ++ [p], by rw [upd_same, List.map_append]; rfl, by rw [List.length_append, List.length_append, h2]; rfl, fun q hq => ?_, fun i q r' e1 e2 => ?_⟩
  · rcases List.mem_append.mp hq with z | z
    · exact h3 q z
    · rw [List.mem_singleton.mp z]
      exact ⟨n0, n3, n1, n2⟩
  · rw [List.getElem?_append] at e1 e2
    rw [h2] at e1
    split at e1
    · rename_i hi
      rw [if_pos hi] at e2
      have := (h3 q (List.mem_of_getElem? e1)).2.1
      rw [upd_ne this]
      exact h4 i q r' e1 e2
    · rename_i hi
      rw [if_neg hi] at e2
      have e3 := List.mem_singleton.mp (List.mem_of_getElem? e1)
      have e4 := List.mem_singleton.mp (List.mem_of_getElem? e2)
      rw [e3, e4, upd_ne n3]
      exact hp
theorem Cards.row (k : Cards H0 H b g c rows) {i : Nat} {r : List Int} (e : rows[i]? = some r) : ∃ xs q, H c = some (.lst xs) ∧ xs.length = rows.length ∧ xs[i]? = some (.ref q) ∧ H q = some (.lst (r.map V.int)) ∧ H0 q = none ∧ q ≠ c ∧ q ≠ b ∧ q ≠ g := by
  obtain ⟨bt, bag, nc, cb, cg, qs, h1, h2, h3, h4⟩ := k
  have hi : i < rows.length := (List.getElem?_eq_some_iff.mp e).1
  have e1 : qs[i]? = some (qs[i]'(by omega)) := List.getElem?_eq_getElem (by omega)
  have z := h3 _ (List.mem_of_getElem? e1)
  exact ⟨_, _, h1, by rw [List.length_map]; exact h2, by rw [List.getElem?_map, e1]; rfl, h4 i _ r e1 e, z.1, z.2.1, z.2.2.1, z.2.2.2⟩
theorem Cards.list (k : Cards H0 H b g c rows) : ∃ qs : List Addr, H c = some (.lst (qs.map V.ref)) ∧ qs.length = rows.length := by
  obtain ⟨bt, bag, nc, cb, cg, qs, h1, h2, h3, h4⟩ := k
  exact ⟨qs, h1, h2⟩
end
/-- beside the cards stands something at p -/
structure Side (H0 H : Hp) (b g c : Addr) (rows : List (List Int)) (p : Addr) : Prop where
  k : Cards H0 H b g c rows
  n0 : H0 p = none
  pb : p ≠ b
  pg : p ≠ g
  pc : p ≠ c
  off : ∀ qs : List Addr, H c = some (.lst (qs.map V.ref)) → p ∉ qs
section
variable {H0 H H' : Hp} {b g c p : Addr} {rows : List (List Int)}
theorem Cards.off (k : Cards H0 H b g c rows) (n : H p = none) : p ≠ b ∧ p ≠ g ∧ p ≠ c ∧ ∀ qs : List Addr, H c = some (.lst (qs.map V.ref)) → p ∉ qs := by
  obtain ⟨bt, bag, nc, cb, cg, qs, h1, h2, h3, h4⟩ := k
  refine ⟨(bag.ne n).1, (bag.ne n).2, Ne.symm (lst_ne h1 n), fun qs' e hp => ?_⟩
  have e2 := HO.lst.inj (Option.some.inj (e.symm.trans h1))
  have e3 : qs' = qs := (List.map_inj_right (fun _ _ z => V.ref.inj z)).mp e2
  rw [e3] at hp
  obtain ⟨j, hj, e4⟩ := List.getElem_of_mem hp
  have e5 := h4 j p (rows[j]'(by omega)) (by rw [← e4]; exact List.getElem?_eq_getElem hj) (List.getElem?_eq_getElem (by omega))
  rw [n] at e5
  cases e5
theorem Side.new {o : HO} (k : Cards H0 H b g c rows) (n : H p = none) : Side H0 (upd H p o) b g c rows p := by
  obtain ⟨h1, h2, h3, h4⟩ := k.off n
  exact ⟨k.same (same_new n), k.bt.none k.bag n, h1, h2, h3, fun qs e => h4 qs (by rw [upd_ne (Ne.symm h3)] at e; exact e)⟩
theorem Side.but (s : Side H0 H b g c rows p) (t : But b g H H') (h : BagAt H' b g) : Side H0 H' b g c rows p := by
  refine ⟨s.k.but t h, s.n0, s.pb, s.pg, s.pc, fun qs e => ?_⟩
  obtain ⟨qs', h1, _⟩ := s.k.list
  have e2 := HO.lst.inj (Option.some.inj (e.symm.trans (t _ _ s.k.cb s.k.cg h1)))
  have e3 : qs = qs' := (List.map_inj_right (fun _ _ z => V.ref.inj z)).mp e2
  rw [e3]
  exact s.off qs' h1
theorem Side.same (s : Side H0 H b g c rows p) (t : Same H H') : Side H0 H' b g c rows p := s.but (.of t) (s.k.bag.same t)
theorem Side.set {o : HO} (s : Side H0 H b g c rows p) : Side H0 (upd H p o) b g c rows p :=
  ⟨s.k.mut s.n0 s.pb s.pg s.pc s.off, s.n0, s.pb, s.pg, s.pc, fun qs e => s.off qs (by rw [upd_ne (Ne.symm s.pc)] at e; exact e)⟩
theorem Side.push (s : Side H0 H b g c rows p) {r : List Int} (hp : H p = some (.lst (r.map V.int))) : ∃ acc, H c = some (.lst acc) ∧ acc.length = rows.length ∧ Cards H0 (upd H c (.lst (acc ++ [.ref p]))) b g c (rows ++ [r]) := s.k.push hp s.n0 s.pb s.pg s.pc
end
/-- a row of a web's: of person i of n -/
def GoodRow (n i : Nat) (r : List Int) : Prop := r.Pairwise (· < ·) ∧ (∀ w ∈ r, 0 ≤ w ∧ w < (n : Int)) ∧ (i : Int) ∉ r
theorem GoodRow.nil {n i : Nat} : GoodRow n i [] := ⟨.nil, fun _ h => absurd h List.not_mem_nil, List.not_mem_nil⟩
theorem GoodRow.few {n i : Nat} {r : List Int} (h : GoodRow n i r) : r.length ≤ n := few_below (h.1.imp fun z => Int.ne_of_lt z) h.2.1
end Hn

set_option maxHeartbeats 4000000
/-! comprehensions with two fors: a walk with any body -/
namespace Hn
open PySem PySem.Spec PyProof.Rows L2 EF
open PySem.W (Frag keepIn)
section
variable {K : Frag} {a : Addr} {xs : List V} {body : (Hp → Prop) → V → Hp → Prop} {Qd : Hp → Prop} {H1 : Hp}
end
end Hn

set_option maxHeartbeats 4000000
/-! what a loop or a comprehension walks; loops; list comprehensions -/
namespace Pl
open PySem PySem.Spec PyProof.Rows L2 Hn
open PySem.W (Frag keepIn)
/-- what is walked: the items; if it is a list of the store, that one with what it holds -/
structure Wk where
  items : List D
  src : Option (Nat × List D)
def Wk.stay (it : Wk) (st : Sto) : Prop := match it.src with
  | none => True
  | some (n, xs) => st[n]? = some (.lst xs)
@[simp] theorem stay_none {xs : List D} {st : Sto} : Wk.stay ⟨xs, none⟩ st = True := rfl
structure Tr (g : G) (μ : Mu) (H : Hp) (μ' : Mu) (H' : Hp) : Prop where
  rv : ∀ ds vs, RVs g μ H ds vs → RVs g μ' H' ds vs
  at_ : ∀ (n : Nat) (a : Addr), μ.ls[n]? = some a → μ'.ls[n]? = some a
  fx : ∀ (a : Addr) (o : HO), μ.off a → H a = some o → μ'.off a ∧ H' a = some o
def RIt (g : G) (μ1 : Mu) (H1 : Hp) (it : Wk) (J : It) : Prop := ∀ (i : Nat) (μ : Mu) (H : Hp) (st : Sto), Tr g μ1 H1 μ H → RS g μ H st → it.stay st → (it.items.length ≤ i → J.stop i H) ∧
  ∀ d, it.items[i]? = some d → J.go i H ∧ ∀ x H', J.yld i H x H' → Go μ H μ H' ∧ RS g μ H' st ∧ RV g μ H' d x
theorem Tr.refl {g : G} {μ : Mu} {H : Hp} : Tr g μ H μ H := ⟨fun _ _ h => h, fun _ _ h => h, fun _ _ h k => ⟨h, k⟩⟩
section
variable {g : G} {W : WX} {X : Cx} {μ μ1 μ2 : Mu} {H H1 H2 : Hp} {st st1 : Sto} {σ : L2.St} {ρ : Env}
theorem Tr.go (t : Tr g μ H μ1 H1) (x : Go μ1 H1 μ2 H2) : Tr g μ H μ2 H2 := ⟨fun ds vs h => (t.rv ds vs h).go x, fun n a h => x.at (t.at_ n a h), fun a o h k => by
  obtain ⟨h1, k1⟩ := t.fx a o h k
  exact ⟨x.out h1 k1, x.keep a o h1.1 k1⟩⟩
theorem Tr.hide (t : Tr g μ H μ1 H1) {p : Addr} {o : HO} (h : H1 p = none) : Tr g μ H (μ1.hide p) (upd H1 p o) := ⟨fun ds vs k => RVs.hid List.mem_cons_self (RVs.hide h (t.rv ds vs k)), t.at_, fun a u k e => by
  obtain ⟨k1, e1⟩ := t.fx a u k e
  exact ⟨off_hide h k1 e1, by rw [upd_ne (ne_of_none e1 h)]; exact e1⟩⟩
theorem Tr.hid (t : Tr g μ H μ1 H1) {p : Addr} {o : HO} (h : p ∈ μ1.pv) : Tr g μ H μ1 (upd H1 p o) := ⟨fun ds vs k => RVs.hid h (t.rv ds vs k), t.at_, fun a u k e => by
  obtain ⟨k1, e1⟩ := t.fx a u k e
  exact ⟨k1, at_hid h k1 e1⟩⟩
/-- a frozen thing stays through -/
theorem Tr.one (t : Tr g μ H μ1 H1) {d : D} {v : V} (h : RV g μ H d v) : RV g μ1 H1 d v := by
  obtain ⟨w, r, e, h1, _⟩ := t.rv [d] [v] (.one h)
  cases e
  exact h1
def itrOf (st : Sto) : D → Option Wk
  | .tup xs => some ⟨xs, none⟩
  | .lst xs => some ⟨xs, none⟩
  | .rol xs => some ⟨xs, none⟩
  | .loc n => match st[n]? with
    | some (.lst xs) => some ⟨xs, some (n, xs)⟩
    | _ => none
  | _ => none
@[simp] theorem itrOf_tup {xs : List D} {st : Sto} : itrOf st (.tup xs) = some ⟨xs, none⟩ := rfl
@[simp] theorem itrOf_lst {xs : List D} {st : Sto} : itrOf st (.lst xs) = some ⟨xs, none⟩ := rfl
@[simp] theorem itrOf_rol {xs : List D} {st : Sto} : itrOf st (.rol xs) = some ⟨xs, none⟩ := rfl
theorem itrOf_loc {n : Nat} {xs : List D} {st : Sto} (h : st[n]? = some (.lst xs)) : itrOf st (.loc n) = some ⟨xs, some (n, xs)⟩ := by simp only [itrOf, h]
@[simp] def mIt (m : Env → Sto → R D) (ρ : Env) (st : Sto) : R Wk := (m ρ st).bind fun d st1 => ofOpt (itrOf st1 d) fun it => .ok it st1
abbrev tI (g : G) (W : WX) (mi : Env → Sto → R Wk) : TI := tG g W (RIt g) mi
abbrev PMI (g : G) (W : WX) (X : Cx) (tg iter : Expr) (mi : Env → Sto → R Wk) : Prop := PI X tg iter (tI g W mi)
theorem _root_.L2.PI.imp {X : Cx} {tg e : Expr} {t t' : TI} (h : PI X tg e t) (k : ∀ σ H R, t' σ H R → t σ H R) : PI X tg e t' := ⟨fun pins s σ H Q I q => h.run pins s σ H Q I (k _ _ _ q)⟩
theorem _root_.L2.PI.or {X : Cx} {tg e : Expr} {t t' : TI} (h : PI X tg e t) (h' : PI X tg e t') : PI X tg e (fun σ H R => t σ H R ∨ t' σ H R) := ⟨fun pins s σ H Q I q => q.elim (h.run pins s σ H Q I) (h'.run pins s σ H Q I)⟩
theorem len_of {ds : List D} {vs : List V} (r : RVs g μ H ds vs) {i : Nat} (h : ds.length ≤ i) : vs.length ≤ i := by rw [r.length]; exact h
theorem it_tup {xs : List D} {a : Addr} (h : RV g μ H (.tup xs) (.ref a)) (t : Tr g μ H μ1 H1) : ∃ vs, H1 a = some (.tup vs) ∧ RVs g μ1 H1 xs vs := by
  obtain ⟨b, vs, e, q, r⟩ := t.one h
  cases e
  exact ⟨vs, q.2, r⟩
theorem it_lst {d : D} {it : Wk} {a : Addr} (nt : ∀ ys, d ≠ .tup ys) (h : RV g μ H d (.ref a)) (e : itrOf st d = some it) (t : Tr g μ H μ1 H1) (S : RS g μ1 H1 st1) (y : it.stay st1) : ∃ vs, SqL g.K H1 a vs ∧ RVs g μ1 H1 it.items vs := by
  cases d with
  | tup ys => exact absurd rfl (nt ys)
  | lst ys =>
    cases e
    obtain ⟨b, vs, e, q, r⟩ := t.one h
    cases e
    exact ⟨vs, SqL.of q.2, r⟩
  | rol ys =>
    cases e
    obtain ⟨b, vs, e, q, r⟩ := t.one h
    cases e
    exact ⟨vs, sqL_of q, r⟩
  | loc n =>
    obtain ⟨b, e1, q⟩ := h
    cases e1
    unfold itrOf at e
    simp only at e
    split at e
    · rename_i xs e2
      cases e
      obtain ⟨vs, e4, r⟩ := S.at_ n _ a y (t.at_ n a q)
      exact ⟨vs, SqL.of e4, r⟩
    · cases e
  | _ => cases e
variable {tg e : Expr} {m : Env → Sto → R D} {p pos tpos : Pos} {elts : List Expr} {kk : Nat}
theorem itr_ref {d : D} {it : Wk} {x : V} (h : RV g μ H d x) (e : itrOf st d = some it) : ∃ a, x = .ref a := by
  cases d with
  | tup ys => obtain ⟨a, _, h, _⟩ := h; exact ⟨a, h⟩
  | lst ys => obtain ⟨a, _, h, _⟩ := h; exact ⟨a, h⟩
  | rol ys => obtain ⟨a, _, h, _⟩ := h; exact ⟨a, h⟩
  | loc n => obtain ⟨a, h, _⟩ := h; exact ⟨a, h⟩
  | _ => cases e
theorem stay_now {d : D} {it : Wk} (e : itrOf st d = some it) : it.stay st := by
  cases d with
  | tup ys => cases e; exact True.intro
  | lst ys => cases e; exact True.intro
  | rol ys => cases e; exact True.intro
  | loc n =>
    unfold itrOf at e
    simp only at e
    split at e
    · rename_i xs e2
      cases e
      exact e2
    · cases e
  | _ => cases e
/-- for x in a list, a tuple -/
theorem pmi_seq (hK : X.K = g.K) (h : PM g W X e m) : PMI g W X tg e (mIt m) := ((pi_listK (K := g.K) hK h).or (pi_tupK (K := g.K) hK h)).imp fun σ H Q ⟨μ, ρ, st, rel, p⟩ => by
  by_cases hd : ∃ ys st1, m ρ st = .ok (.tup ys) st1
  · obtain ⟨ys, st1, e1⟩ := hd
    refine .inr (tG_bindE rel p fun μ1 d st1' x H1 e1' go1 rel1 rv1 p1 => ?_)
    rw [e1] at e1'
    cases e1'
    obtain ⟨a, vs, rfl, q, r⟩ := id rv1
    refine ⟨a, rfl, ⟨vs, SqT.of q.2⟩, PostG.now (show PostG g W σ μ1 H1 (RIt g) (.ok ⟨ys, none⟩ st1) Q from p1) rel1.sto fun i μ2 H2 st2 t S y => ?_⟩
    obtain ⟨ws, k, rw'⟩ := it_tup rv1 t
    refine ⟨fun hl => ⟨ws, SqT.of k, len_of rw' hl⟩, fun d hd => ?_⟩
    obtain ⟨v, h1, h2⟩ := rw'.at hd
    refine ⟨⟨ws, v, SqT.of k, h1⟩, fun x H' hy => ?_⟩
    obtain ⟨rfl, hx⟩ := hy
    have := hx ws (SqT.of k)
    rw [h1] at this
    cases this
    exact ⟨Go.refl, S, h2⟩
  · refine .inl (tG_bindE rel p fun μ1 d st1 x H1 e1 go1 rel1 rv1 p1 => ?_)
    obtain ⟨it, e2, p1⟩ := post_opt p1
    obtain ⟨a, rfl⟩ := itr_ref rv1 e2
    have nt : ∀ ys, d ≠ .tup ys := fun ys z => hd ⟨ys, st1, by rw [e1, z]⟩
    obtain ⟨vs, q, r⟩ := it_lst nt rv1 e2 Tr.refl rel1.sto (stay_now e2)
    refine ⟨a, rfl, ⟨vs, q⟩, PostG.now p1 rel1.sto fun i μ2 H2 st2 t S y => ?_⟩
    obtain ⟨ws, k, rw'⟩ := it_lst nt rv1 e2 t S y
    refine ⟨fun hl => ⟨ws, k, len_of rw' hl⟩, fun d hd => ?_⟩
    obtain ⟨v, h1, h2⟩ := rw'.at hd
    refine ⟨⟨ws, v, k, h1⟩, fun x H' hy => ?_⟩
    obtain ⟨rfl, hx⟩ := hy
    have := hx ws k
    rw [h1] at this
    cases this
    exact ⟨Go.refl, S, h2⟩
def rngD (lo : Int) (n : Nat) : List D := (List.range n).map fun (k : Nat) => D.int (lo + (k : Int))
theorem rngD_len {lo : Int} {n : Nat} : (rngD lo n).length = n := by unfold rngD; rw [List.length_map, List.length_range]
theorem rngD_at {lo : Int} {n i : Nat} {d : D} (h : (rngD lo n)[i]? = some d) : i < n ∧ d = .int (lo + (i : Int)) := by
  unfold rngD at h
  rw [List.getElem?_map] at h
  obtain ⟨k, e1, e2⟩ := Option.map_eq_some_iff.mp h
  obtain ⟨h1, e3⟩ := List.getElem?_eq_some_iff.mp e1
  rw [List.getElem_range] at e3
  subst e3
  rw [List.length_range] at h1
  exact ⟨h1, e2.symm⟩
abbrev b62 : Int := 4611686018427387904
def rng1R (ds : List D) (st : Sto) : R Wk := match ds with
  | [.int j] => guardR (-b62 ≤ j ∧ j < b62) (.ok ⟨rngD 0 j.toNat, none⟩ st)
  | _ => .no
def rng2R (ds : List D) (st : Sto) : R Wk := match ds with
  | [.int i, .int j] => guardR ((-b62 ≤ i ∧ i < b62) ∧ (-b62 ≤ j ∧ j < b62)) (.ok ⟨rngD i (j - i).toNat, none⟩ st)
  | _ => .no
@[simp] theorem rngR_one {j : Int} {st : Sto} : rng1R [.int j] st = guardR (-b62 ≤ j ∧ j < b62) (.ok ⟨rngD 0 j.toNat, none⟩ st) := rfl
@[simp] theorem rngR_two {i j : Int} {st : Sto} : rng2R [.int i, .int j] st = guardR ((-b62 ≤ i ∧ i < b62) ∧ (-b62 ≤ j ∧ j < b62)) (.ok ⟨rngD i (j - i).toNat, none⟩ st) := rfl
@[simp] def mItA (f : List D → Sto → R Wk) (ms : Env → Sto → R (List D)) (ρ : Env) (st : Sto) : R Wk := (ms ρ st).bind f
theorem rng_it {lo : Int} {n : Nat} : RIt g μ H ⟨rngD lo n, none⟩ (L2.Itr lo n) := fun i μ2 H2 st2 t S y => ⟨fun hl => by rw [show (Wk.items ⟨rngD lo n, none⟩) = rngD lo n from rfl, rngD_len] at hl; exact hl, fun d hd => by
  obtain ⟨h1, rfl⟩ := rngD_at hd
  refine ⟨h1, fun x H' hy => ?_⟩
  obtain ⟨rfl, rfl⟩ := hy
  exact ⟨Go.refl, S, rfl⟩⟩
variable {ms : Env → Sto → R (List D)} {a b : Expr}
theorem pmi_range1 (hg : Gl X "range") (hm : X.mg "range" = none) (ha : PMA g W X [a] ms) (hs : starEach [a] X.env = [(false, eval a X.env)] := by rfl) : PMI g W X tg (.Call (.Name "range" p) [a] [] pos) (mItA rng1R ms) := (pi_range1 hg hm ha hs).imp fun σ H Q ⟨μ, ρ, st, rel, p⟩ => tG_bind rel p fun μ1 ds st1 vs H1 go1 rel1 rv1 p1 => by
  unfold rng1R at p1
  split at p1
  · obtain ⟨v, rfl, h⟩ := one_at rv1
    obtain ⟨hl, p2⟩ := post_guard p1
    exact ⟨_, by rw [show v = _ from h], hl.1, hl.2, PostG.now p2 rel1.sto rng_it⟩
  · exact p1.elim
/-! enumerate, zip -/
def enumD : Nat → List D → List D
  | _, [] => []
  | i, d :: ds => .tup [.int (i : Int), d] :: enumD (i + 1) ds
theorem enumD_at : ∀ {ds : List D} {k i : Nat} {d : D}, (enumD k ds)[i]? = some d → ∃ x, ds[i]? = some x ∧ d = .tup [.int ((k + i : Nat) : Int), x]
  | [], k, i, d, h => by cases h
  | x :: ds, k, 0, d, h => by cases h; exact ⟨x, rfl, rfl⟩
  | x :: ds, k, i + 1, d, h => by
    obtain ⟨y, e1, e2⟩ := enumD_at (ds := ds) (k := k + 1) (i := i) h
    refine ⟨y, e1, ?_⟩
    rw [e2]
    congr 4
    omega
theorem enumD_len : ∀ {ds : List D} {k : Nat}, (enumD k ds).length = ds.length
  | [], _ => rfl
  | x :: ds, k => by unfold enumD; rw [List.length_cons, List.length_cons, enumD_len]
def enumR (ds : List D) (st : Sto) : R Wk := match ds with
  | [d] => ofOpt (itrOf st d) fun it => .ok ⟨enumD 0 it.items, it.src⟩ st
  | _ => .no
@[simp] theorem enumR_tup {xs : List D} {st : Sto} : enumR [.tup xs] st = .ok ⟨enumD 0 xs, none⟩ st := rfl
@[simp] theorem enumR_lst {xs : List D} {st : Sto} : enumR [.lst xs] st = .ok ⟨enumD 0 xs, none⟩ st := rfl
theorem pair_new {d : D} {v : V} {i : Nat} {T : Addr} (S : RS g μ H st) (h : RV g μ H d v) (nT : H T = none) : Go μ H μ (upd H T (.tup [.int (i : Int), v])) ∧ RS g μ (upd H T (.tup [.int (i : Int), v])) st ∧ RV g μ (upd H T (.tup [.int (i : Int), v])) (.tup [.int (i : Int), d]) (.ref T) :=
  ⟨Go.side S nT, S.side nT, T, _, rfl, ⟨S.off nT, upd_same⟩, .cons rfl (.one (h.go (Go.side S nT)))⟩
theorem pmi_enum (hK : X.K = g.K) (hg : Gl X "enumerate") (hm : X.mg "enumerate" = none) (ha : PMA g W X [e] ms) (hs : starEach [e] X.env = [(false, eval e X.env)] := by rfl) : PMI g W X (.Tuple elts kk tpos) (.Call (.Name "enumerate" p) [e] [] pos) (mItA enumR ms) :=
  ((pi_enumK (K := g.K) hK hg hm ha hs).or (pi_enumT (K := g.K) hK hg hm ha hs)).imp fun σ H Q ⟨μ, ρ, st, rel, p⟩ => by
    by_cases hd : ∃ ys st1, ms ρ st = .ok [.tup ys] st1
    · obtain ⟨ys, st1, e1⟩ := hd
      refine .inr (tG_bindE rel p fun μ1 d st1' x H1 e1' go1 rel1 rv1 p1 => ?_)
      rw [e1] at e1'
      cases e1'
      obtain ⟨v, rfl, h⟩ := one_at rv1
      obtain ⟨a, vs, rfl, q, r⟩ := id h
      refine ⟨a, vs, rfl, SqT.of q.2, PostG.now (show PostG g W σ μ1 H1 (RIt g) (.ok ⟨enumD 0 ys, none⟩ st1) Q from p1) rel1.sto fun i μ2 H2 st2 t S y => ?_⟩
      have k := t.fx a _ q.1 q.2
      have rw' := t.rv _ _ r
      refine ⟨fun hl => ⟨SqT.of k.2, len_of rw' (by rw [show Wk.items ⟨enumD 0 ys, none⟩ = enumD 0 ys from rfl, enumD_len] at hl; exact hl)⟩, fun d hd => ?_⟩
      obtain ⟨x, e5, rfl⟩ := enumD_at hd
      obtain ⟨v, h1, h2⟩ := rw'.at e5
      refine ⟨⟨SqT.of k.2, (List.getElem?_eq_some_iff.mp h1).1⟩, fun z H' hy => ?_⟩
      obtain ⟨T, x', rfl, nT, rfl, hx⟩ := hy
      rw [h1] at hx
      cases hx
      rw [Nat.zero_add]
      exact pair_new S h2 nT
    · refine .inl (tG_bindE rel p fun μ1 ds st1 x H1 e1 go1 rel1 rv1 p1 => ?_)
      unfold enumR at p1
      split at p1
      · rename_i d
        obtain ⟨v, rfl, h⟩ := one_at rv1
        obtain ⟨it, e2, p1⟩ := post_opt p1
        obtain ⟨a, rfl⟩ := itr_ref h e2
        have nt : ∀ ys, d ≠ .tup ys := fun ys z => hd ⟨ys, st1, by rw [e1, z]⟩
        obtain ⟨vs, q, r⟩ := it_lst nt h e2 Tr.refl rel1.sto (stay_now e2)
        refine ⟨a, vs, rfl, q, PostG.now p1 rel1.sto fun i μ2 H2 st2 t S y => ?_⟩
        obtain ⟨ws, k, rw'⟩ := it_lst nt h e2 t S y
        refine ⟨fun hl => ⟨ws, k, len_of rw' (by rw [show Wk.items ⟨enumD 0 it.items, it.src⟩ = enumD 0 it.items from rfl, enumD_len] at hl; exact hl)⟩, fun d' hd' => ?_⟩
        obtain ⟨x, e5, rfl⟩ := enumD_at hd'
        obtain ⟨v, h1, h2⟩ := rw'.at e5
        refine ⟨⟨ws, v, k, h1⟩, fun z H' hy => ?_⟩
        obtain ⟨T, x', rfl, nT, rfl, hx⟩ := hy
        have hx2 := hx ws k
        rw [h1] at hx2
        cases hx2
        rw [Nat.zero_add]
        exact pair_new S h2 nT
      · exact p1.elim
/-! ### for -/
open Classical in
noncomputable def forGo (it : Wk) (p : Pat) (b : Env → Sto → O) : List D → Env → Sto → O
  | [], ρ, st => if it.stay st then .nx ρ st else .no
  | d :: ds, ρ, st => if it.stay st then ofOptO (p.set d ρ) fun ρ' => match b ρ' st with
    | .nx ρ2 st2 => forGo it p b ds ρ2 st2
    | .ct ρ2 st2 => forGo it p b ds ρ2 st2
    | .bk ρ2 st2 => .nx ρ2 st2
    | o => o else .no
noncomputable def mFor (mi : Env → Sto → R Wk) (p : Pat) (b : Env → Sto → O) (ρ : Env) (st : Sto) : O := O.of (mi ρ st) ρ fun it st1 => forGo it p b it.items ρ st1
variable {mi : Env → Sto → R Wk} {pt : Pat} {bd : Env → Sto → O} {ss : List Stmt} {iter : Expr}
theorem pms_for (hp : PassesOwn (model X.prog X.w) X.A X.env X.xe) (hc : X.calm = true) (hi : PMI g W X tg iter mi) (hg : PG X tg (gP g pt)) (hb : PMSs g W X ss bd) (hs : ∀ x, foldedSetIterable iter X.env x = pure x := by intro _; rfl) :
    PMS g W X (.For tg iter ss [] pos) (mFor mi pt bd) := (ps_for hp hc hi hg hb hs).imp fun Dn σ H ⟨μ, ρ, st, rel, p⟩ => tG_O rel p fun μ1 it st1 J H1 go rel1 ri p1 => by
  refine ⟨fun i m σ H => ∃ μ ρ st, Rel g μ σ H ρ st ∧ Tr g μ1 H1 μ H ∧ m = it.items.length - i ∧ PostS g W μ H (forGo it pt bd (it.items.drop i) ρ st) Dn, ⟨it.items.length - 0, μ1, ρ, st1, rel1, Tr.refl, rfl, p1⟩, ?_⟩
  rintro i m σ H ⟨μ, ρ, st, rel, tr, rfl, p⟩
  by_cases hi : i < it.items.length
  · have e1 : it.items.drop i = it.items[i] :: it.items.drop (i + 1) := List.drop_eq_getElem_cons hi
    rw [e1] at p
    unfold forGo at p
    split at p
    · rename_i hst
      obtain ⟨_, k⟩ := ri i μ H st tr rel.sto hst
      obtain ⟨g1, g2⟩ := k it.items[i] (List.getElem?_eq_getElem hi)
      refine .inr ⟨g1, fun σ' H' => ∃ μ ρ st, Rel g μ σ' H' ρ st ∧ Tr g μ1 H1 μ H' ∧ PostS g W μ H' (forGo it pt bd (it.items.drop (i + 1)) ρ st) Dn, fun σ' H' ⟨μ', ρ', st', h1, h2, h3⟩ => ⟨_, by omega, μ', ρ', st', h1, h2, rfl, h3⟩, fun x H' hy => ?_⟩
      obtain ⟨go', S', rx⟩ := g2 x H' hy
      cases e2 : pt.set it.items[i] ρ with
      | none => rw [e2] at p; exact p.elim
      | some ρ' =>
        rw [e2] at p
        have p := PostS.base go' p
        refine ⟨μ, ρ, st, _, ρ', rel.go go' S', rx, e2, fun σ2 rel2 _ => ⟨μ, ρ', st, rel2, ?_⟩⟩
        have tr' := tr.go go'
        simp only [ofOptO_some] at p
        cases e3 : bd ρ' st with
        | nx ρ2 st2 => rw [e3] at p; exact fun μ3 σ3 H3 go3 rel3 => ⟨μ3, ρ2, st2, rel3, tr'.go go3, PostS.base go3 p⟩
        | ct ρ2 st2 => rw [e3] at p; exact fun μ3 σ3 H3 go3 rel3 => ⟨μ3, ρ2, st2, rel3, tr'.go go3, PostS.base go3 p⟩
        | bk ρ2 st2 => rw [e3] at p; exact p
        | rt d st2 => rw [e3] at p; exact p
        | er x ρ2 st2 => rw [e3] at p; exact p
        | no => rw [e3] at p; exact p
    · exact p.elim
  · rw [List.drop_eq_nil_of_le (by omega)] at p
    unfold forGo at p
    split at p
    · rename_i hst
      exact .inl ⟨(ri i μ H st tr rel.sto hst).1 (by omega), p μ σ H Go.refl rel⟩
    · exact p.elim
/-! ### list comprehensions -/
def R.ner {α β : Type} (r : R α) (f : α → Sto → R β) : R β := match r with
  | .ok a st => f a st
  | _ => .no
@[simp] theorem R.ner_ok {α β : Type} (a : α) (st : Sto) (f : α → Sto → R β) : (R.ok a st).ner f = f a st := rfl
open Classical in
noncomputable def compGo (it : Wk) (p : Pat) (t : Env → Sto → R Bool) (m : Env → Sto → R D) (ρ : Env) : List D → Sto → List D → R (List D)
  | [], st, acc => if it.stay st then .ok acc st else .no
  | d :: ds, st, acc => if it.stay st then ofOpt (p.set d ρ) fun ρ' => (t ρ' st).ner fun c st1 => if c = true then (m ρ' st1).ner fun x st2 => guardR (acc.length ≤ lim) (compGo it p t m ρ ds st2 (acc ++ [x])) else compGo it p t m ρ ds st1 acc else .no
@[simp] def mYes (_ : Env) (st : Sto) : R Bool := .ok true st
noncomputable def mComp (mi : Env → Sto → R Wk) (vs : List Nat) (p : Pat) (t : Env → Sto → R Bool) (m : Env → Sto → R D) (ρ : Env) (st : Sto) : R D := (mi ρ st).bind fun it st1 => (compGo it p t m (wipeD ρ vs) it.items st1 []).bind fun acc st2 => .ok (.lst acc) st2
/-- a new list in the store -/
noncomputable def mCompM (mi : Env → Sto → R Wk) (vs : List Nat) (p : Pat) (t : Env → Sto → R Bool) (m : Env → Sto → R D) (ρ : Env) (st : Sto) : R D := (mi ρ st).bind fun it st1 => (compGo it p t m (wipeD ρ vs) it.items st1 []).bind fun acc st2 => .ok (.loc st2.length) (st2 ++ [.lst acc])
abbrev Wn : WX := fun _ _ _ _ => False
end
end Pl

set_option maxHeartbeats 4000000
/-! list comprehensions: the rules -/
namespace Pl
open PySem PySem.Spec PyProof.Rows L2 Hn
open PySem.W (Frag keepIn)
section
variable {g : G} {W : WX} {X : Cx} {μ μ1 μ2 : Mu} {H H1 H2 : Hp} {st st1 : Sto} {σ : L2.St} {ρ : Env}
theorem Rel.tr (r : Rel g μ σ H ρ st) (t : Tr g μ H μ1 H1) (S : RS g μ1 H1 st1) : Rel g μ1 σ H1 ρ st1 := ⟨r.len, fun i d e => by
  obtain ⟨v, h1, h2⟩ := r.slot i d e
  exact ⟨v, h1, t.one h2⟩, S⟩
theorem Go.bare {l l' p q : List Addr} (x : Go ⟨l, q⟩ H ⟨l', q⟩ H1) : Go ⟨l, p⟩ H ⟨l', p⟩ H1 := ⟨x.ext, rfl, x.new, x.keep⟩
theorem Go.fresh (x : Go μ H μ1 H1) {D : Addr} {o : HO} (h : H D = none) : Go μ H μ1 (upd H1 D o) := ⟨x.ext, x.pv, x.new, fun a u n e => by
  rw [upd_ne (ne_of_none e h)]
  exact x.keep a u n e⟩
theorem off_up {l p : List Addr} {D a : Addr} (k : ((⟨l, p⟩ : Mu).hide D).off a) : ((⟨l, p⟩ : Mu).push D).off a := ⟨fun z => by
  rcases List.mem_append.mp z with z | z
  · exact k.1 z
  · exact k.2 (by rw [List.mem_singleton.mp z]; exact List.mem_cons_self), fun z => k.2 (List.mem_cons_of_mem _ z)⟩
mutual
theorem RV.up {l p : List Addr} {D : Addr} : ∀ {d : Pl.D} {v : V}, RV g ((⟨l, p⟩ : Mu).hide D) H d v → RV g ((⟨l, p⟩ : Mu).push D) H d v
  | .non, _, h => h
  | .bl _, _, h => h
  | .int _, _, h => h
  | .str _, _, h => h
  | .tup xs, _, k => by obtain ⟨a, vs, e, q, r⟩ := k; exact ⟨a, vs, e, ⟨off_up q.1, q.2⟩, RVs.up r⟩
  | .lst xs, _, k => by obtain ⟨a, vs, e, q, r⟩ := k; exact ⟨a, vs, e, ⟨off_up q.1, q.2⟩, RVs.up r⟩
  | .rol xs, _, k => by obtain ⟨a, vs, e, q, r⟩ := k; exact ⟨a, vs, e, q.imp_left fun q => ⟨off_up q.1, q.2⟩, RVs.up r⟩
  | .dct ks xs, _, k => by obtain ⟨a, vs, e, q, k, r⟩ := k; exact ⟨a, vs, e, ⟨off_up q.1, q.2⟩, k, RVs.up r⟩
  | .loc n, _, k => by
    obtain ⟨a, e, q⟩ := k
    have q2 : l[n]? = some a := q
    exact ⟨a, e, by show (l ++ [D])[n]? = some a; rw [List.getElem?_append_left (List.getElem?_eq_some_iff.mp q2).1]; exact q2⟩
  | .nam _, _, k => k
  | .err f xs, _, k => by obtain ⟨a, vs, e, ⟨dd, ee, q⟩, r⟩ := k; exact ⟨a, vs, e, ⟨dd, ee, fun b hb => ⟨off_up (q b hb).1, (q b hb).2⟩⟩, RVs.up r⟩
theorem RVs.up {l p : List Addr} {D : Addr} : ∀ {ds : List Pl.D} {vs : List V}, RVs g ((⟨l, p⟩ : Mu).hide D) H ds vs → RVs g ((⟨l, p⟩ : Mu).push D) H ds vs
  | [], _, k => k
  | d :: ds, _, k => by obtain ⟨v, r, e, h1, h2⟩ := k; exact ⟨v, r, e, RV.up h1, RVs.up h2⟩
end
variable {pt : Pat} {t : Env → Sto → R Bool} {m : Env → Sto → R D} {vs : List Nat}
/-- a list D that is made, with what was put in so far -/
structure Made (g : G) (μ1 : Mu) (H1 : Hp) (D : Addr) (μ : Mu) (H : Hp) (st : Sto) (acc : List Pl.D) : Prop where
  pv : μ.pv = D :: μ1.pv
  go : Go μ1 H1 ⟨μ.ls, μ1.pv⟩ H
  tr : Tr g μ1 H1 μ H
  S : RS g μ H st
  lst : ∃ ws, H D = some (.lst ws) ∧ RVs g μ H acc ws
theorem Made.start {D : Addr} (S : RS g μ1 H1 st) (h : H1 D = none) : Made g μ1 H1 D (μ1.hide D) (upd H1 D (.lst [])) st [] := ⟨rfl, (Go.refl (μ := μ1)).fresh h, Tr.refl.hide h, S.hide h, [], upd_same, rfl⟩
theorem Made.on {D : Addr} {acc : List Pl.D} (M : Made g μ1 H1 D μ H st acc) (x : Go μ H μ2 H2) (S : RS g μ2 H2 st1) : Made g μ1 H1 D μ2 H2 st1 acc := by
  obtain ⟨ws, e, r⟩ := M.lst
  refine ⟨x.pv.trans M.pv, M.go.trans ?_, M.tr.go x, S, ws, x.keep D _ (M.S.pvs D (by rw [M.pv]; exact List.mem_cons_self)).1 e, r.go x⟩
  exact ⟨x.ext, rfl, x.new, x.keep⟩
theorem Made.add {D : Addr} {acc : List Pl.D} {d : Pl.D} {v : V} (M : Made g μ1 H1 D μ H st acc) (h : H1 D = none) (r : RV g μ H d v) : ∃ ws, H D = some (.lst ws) ∧ ws.length = acc.length ∧ Made g μ1 H1 D μ (upd H D (.lst (ws ++ [v]))) st (acc ++ [d]) := by
  obtain ⟨ws, e, rs⟩ := M.lst
  have hp : D ∈ μ.pv := by rw [M.pv]; exact List.mem_cons_self
  exact ⟨ws, e, rs.length, M.pv, M.go.fresh h, M.tr.hid hp, M.S.hid hp, ws ++ [v], upd_same, (rs.app (.one r)).hid hp⟩
theorem Made.mu {D : Addr} {acc : List Pl.D} (M : Made g μ1 H1 D μ H st acc) : μ = (⟨μ.ls, μ1.pv⟩ : Mu).hide D := by
  have := M.pv
  cases μ with
  | mk l p =>
    have e : p = D :: μ1.pv := this
    rw [e]
    rfl
theorem Made.frz {D : Addr} {acc : List Pl.D} (M : Made g μ1 H1 D μ H st acc) (S1 : RS g μ1 H1 st1) (h : H1 D = none) : RS g ⟨μ.ls, μ1.pv⟩ H st ∧ RV g ⟨μ.ls, μ1.pv⟩ H (.lst acc) (.ref D) := by
  obtain ⟨ws, e, rs⟩ := M.lst
  have hp : D ∈ μ.pv := by rw [M.pv]; exact List.mem_cons_self
  have S := M.S
  have n := (S.pvs D hp).1
  rw [M.mu] at S rs
  exact ⟨S.show', D, ws, rfl, ⟨⟨n, (S1.off h).2⟩, e⟩, rs.show'⟩
theorem Made.sto {D : Addr} {acc : List Pl.D} (M : Made g μ1 H1 D μ H st acc) (S1 : RS g μ1 H1 st1) (h : H1 D = none) : Go μ1 H1 ((⟨μ.ls, μ1.pv⟩ : Mu).push D) H ∧ RS g ((⟨μ.ls, μ1.pv⟩ : Mu).push D) H (st ++ [.lst acc]) ∧ RV g ((⟨μ.ls, μ1.pv⟩ : Mu).push D) H (.loc st.length) (.ref D) := by
  obtain ⟨S, _, ws, e0, q, rs⟩ := M.frz S1 h
  cases e0
  have hp : D ∈ μ.pv := by rw [M.pv]; exact List.mem_cons_self
  -- nothing names D
  have S2 := M.S
  rw [M.mu] at S2
  obtain ⟨ws2, e2, rs2⟩ := M.lst
  rw [e2] at q
  obtain rfl : ws2 = ws := by have := q.2; cases this; rfl
  rw [M.mu] at rs2
  have up : ∀ ds vs, RVs g ((⟨μ.ls, μ1.pv⟩ : Mu).hide D) H ds vs → RVs g ((⟨μ.ls, μ1.pv⟩ : Mu).push D) H ds vs := fun ds vs r => RVs.up r
  refine ⟨⟨?_, rfl, fun a ha => ?_, M.go.keep⟩, ⟨?_, ?_, fun n c a e3 e4 => ?_, fun a ha => ?_, S.old⟩, D, rfl, ?_⟩
  · obtain ⟨ν, e⟩ := M.go.ext
    exact ⟨ν ++ [D], by show μ.ls ++ [D] = _; rw [show μ.ls = μ1.ls ++ ν from e, List.append_assoc]⟩
  · rcases List.mem_append.mp ha with z | z
    · exact M.go.new a z
    · rw [List.mem_singleton.mp z]; exact .inr h
  · show (μ.ls ++ [D]).length = _
    rw [List.length_append, List.length_append, show μ.ls.length = _ from S.len]
    rfl
  · show (μ.ls ++ [D]).Nodup
    rw [List.nodup_append]
    exact ⟨S.nd, by simp, fun a ha b hb e => (M.S.pvs D hp).1 (by rw [List.mem_singleton.mp hb] at e; rw [← e]; exact ha)⟩
  · have e5 : (μ.ls ++ [D])[n]? = some a := e4
    rcases Nat.lt_or_ge n μ.ls.length with hn | hn
    · rw [List.getElem?_append_left hn] at e5
      rw [List.getElem?_append_left (by rw [← show μ.ls.length = st.length from S.len]; exact hn)] at e3
      exact (S2.at_ n c a e3 e5).map rfl up
    · rw [List.getElem?_append_right hn] at e5
      rw [List.getElem?_append_right (by rw [← show μ.ls.length = st.length from S.len]; exact hn)] at e3
      have e6 : n - μ.ls.length = 0 := by
        rcases Nat.eq_zero_or_pos (n - μ.ls.length) with z | z
        · exact z
        · rw [List.getElem?_eq_none_iff.mpr (Nat.succ_le_of_lt z)] at e5
          cases e5
      rw [e6] at e5
      rw [← show μ.ls.length = st.length from S.len, e6] at e3
      cases e5
      cases e3
      exact ⟨ws2, e2, up _ _ rs2⟩
  · have ha' : a ∈ μ1.pv := ha
    obtain ⟨h1, o, e⟩ := S1.pvs a ha'
    obtain ⟨h3, h4⟩ := S.pvs a ha
    refine ⟨fun z => ?_, h4⟩
    rcases List.mem_append.mp z with z | z
    · exact h3 z
    · rw [List.mem_singleton.mp z, h] at e; cases e
  · show (μ.ls ++ [D])[st.length]? = _
    rw [← show μ.ls.length = st.length from S.len, List.getElem?_append_right (Nat.le_refl _), Nat.sub_self]
    rfl
/-- the walk of a comprehension's first part, whatever is done with what was made -/
theorem comp_k {α β : Type} {it : Wk} {J : It} {D : Addr} {fin : List Pl.D → Sto → R α} {P : α → Sto → Prop} {B : Er → Sto → Prop} {Qd : Hp → Prop} (hsl : ∀ i ∈ pt.sl, i ∈ vs) (rel1 : Rel g μ1 σ H1 ρ st1) (ri : RIt g μ1 H1 it J) (hD : H1 D = none)
    (p : ((compGo it pt t m (wipeD ρ vs) it.items st1 []).bind fin).post P B)
    (hfin : ∀ μ H st acc, Made g μ1 H1 D μ H st acc → (fin acc st).post P B → Qd H) :
    ∃ W : Nat → Nat → Hp → Prop, (∃ m, W 0 m (upd H1 D (.lst []))) ∧ ∀ i k H, W i k H → (J.stop i H ∧ Qd H) ∨ (J.go i H ∧ ∃ Nx : Hp → Prop, (∀ H', Nx H' → ∃ k', k' < k ∧ W (i + 1) k' H') ∧
      ∀ x H', J.yld i H x H' → gP g pt x (L2.wipe σ vs) H' fun σ2 H2 => L2.wipe σ2 vs = L2.wipe σ vs ∧ tTOf g Wn t σ2 H2 fun b H3 =>
        if b = true then tOf g Wn m σ2 H3 fun y H4 => ∃ acc, H4 D = some (.lst acc) ∧ acc.length < sizeLine ∧ Nx (upd H4 D (.lst (acc ++ [y]))) else Nx H3) := by
  refine ⟨fun i k H => ∃ μ st acc, Made g μ1 H1 D μ H st acc ∧ k = it.items.length - i ∧ ((compGo it pt t m (wipeD ρ vs) (it.items.drop i) st acc).bind fin).post P B, ⟨_, μ1.hide D, st1, [], Made.start rel1.sto hD, rfl, p⟩, ?_⟩
  rintro i k H ⟨μ, st, acc, M, rfl, p⟩
  by_cases hi : i < it.items.length
  · rw [List.drop_eq_getElem_cons hi] at p
    unfold compGo at p
    split at p
    · rename_i hst
      obtain ⟨_, kk⟩ := ri i μ H st M.tr M.S hst
      obtain ⟨g1, g2⟩ := kk it.items[i] (List.getElem?_eq_getElem hi)
      refine .inr ⟨g1, fun H' => ∃ μ st acc, Made g μ1 H1 D μ H' st acc ∧ ((compGo it pt t m (wipeD ρ vs) (it.items.drop (i + 1)) st acc).bind fin).post P B, fun H' ⟨μ', st', acc', h1, h2⟩ => ⟨_, by omega, μ', st', acc', h1, rfl, h2⟩, fun x H' hy => ?_⟩
      obtain ⟨go', S', rx⟩ := g2 x H' hy
      cases e2 : pt.set it.items[i] (wipeD ρ vs) with
      | none => rw [e2] at p; exact p.elim
      | some ρ' =>
        rw [e2] at p
        have M' := M.on go' S'
        refine ⟨μ, _, st, _, ρ', (rel1.tr M'.tr S').wipe vs, rx, e2, fun σ2 rel2 wp => ⟨(wp vs hsl).trans (wipe_wipe σ vs), ?_⟩⟩
        simp only [ofOpt_some] at p
        refine ⟨μ, ρ', st, rel2, ?_⟩
        cases e3 : t ρ' st with
        | er e st2 => rw [e3] at p; exact p.elim
        | no => rw [e3] at p; exact p.elim
        | ok c st2 =>
          rw [e3] at p
          intro μ3 c' H3 go3 S3 ec
          cases (show c' = c from ec)
          have M3 := M'.on go3 S3
          simp only [R.ner_ok] at p
          cases c with
          | false => exact ⟨μ3, st2, acc, M3, p⟩
          | true =>
            simp only [if_true] at p
            refine ⟨μ3, ρ', st2, rel2.go go3 S3, ?_⟩
            cases e4 : m ρ' st2 with
            | er e st3 => rw [e4] at p; exact p.elim
            | no => rw [e4] at p; exact p.elim
            | ok y st3 =>
              rw [e4] at p
              intro μ4 v H4 go4 S4 rv
              have M4 := M3.on go4 S4
              simp only [R.ner_ok] at p
              unfold guardR at p
              split at p
              · rename_i hl
                obtain ⟨ws, e5, l5, M5⟩ := M4.add hD rv
                exact ⟨ws, e5, by rw [l5]; exact lim_lt hl, μ4, st3, acc ++ [y], M5, p⟩
              · exact p.elim
    · exact p.elim
  · rw [List.drop_eq_nil_of_le (by omega)] at p
    unfold compGo at p
    split at p
    · rename_i hst
      exact .inl ⟨(ri i μ H st M.tr M.S hst).1 (by omega), hfin μ H st acc M p⟩
    · exact p.elim
variable {mi : Env → Sto → R Wk} {elt tg iter : Expr} {ifs : List Expr} {scope : Scope} {own : List (Str × Nat)} {pos : Pos}
theorem pts_none : PTs X [] (tTOf g W mYes) := ⟨fun pins s σ H Q I ⟨μ, ρ, st, rel, p⟩ => pts_nil.run pins s σ H Q I (PostG.now p rel.sto rfl)⟩
theorem pts_some {c : Expr} (h : PMT g W X c t) : PTs X [c] (tTOf g W t) := pts_one h
theorem lc_frz {Q : VK} {wi : TI} (hsl : ∀ i ∈ pt.sl, i ∈ vs) (rel : Rel g μ σ H ρ st) (p : PostG g W σ μ H (RV g) (mComp mi vs pt t m ρ st) Q) : tLc (tI g W mi) (gP g pt) (tTOf g Wn t) (tOf g Wn m) vs σ H Q :=
  tG_bind rel p fun μ1 it st1 J H1 go1 rel1 ri p1 => fun D hD => comp_k (α := Pl.D) (β := V) hsl rel1 ri hD p1 fun μ2 H2 st2 acc M q => by
    obtain ⟨S, rv⟩ := M.frz rel1.sto hD
    exact q _ _ _ M.go S rv
section
variable (hc : X.calm = true) (hN : X.N.Nodup) (hi : PMI g W X tg iter mi) (ok : BlkOk X.N X.env.scope scope own) (hsl : ∀ i ∈ pt.sl, i ∈ own.map (·.2))
    (hg : ∀ (s : Shared) (H : Hp) (C : Addr) (cl : List (Str × Addr)) (fp : List Addr), PG (X.blk s H scope (compEnvC scope cl C X.env) fp) tg (gP g pt))
    (ht : ∀ (s : Shared) (H : Hp) (C : Addr) (cl : List (Str × Addr)) (fp : List Addr), PTs (X.blk s H scope (compEnvC scope cl C X.env) fp) ifs (tTOf g Wn t))
    (he : ∀ (s : Shared) (H : Hp) (C : Addr) (cl : List (Str × Addr)) (fp : List Addr), PM g Wn (X.blk s H scope (compEnvC scope cl C X.env) fp) elt m)
    (hs : ∀ x, foldedSetIterable iter X.env x = pure x := by intro _; rfl)
include hc hN hi ok hsl hg ht he hs
theorem pm_lc : PM g W X (.ListComp elt [⟨tg, iter, ifs, 0⟩] scope pos) (mComp mi (own.map (·.2)) pt t m) := (pe_lc hc hN hi ok hg ht he hs).imp fun σ H Q ⟨μ, ρ, st, rel, p⟩ => lc_frz (wi := tI g W mi) hsl rel p
variable {i : Nat} {y : Str} {py spos : Pos} (hy : X.N[i]? = some y) (hyl : X.env.scope.names.lookup y = some .local) (hsw : swapsWith (.ListComp elt [⟨tg, iter, ifs, 0⟩] scope pos) (some (.Name y py)) spos.line X.env = pure true)
include hy hyl hsw
theorem setLc_k {mm : Env → Sto → R Pl.D} (hk : ∀ σ H Q μ ρ st, Rel g μ σ H ρ st → PostG g W σ μ H (RV g) (mm ρ st) Q → tLc (tI g W mi) (gP g pt) (tTOf g Wn t) (tOf g Wn m) (own.map (·.2)) σ H Q) : PMS g W X (.Assign [.Name y py] (.ListComp elt [⟨tg, iter, ifs, 0⟩] scope pos) spos) (mSet i mm) :=
  (ps_setLc hc hN hy hyl hsw hi ok hg ht he hs).imp fun Dn σ H ⟨μ, ρ, st, rel, p⟩ => by
    show tLc _ _ _ _ _ σ H _
    refine hk σ H _ μ ρ st rel ?_
    unfold mSet at p
    cases e : mm ρ st with
    | ok d st1 =>
      rw [e] at p
      exact fun μ1 v H1 go S rv => PostS.base go p μ1 _ H1 Go.refl ((rel.go go S).set rv)
    | er x st1 =>
      rw [e] at p
      exact fun μ1 H1 cls dd go S re => p μ1 σ H1 cls dd go (rel.go go S) re
    | no => rw [e] at p; exact p.elim
theorem pms_setLc : PMS g W X (.Assign [.Name y py] (.ListComp elt [⟨tg, iter, ifs, 0⟩] scope pos) spos) (mSet i (mComp mi (own.map (·.2)) pt t m)) := setLc_k hc hN hi ok hsl hg ht he hs hy hyl hsw fun σ H Q μ ρ st rel p => lc_frz (wi := tI g W mi) hsl rel p
end
end
end Pl

set_option maxHeartbeats 4000000
/-! what changes lists and dicts in place -/
namespace Pl
open PySem PySem.Spec PyProof.Rows L2 Hn
open PySem.W (Frag keepIn)
/-! ### methods of lists -/
@[simp] def mMeth (f : D → List D → Sto → R D) (mo : Env → Sto → R D) (ms : Env → Sto → R (List D)) (ρ : Env) (st : Sto) : R D := (mo ρ st).bind fun x st1 => ofOpt (itemsL st1 x) fun _ => (ms ρ st1).bind fun xs st2 => f x xs st2
@[simp] def mMeth0 (f : D → List D → Sto → R D) (mo : Env → Sto → R D) (ρ : Env) (st : Sto) : R D := (mo ρ st).bind fun x st1 => ofOpt (itemsL st1 x) fun _ => f x [] st1
def lstOf (st : Sto) : D → Option (Nat × List D)
  | .loc n => match st[n]? with
    | some (.lst xs) => some (n, xs)
    | _ => none
  | _ => none
theorem lstOf_loc {n : Nat} {xs : List D} {st : Sto} (h : st[n]? = some (.lst xs)) : lstOf st (.loc n) = some (n, xs) := by simp only [lstOf, h]
def appD (x : D) (ds : List D) (st : Sto) : R D := match ds with
  | [d] => ofOpt (lstOf st x) fun q => guardR (q.2.length ≤ lim) (.ok .non (st.set q.1 (.lst (q.2 ++ [d]))))
  | _ => .no
def extD (x : D) (ds : List D) (st : Sto) : R D := match ds with
  | [d] => ofOpt (lstOf st x) fun q => ofOpt (itemsL st d) fun ys => guardR (q.2.length + ys.length ≤ lim) (.ok .non (st.set q.1 (.lst (q.2 ++ ys))))
  | _ => .no
def MM (g : G) (r : V → List V → Hp → VK → Prop) (mo : D → List D → Sto → R D) : Prop := ∀ (W : WX) (σ : L2.St) (μ : Mu) (H : Hp) (st : Sto) (x : V) (vs : List V) (dx : D) (ds : List D) (Q : VK), RS g μ H st → RV g μ H dx x → RVs g μ H ds vs → PostG g W σ μ H (RV g) (mo dx ds st) Q → r x vs H Q
section
variable {g : G} {W : WX} {X : Cx} {μ μ1 μ2 : Mu} {H H1 H2 : Hp} {st st1 : Sto} {σ : L2.St} {ρ : Env}
theorem lstOf_at {d : D} {x : V} {n : Nat} {xs : List D} (S : RS g μ H st) (h : RV g μ H d x) (e : lstOf st d = some (n, xs)) : ∃ a vs, x = .ref a ∧ μ.ls[n]? = some a ∧ H a = some (.lst vs) ∧ RVs g μ H xs vs := by
  cases d with
  | loc m =>
    obtain ⟨a, e1, q⟩ := h
    unfold lstOf at e
    simp only at e
    split at e
    · rename_i ys e2
      cases e
      obtain ⟨vs, e3, r⟩ := S.at_ n _ a e2 q
      exact ⟨a, vs, e1, q, e3, r⟩
    · cases e
  | _ => cases e
/-- a list of the store is changed -/
theorem put_lst {n : Nat} {a : Addr} {ys : List D} {ws : List V} (S : RS g μ H st) (e : μ.ls[n]? = some a) (r : RVs g μ H ys ws) : RS g μ (upd H a (.lst ws)) (st.set n (.lst ys)) ∧ Go μ H μ (upd H a (.lst ws)) :=
  ⟨S.mut e ⟨ws, upd_same, r.go (Go.mut e)⟩, Go.mut e⟩
theorem mm_app : MM g rAppend appD := by
  intro W σ μ H st x vs dx ds Q S rx rs p
  unfold appD at p
  split at p
  · obtain ⟨v, rfl, h⟩ := one_at rs
    obtain ⟨⟨n, xs⟩, e, p1⟩ := post_opt p
    obtain ⟨hl, p2⟩ := post_guard p1
    obtain ⟨a, ws, rfl, k1, k2, r⟩ := lstOf_at S rx e
    obtain ⟨S2, go⟩ := put_lst S k1 (r.app (.one h))
    exact ⟨a, ws, v, rfl, rfl, k2, by rw [r.length]; exact lim_lt hl, PostG.done p2 go S2 rfl⟩
  · exact p.elim
variable {o e : Expr} {es : List Expr} {mo : Env → Sto → R D} {ms : Env → Sto → R (List D)} {r : V → List V → Hp → VK → Prop} {f : D → List D → Sto → R D} {name : Str} {apos cpos : Pos} {id : String}
theorem pm_bm (hK : X.K = g.K) (pa : PlainAttrs "list") (slot : Slot "list" name id) (hty : typeOf (.builtin id) = pure (.type "method_descriptor")) (hm : MtR X id r) (hf : MM g r f) (ho : PM g W X o mo) (ha : PMA g W X (e :: es) ms)
    (hbase : attributeBase o name X.env (eval o X.env) = eval o X.env := by rfl)
    (hfew : ((backTo cpos (starEach (e :: es) X.env)).all (fun x => !x.1) && (backToKw cpos (keywordEach [] X.env)).all (fun x => x.1.isSome)
      && decide ((e :: es).length + ([] : List Keyword).length + (if ([] : List Keyword).isEmpty then 0 else 1) < 30)) = true := by rfl)
    (hline : (apos.endLine == cpos.line) = true := by rfl) (hs : starEach (e :: es) X.env = (false, eval e X.env) :: starEach es X.env := by rfl) (hplain : (backTo cpos (starEach es X.env)).any (·.1) = false := by rfl) :
    PM g W X (.Call (.Attribute o name apos) (e :: es) [] cpos) (mMeth f mo ms) :=
  (pe_bm pa slot hty hm ho ha hbase hfew hline hs hplain).imp fun σ H Q ⟨μ, ρ, st, rel, p⟩ => tG_bind rel p fun μ1 d st1 x H1 go1 rel1 rv1 p1 => by
    obtain ⟨xs, e1, p1⟩ := post_opt p1
    obtain ⟨a, vs, rfl, k, r1⟩ := itemsL_at rel1.sto rv1 e1
    exact ⟨.inl ⟨rfl, _, SqL.of k⟩, tG_bind rel1 p1 fun μ2 ds st2 us H2 go2 rel2 rv2 p2 => hf W σ μ2 H2 st2 _ us d ds Q rel2.sto (rv1.go go2) rv2 p2⟩
/-! ### o[i] = v -/
def putK' {κ : Type} [DecidableEq κ] (kvs : List (κ × D)) (k : κ) (v : D) : List (κ × D) := if (kvs.any fun kv => decide (kv.1 = k)) = true then kvs.map (fun kv => if kv.1 = k then (kv.1, v) else kv) else kvs ++ [(k, v)]
def putD (x i v : D) (st : Sto) : Option Sto := match x with
  | .loc n => match st[n]? with
    | some (.lst xs) => match i with
      | .int k => match ixN xs.length k with
        | some j => some (st.set n (.lst (xs.set j v)))
        | none => none
      | _ => none
    | some (.dct kvs) => match dkey i with
      | some k => if kvs.length ≤ lim then some (st.set n (.dct (putK' kvs k v))) else none
      | none => none
    | some (.dcT kvs) => match tkey i with
      | some k => if kvs.length ≤ lim then some (st.set n (.dcT (putK' kvs k v))) else none
      | none => none
    | _ => none
  | _ => none
@[simp] def mPut (mo mi mv : Env → Sto → R D) (ρ : Env) (st : Sto) : O := O.of (mv ρ st) ρ fun v st1 => O.of (mo ρ st1) ρ fun x st2 => O.of (mi ρ st2) ρ fun i st3 => ofOptO (putD x i v st3) fun st4 => .nx ρ st4
theorem any_key {κ : Type} [DecidableEq κ] (k : κ) : ∀ {ps : List (κ × D)} {kvs : List (κ × V)}, kvs.map (·.1) = ps.map (·.1) → (kvs.any fun kv => decide (kv.1 = k)) = (ps.any fun kv => decide (kv.1 = k))
  | [], [], _ => rfl
  | [], _ :: _, e => by cases e
  | _ :: _, [], e => by cases e
  | p :: ps, q :: kvs, e => by
    rw [List.map_cons, List.map_cons] at e
    injection e with e1 e2
    rw [List.any_cons, List.any_cons, e1, any_key k e2]
theorem put_at {κ : Type} [DecidableEq κ] (k : κ) {d : D} {v : V} (h : RV g μ H d v) {ps : List (κ × D)} {kvs : List (κ × V)} (e : kvs.map (·.1) = ps.map (·.1)) (r : RVs g μ H (ps.map (·.2)) (kvs.map (·.2))) :
    (putK kvs k v).map (·.1) = (putK' ps k d).map (·.1) ∧ RVs g μ H ((putK' ps k d).map (·.2)) ((putK kvs k v).map (·.2)) := by
  unfold putK putK'
  rw [any_key k e]
  split
  · have aux : ∀ {ps : List (κ × D)} {kvs : List (κ × V)}, kvs.map (·.1) = ps.map (·.1) → RVs g μ H (ps.map (·.2)) (kvs.map (·.2)) → ((kvs.map fun kv => if kv.1 = k then (kv.1, v) else kv).map (·.1) = (ps.map fun kv => if kv.1 = k then (kv.1, d) else kv).map (·.1) ∧
        RVs g μ H ((ps.map fun kv => if kv.1 = k then (kv.1, d) else kv).map (·.2)) ((kvs.map fun kv => if kv.1 = k then (kv.1, v) else kv).map (·.2))) := fun {ps} => by
      induction ps with
      | nil => intro kvs e r; cases kvs with
        | nil => exact ⟨rfl, rfl⟩
        | cons => cases e
      | cons p ps ih => intro kvs e r; cases kvs with
        | nil => cases e
        | cons q kvs =>
          rw [List.map_cons, List.map_cons] at e
          injection e with e1 e2
          obtain ⟨v', r', e3, h1, h2⟩ := r
          rw [List.map_cons] at e3
          injection e3 with e4 e5
          obtain ⟨i1, i2⟩ := ih e2 (by rw [← e5] at h2; exact h2)
          simp only [List.map_cons]
          rw [e1]
          by_cases hk : p.1 = k
          · rw [if_pos hk, if_pos hk]
            exact ⟨by rw [i1], .cons h i2⟩
          · rw [if_neg hk, if_neg hk]
            exact ⟨by rw [i1, e1], .cons (by rw [e4]; exact h1) i2⟩
    exact aux e r
  · rw [List.map_append, List.map_append, List.map_append, List.map_append, e]
    exact ⟨rfl, r.app (.one h)⟩
theorem putD_l {x i v : D} {st' : Sto} {vx vi vv : V} (S : RS g μ H st) (hx : RV g μ H x vx) (hi : RV g μ H i vi) (hv : RV g μ H v vv) (e : putD x i v st = some st') :
    (∃ p xs k j, vx = .ref p ∧ vi = .int k ∧ H p = some (.lst xs) ∧ ixN xs.length k = some j ∧ RS g μ (upd H p (.lst (xs.set j vv))) st' ∧ Go μ H μ (upd H p (.lst (xs.set j vv))) ∧ isDct st x = false) ∨
    (∃ p H', vx = .ref p ∧ DPut H p vi vv H' ∧ RS g μ H' st' ∧ Go μ H μ H' ∧ isDct st x = true) := by
  cases x with
  | loc n =>
    obtain ⟨a, rfl, q⟩ := hx
    unfold putD at e
    simp only at e
    split at e
    · rename_i xs e2
      obtain ⟨vs, e3, r⟩ := S.at_ n _ a e2 q
      split at e
      · rename_i k
        split at e
        · rename_i j e4
          cases e
          obtain ⟨S2, go⟩ := put_lst S q (r.set hv j)
          exact .inl ⟨a, vs, k, j, rfl, hi, e3, by rw [r.length]; exact e4, S2, go, by simp only [isDct, e2]⟩
        · cases e
      · cases e
    · rename_i kvs e2
      obtain ⟨vs, e3, e5, r⟩ := S.at_ n _ a e2 q
      split at e
      · rename_i k e4
        split at e
        · rename_i hl
          cases e
          obtain ⟨p1, p2⟩ := put_at k hv e5 r
          have hl2 : vs.length ≤ lim := by
            have := congrArg List.length e5
            rw [List.length_map, List.length_map] at this
            omega
          rw [dkey_at hi e4]
          exact .inr ⟨a, _, rfl, DPut.k e3 (lim_lt hl2), S.mut q ⟨_, upd_same, p1, p2.go (Go.mut q)⟩, Go.mut q, by simp only [isDct, e2]⟩
        · cases e
      · cases e
    · rename_i kvs e2
      obtain ⟨vs, e3, e5, r⟩ := S.at_ n _ a e2 q
      split at e
      · rename_i k e4
        split at e
        · rename_i hl
          cases e
          obtain ⟨p1, p2⟩ := put_at k hv e5 r
          have hl2 : vs.length ≤ lim := by
            have := congrArg List.length e5
            rw [List.length_map, List.length_map] at this
            omega
          obtain ⟨b, rfl, nb, eb⟩ := tkey_at hi e4
          exact .inr ⟨a, _, rfl, DPut.t e3 eb (lim_lt hl2), S.mut q ⟨_, upd_same, p1, p2.go (Go.mut q)⟩, Go.mut q, by simp only [isDct, e2]⟩
        · cases e
      · cases e
    · cases e
  | _ => cases e
theorem _root_.L2.PS.or {X : Cx} {e : Stmt} {t t' : TS} (h : PS X e t) (h' : PS X e t') : PS X e (fun D σ H => t D σ H ∨ t' D σ H) := ⟨fun pins s σ H Q I q => q.elim (h.run pins s σ H Q I) (h'.run pins s σ H Q I)⟩
variable {o i v : Expr} {mo mi mv : Env → Sto → R D} {pos pos' : Pos} {Dn : Ends}
theorem pms_put (hu : X.A.units + 65 < cLine) (ho : PM g W X o mo) (hi : PM g W X i mi) (hv : PM g W X v mv)
    (hs : swapsWith v (some (.Subscript o i pos')) pos.line X.env = pure false := by rfl)
    (ha : ∀ v, assign (.Subscript o i pos') X.env v = (do
      let ov ← holding [v] (eval o X.env)
      let iv ← holding [v, ov] (eval i X.env)
      standAt pos'
      holding [v, ov, iv] (setItem ov iv v)
      release [v, ov, iv] []) := by intro _; rfl)
    (hs2 : swapsWithSole [.Subscript o i pos'] v pos.line X.env = pure false := by rfl) (hw : swappedStores [.Subscript o i pos'] v X.env = pure none := by rfl)
    (h1 : (assignEach [.Subscript o i pos'] X.env).map (·.2) = [assign (.Subscript o i pos') X.env] := by rfl) : PMS g W X (.Assign [.Subscript o i pos'] v pos) (mPut mo mi mv) :=
  ((ps_dput (by omega) ho hi hv hs).or (ps_asg hv (pg_sub ho hi set_list ha) hs2 hw h1)).imp fun Dn σ H ⟨μ, ρ, st, rel, p⟩ => by
    by_cases hd : ∃ dv st1 dx st2 di st3, mv ρ st = .ok dv st1 ∧ mo ρ st1 = .ok dx st2 ∧ mi ρ st2 = .ok di st3 ∧ isDct st3 dx = true
    · obtain ⟨dv, st1, dx, st2, di, st3, e1, e2, e3, e4⟩ := hd
      refine .inl (tG_OE rel p fun μ1 dv' st1' vv H1 e1' go1 rel1 rv1 p1 => ?_)
      rw [e1] at e1'
      cases e1'
      refine tG_OE rel1 p1 fun μ2 dx' st2' vx H2 e2' go2 rel2 rv2 p2 => ?_
      rw [e2] at e2'
      cases e2'
      refine tG_OE rel2 p2 fun μ3 di' st3' vi H3 e3' go3 rel3 rv3 p3 => ?_
      rw [e3] at e3'
      cases e3'
      cases e5 : putD dx di dv st3 with
      | none => rw [e5] at p3; exact p3.elim
      | some st4 =>
        rw [e5] at p3
        rcases putD_l rel3.sto (rv2.go go3) rv3 ((rv1.go go2).go go3) e5 with ⟨_, _, _, _, _, _, _, _, _, _, z⟩ | ⟨q, H', rfl, dp, S', go', _⟩
        · rw [e4] at z; cases z
        · exact ⟨q, H', rfl, dp, p3 μ3 σ H' go' (rel3.go go' S')⟩
    · refine .inr (tG_OE rel p fun μ1 dv st1 vv H1 e1 go1 rel1 rv1 p1 => tG_OE rel1 p1 fun μ2 dx st2 vx H2 e2 go2 rel2 rv2 p2 => tG_OE rel2 p2 fun μ3 di st3 vi H3 e3 go3 rel3 rv3 p3 => ?_)
      cases e5 : putD dx di dv st3 with
      | none => rw [e5] at p3; exact p3.elim
      | some st4 =>
        rw [e5] at p3
        rcases putD_l rel3.sto (rv2.go go3) rv3 ((rv1.go go2).go go3) e5 with ⟨q, xs, k, j, rfl, rfl, h1, h2, S', go', _⟩ | ⟨_, _, _, _, _, _, z⟩
        · exact ⟨q, xs, k, j, rfl, rfl, h1, h2, p3 μ3 σ _ go' (rel3.go go' S')⟩
        · exact absurd ⟨dv, st1, dx, st2, di, st3, e1, e2, e3, z⟩ hd
/-! ### x op= e -/
@[simp] def mAug (i : Nat) (mo : D → D → Sto → R D) (m : Env → Sto → R D) (ρ : Env) (st : Sto) : O := match ρ[i]? with
  | some (some x) => O.of (m ρ st) ρ fun y st1 => O.of (mo x y st1) ρ fun z st2 => .nx (ρ.set i (some z)) st2
  | _ => .no
def iaddD (a b : D) (st : Sto) : R D := match a with
  | .int i => match b with
    | .int j => .ok (.int (i + j)) st
    | _ => .no
  | .str s => match b with
    | .str t => guardR (s.length + t.length ≤ lim) (.ok (.str (s ++ t)) st)
    | _ => .no
  | a => ofOpt (lstOf st a) fun q => ofOpt (itemsL st b) fun ys => guardR (q.2.length + ys.length ≤ lim) (.ok a (st.set q.1 (.lst (q.2 ++ ys))))
@[simp] theorem iaddD_int {i j : Int} {st : Sto} : iaddD (.int i) (.int j) st = .ok (.int (i + j)) st := rfl
@[simp] theorem iaddD_str {s t : Str} {st : Sto} : iaddD (.str s) (.str t) st = guardR (s.length + t.length ≤ lim) (.ok (.str (s ++ t)) st) := rfl
theorem iaddD_loc {n : Nat} {b : D} {st : Sto} : iaddD (.loc n) b st = ofOpt (lstOf st (.loc n)) fun q => ofOpt (itemsL st b) fun ys => guardR (q.2.length + ys.length ≤ lim) (.ok (.loc n) (st.set q.1 (.lst (q.2 ++ ys)))) := rfl
variable {e : Expr} {m : Env → Sto → R D} {op : Operator} {ti : TIp} {f : D → D → Sto → R D}
/-! ### dicts written out -/
@[simp] def mDct0 (_ : Env) (st : Sto) : R D := .ok (.dct [] []) st
@[simp] def mDct0M (_ : Env) (st : Sto) : R D := .ok (.loc st.length) (st ++ [.dct []])
@[simp] def mDct0T (_ : Env) (st : Sto) : R D := .ok (.loc st.length) (st ++ [.dcT []])
theorem pm_dct0 : PM g W X (.Dict [] [] pos) mDct0 := pe_dnewK.imp fun σ H Q ⟨μ, ρ, st, rel, p⟩ => fun t ht => PostG.done p (Go.side rel.sto ht) (rel.sto.side ht) ⟨t, [], rfl, ⟨rel.sto.off ht, upd_same⟩, rfl, rfl⟩
/-- a thing that was being made comes into the store -/
theorem hid_push {l p : List Addr} {D : Addr} {c : C} (S : RS g ((⟨l, p⟩ : Mu).hide D) H st) (n : D ∉ p) (k : RC g ((⟨l, p⟩ : Mu).push D) H D c) : RS g ((⟨l, p⟩ : Mu).push D) H (st ++ [c]) := by
  have nl : D ∉ l := (S.pvs D List.mem_cons_self).1
  have len : l.length = st.length := S.len
  refine ⟨?_, ?_, fun i c' a e3 e4 => ?_, fun a ha => ?_, S.old⟩
  · show (l ++ [D]).length = _
    rw [List.length_append, List.length_append, len]
    rfl
  · show (l ++ [D]).Nodup
    rw [List.nodup_append]
    exact ⟨S.nd, by simp, fun a ha b hb e => nl (by rw [List.mem_singleton.mp hb] at e; rw [← e]; exact ha)⟩
  · have e5 : (l ++ [D])[i]? = some a := e4
    rcases Nat.lt_or_ge i l.length with hn | hn
    · rw [List.getElem?_append_left hn] at e5
      rw [List.getElem?_append_left (by rw [← len]; exact hn)] at e3
      exact (S.at_ i c' a e3 e5).map rfl fun _ _ r => r.up
    · rw [List.getElem?_append_right hn] at e5
      rw [List.getElem?_append_right (by rw [← len]; exact hn)] at e3
      have e6 : i - l.length = 0 := by
        rcases Nat.eq_zero_or_pos (i - l.length) with z | z
        · exact z
        · rw [List.getElem?_eq_none_iff.mpr (Nat.succ_le_of_lt z)] at e5
          cases e5
      rw [e6] at e5
      rw [← len, e6] at e3
      cases e5
      cases e3
      exact k
  · obtain ⟨h3, h4⟩ := S.pvs a (List.mem_cons_of_mem _ ha)
    refine ⟨fun z => ?_, h4⟩
    rcases List.mem_append.mp z with z | z
    · exact h3 z
    · exact n (by rw [← List.mem_singleton.mp z]; exact ha)
/-- the pairs of a display -/
def mPairs : List ((Env → Sto → R D) × (Env → Sto → R D)) → Env → Sto → R (List (D × D))
  | [], _, st => .ok [] st
  | (mk, mv) :: r, ρ, st => (mk ρ st).bind fun k st1 => (mv ρ st1).bind fun v st2 => (mPairs r ρ st2).bind fun ps st3 => .ok ((k, v) :: ps) st3
@[simp] theorem mPairs_nil {ρ : Env} {st : Sto} : mPairs [] ρ st = .ok [] st := rfl
@[simp] theorem mPairs_cons {mk mv : Env → Sto → R D} {r : List ((Env → Sto → R D) × (Env → Sto → R D))} {ρ : Env} {st : Sto} : mPairs ((mk, mv) :: r) ρ st = (mk ρ st).bind fun k st1 => (mv ρ st1).bind fun v st2 => (mPairs r ρ st2).bind fun ps st3 => .ok ((k, v) :: ps) st3 := rfl
def keyPs : List (D × D) → Option (List (Key × D))
  | [] => some []
  | (k, v) :: r => match dkey k, keyPs r with
    | some k, some r => some ((k, v) :: r)
    | _, _ => none
def mergeD (kvs more : List (Key × D)) : List (Key × D) := more.foldl (fun acc kv => putK' acc kv.1 kv.2) kvs
@[simp] def mDispM (ps : List ((Env → Sto → R D) × (Env → Sto → R D))) (ρ : Env) (st : Sto) : R D := (mPairs ps ρ st).bind fun qs st1 => ofOpt (keyPs qs) fun kvs => guardR (kvs.length ≤ 15) (.ok (.loc st1.length) (st1 ++ [.dct (mergeD [] kvs)]))
def RPs (g : G) : Mu → Hp → List (D × D) → List (V × V) → Prop := fun μ H ds vs => RVs g μ H (ds.map (·.1)) (vs.map (·.1)) ∧ RVs g μ H (ds.map (·.2)) (vs.map (·.2))
theorem pairs_k : ∀ {ps : List ((Env → Sto → R D) × (Env → Sto → R D))} {σ : L2.St} {μ : Mu} {H : Hp} {ρ : Env} {st : Sto} {Q : List (V × V) → Hp → Prop}, Rel g μ σ H ρ st → PostG g W σ μ H (RPs g) (mPairs ps ρ st) Q → tPairs (ps.map fun q => (tOf g W q.1, tOf g W q.2)) σ H Q
  | [], σ, μ, H, ρ, st, Q, rel, p => PostG.now (b := []) p rel.sto ⟨rfl, rfl⟩
  | (mk, mv) :: ps, σ, μ, H, ρ, st, Q, rel, p => tG_bind rel p fun μ1 k st1 x H1 go1 rel1 rv1 p1 => tG_bind rel1 p1 fun μ2 v st2 y H2 go2 rel2 rv2 p2 => pairs_k rel2 (R.post_mono (R.post_bind p2) (fun qs st3 q μ3 ws H3 go3 S3 rp => PostG.done q go3 S3 ⟨.cons ((rv1.go go2).go go3) rp.1, .cons (rv2.go go3) rp.2⟩) fun _ _ q => q)
theorem keyPs_at : ∀ {qs : List (D × D)} {ws : List (V × V)} {kvs : List (Key × D)}, RPs g μ H qs ws → keyPs qs = some kvs → ∃ vs : List (Key × V), ws = vs.map (fun kv => (kV kv.1, kv.2)) ∧ vs.map (·.1) = kvs.map (·.1) ∧ RVs g μ H (kvs.map (·.2)) (vs.map (·.2))
  | [], ws, _, h, e => by
    cases e
    have h1 : ws.map (·.1) = [] := h.1
    rw [List.map_eq_nil_iff] at h1
    exact ⟨[], h1, rfl, rfl⟩
  | (k, v) :: qs, ws, _, h, e => by
    unfold keyPs at e
    split at e
    · rename_i k' r' e1 e2
      cases e
      obtain ⟨h1, h2⟩ := h
      obtain ⟨x, r, e3, h3, h4⟩ := h1
      obtain ⟨y, r2, e5, h5, h6⟩ := h2
      cases ws with
      | nil => cases e3
      | cons w ws =>
        rw [List.map_cons] at e3 e5
        injection e3 with a1 a2
        injection e5 with a3 a4
        obtain ⟨vs, b1, b2, b3⟩ := keyPs_at (qs := qs) (ws := ws) ⟨by rw [a2]; exact h4, by rw [a4]; exact h6⟩ e2
        refine ⟨(k', w.2) :: vs, ?_, by rw [List.map_cons, List.map_cons, b2], .cons (by rw [a3]; exact h5) b3⟩
        rw [List.map_cons, ← b1]
        congr 1
        exact Prod.ext (by rw [a1]; exact dkey_at h3 e1) rfl
    · cases e
theorem merge_at {more : List (Key × D)} {vs : List (Key × V)} (e : vs.map (·.1) = more.map (·.1)) (r : RVs g μ H (more.map (·.2)) (vs.map (·.2))) : ∀ {ps : List (Key × D)} {kvs : List (Key × V)}, kvs.map (·.1) = ps.map (·.1) → RVs g μ H (ps.map (·.2)) (kvs.map (·.2)) →
    (mergeK kvs vs).map (·.1) = (mergeD ps more).map (·.1) ∧ RVs g μ H ((mergeD ps more).map (·.2)) ((mergeK kvs vs).map (·.2)) := by
  induction more generalizing vs with
  | nil =>
    intro ps kvs e1 r1
    cases vs with
    | nil => exact ⟨e1, r1⟩
    | cons => cases e
  | cons q more ih =>
    intro ps kvs e1 r1
    cases vs with
    | nil => cases e
    | cons w vs =>
      rw [List.map_cons, List.map_cons] at e
      injection e with e2 e3
      obtain ⟨v', r', e4, h1, h2⟩ := r
      rw [List.map_cons] at e4
      injection e4 with e5 e6
      obtain ⟨p1, p2⟩ := put_at q.1 (d := q.2) (v := w.2) (by rw [e5]; exact h1) e1 r1
      rw [← e2] at p1 p2
      have := ih (vs := vs) e3 (by rw [e6]; exact h2) (by rw [p1, e2]) (by rw [e2] at p2; rw [← e2] at p2; exact (by rw [e2] at p2 ⊢; exact p2))
      exact this
theorem pm_dispM {keys : List (Option Expr)} {values : List Expr} {ps : List ((Env → Sto → R D) × (Env → Sto → R D))} (h : PPs X pos keys values (ps.map fun q => (tOf g W q.1, tOf g W q.2))) (hall : keys.all (·.isSome) = true) (hl : keys.length = values.length) (h0 : keys ≠ []) (h15 : keys.length ≤ 15) :
    PM g W X (.Dict keys values pos) (mDispM ps) := (pe_disp h hall hl h0 h15).imp fun σ H Q ⟨μ, ρ, st, rel, p⟩ => fun t ht => by
  have S1 : RS g (μ.hide t) (upd H t (.dK [])) st := rel.sto.hide ht
  refine pairs_k (W := W) (μ := μ.hide t) (ρ := ρ) (st := st) (rel.tr (Tr.refl.hide ht) S1) (R.post_mono (R.post_bind p) (fun qs st1 q μ2 ws H2 go2 S2 rp => ?_) fun x st1 q μ2 H2 cls dd go2 S2 re => ?_)
  · have hp : t ∈ μ2.pv := by rw [go2.pv]; exact List.mem_cons_self
    obtain ⟨kvs, e1, q1⟩ := post_opt (g := g) (W := W) (σ := σ) (μ := μ) (H := H) (Rp := RV g) (Q := Q) q
    obtain ⟨hl15, q2⟩ := post_guard q1
    obtain ⟨vs, b1, b2, b3⟩ := keyPs_at rp e1
    refine ⟨go2.keep t _ (S1.pvs t List.mem_cons_self).1 upd_same, vs, b1, ?_, ?_⟩
    · have := congrArg List.length b2
      rw [List.length_map, List.length_map] at this
      omega
    · obtain ⟨m1, m2⟩ := merge_at b2 b3 (ps := []) (kvs := []) rfl rfl
      have em : μ2 = (⟨μ2.ls, μ.pv⟩ : Mu).hide t := by
        have := go2.pv
        cases μ2 with
        | mk l p =>
          have e : p = t :: μ.pv := this
          rw [e]
          rfl
      have S3 : RS g μ2 (upd H2 t (.dK (mergeK [] vs))) st1 := S2.hid hp
      have m3 := RVs.hid (o := .dK (mergeK [] vs)) hp m2
      rw [em] at S3 m3
      have S4 := hid_push (c := .dct (mergeD [] kvs)) S3 (fun z => by
        obtain ⟨_, o, e⟩ := rel.sto.pvs t z
        rw [ht] at e
        cases e) ⟨_, upd_same, m1, m3.up⟩
      refine PostG.done q2 (μ1 := (⟨μ2.ls, μ.pv⟩ : Mu).push t) ?_ S4 ⟨t, rfl, ?_⟩
      · refine ⟨?_, rfl, fun a ha => ?_, fun a o n e => ?_⟩
        · obtain ⟨ν, e⟩ := go2.ext
          exact ⟨ν ++ [t], by show μ2.ls ++ [t] = _; rw [e]; show (μ.ls ++ ν) ++ [t] = _; rw [List.append_assoc]⟩
        · rcases List.mem_append.mp ha with z | z
          · rcases go2.new a z with z | z
            · exact .inl z
            · exact .inr (none_upd z)
          · rw [List.mem_singleton.mp z]; exact .inr ht
        · rw [upd_ne (ne_of_none e ht)]
          exact go2.keep a o n (by rw [upd_ne (ne_of_none e ht)]; exact e)
      · show (μ2.ls ++ [t])[st1.length]? = _
        rw [← show μ2.ls.length = st1.length from S2.len, List.getElem?_append_right (Nat.le_refl _), Nat.sub_self]
        rfl
  · have em : μ2 = (⟨μ2.ls, μ.pv⟩ : Mu).hide t := by
      have := go2.pv
      cases μ2 with
      | mk l p =>
        have e : p = t :: μ.pv := this
        rw [e]
        rfl
    have S3 := S2
    have r3 := re
    rw [em] at S3 r3
    refine q (⟨μ2.ls, μ.pv⟩ : Mu) H2 cls dd ⟨go2.ext, rfl, fun a ha => ?_, fun a o n e => go2.keep a o n (by rw [upd_ne (ne_of_none e ht)]; exact e)⟩ S3.show' ?_
    · rcases go2.new a ha with z | z
      · exact .inl z
      · exact .inr (none_upd z)
    · obtain ⟨C, h1, h2, h3⟩ := r3
      exact ⟨C, h1, h2, h3.imp_right fun ⟨f, d, a, v, e1, e2, e3, e4⟩ => ⟨f, d, a, v, e1, e2, ⟨off_show e3.1, e3.2⟩, e4.show'⟩⟩
end
end Pl

set_option maxHeartbeats 4000000
/-! isinstance, is of flags, t[::-1], min and max of a list, sorted(set(..)), sorted({..}), a, b = x, y -/
namespace Pl
open PySem PySem.Spec PyProof.Rows L2 Hn
open PySem.W (Frag keepIn)
/-! ### isinstance -/
def tyD (st : Sto) : D → Option String
  | .non => some "NoneType"
  | .bl _ => some "bool"
  | .int _ => some "int"
  | .str _ => some "str"
  | .tup _ => some "tuple"
  | .lst _ => some "list"
  | .dct _ _ => some "dict"
  | .loc n => match st[n]? with
    | some (.lst _) => some "list"
    | some (.dct _) => some "dict"
    | some (.dcT _) => some "dict"
    | _ => none
  | _ => none
def kindB (a b : String) : Option Bool := if a = b then some true else if (a = "bool" ∧ b = "int") then some true else if a ∈ ["NoneType", "bool", "int", "str", "tuple", "list", "dict"] ∧ b ∈ ["bool", "int", "str", "tuple", "list", "dict"] then some false else none
def isiD (n : String) (d : D) (st : Sto) : R D := ofOpt (tyD st d) fun t => ofOpt (kindB t n) fun b => .ok (.bl b) st
theorem kind_ok : ∀ a ∈ ["NoneType", "bool", "int", "str", "tuple", "list", "dict"], ∀ b ∈ ["bool", "int", "str", "tuple", "list", "dict"], kitB a b = kindB a b := by decide +kernel
section
variable {g : G} {W : WX} {X : Cx} {a b c : Expr} {ma mb : Env → Sto → R D} {pos p : Pos} {σ : L2.St} {μ μ1 : Mu} {H H1 : Hp} {ρ : Env} {st : Sto}
theorem tyD_at {d : D} {x : V} {t : String} (S : RS g μ H st) (h : RV g μ H d x) (e : tyD st d = some t) : TyX g.K H x (.type t) ∧ t ∈ ["NoneType", "bool", "int", "str", "tuple", "list", "dict"] := by
  cases d with
  | non => cases e; rw [show x = V.non from h]; exact ⟨.base .non, by decide⟩
  | bl b => cases e; rw [show x = V.bl b from h]; exact ⟨.base (.bl b), by decide⟩
  | int i => cases e; rw [show x = V.int i from h]; exact ⟨.base (.int i), by decide⟩
  | str s => cases e; rw [show x = V.str s from h]; exact ⟨.base (.str s), by decide⟩
  | tup xs => obtain ⟨q, vs, rfl, k, r⟩ := h; cases e; exact ⟨.base (.tup k.2), by decide⟩
  | lst xs => obtain ⟨q, vs, rfl, k, r⟩ := h; cases e; exact ⟨.base (.lst k.2), by decide⟩
  | rol xs => cases e
  | dct ks xs => obtain ⟨q, kvs, rfl, k, _⟩ := h; cases e; exact ⟨.base (.dK k.2), by decide⟩
  | loc n =>
    obtain ⟨q, rfl, k⟩ := h
    unfold tyD at e
    simp only at e
    split at e
    · rename_i xs e2; cases e
      obtain ⟨vs, e4, r⟩ := S.at_ n _ q e2 k
      exact ⟨.base (.lst e4), by decide⟩
    · rename_i xs e2; cases e
      obtain ⟨vs, e4, r⟩ := S.at_ n _ q e2 k
      exact ⟨.base (.dK e4), by decide⟩
    · rename_i xs e2; cases e
      obtain ⟨vs, e4, r⟩ := S.at_ n _ q e2 k
      exact ⟨.base (.dT e4), by decide⟩
    · cases e
  | nam _ => cases e
  | err _ _ => cases e
theorem kind_mem {t n : String} {b : Bool} (ht : t ∈ ["NoneType", "bool", "int", "str", "tuple", "list", "dict"]) (hn : n ∈ ["bool", "int", "str", "tuple", "list", "dict"]) (e : kindB t n = some b) : kitB t n = some b := by rw [kind_ok t ht n hn, e]
theorem pm_isi {n : String} (hK : X.K = g.K) (hg : Gl X "isinstance") (hm : X.mg "isinstance" = none) (hv : bootBuiltins "isinstance" = some (.builtin "isinstance")) (ha : PM g W X a ma) (hb : PE X b (tC (.ty n))) (hn : n ∈ ["bool", "int", "str", "tuple", "list", "dict"] := by decide)
    (he : starEach [a, b] X.env = (false, eval a X.env) :: starEach [b] X.env := by rfl) (hpl : (backTo pos (starEach [b] X.env)).any (·.1) = false := by rfl) (h1 : starEach [b] X.env = (false, eval b X.env) :: starEach [] X.env := by rfl) : PM g W X (.Call (.Name "isinstance" p) [a, b] [] pos) (mUn (isiD n) ma) :=
  (pe_callB (isiK (K := g.K) hK) hg hm hv (pa_cons ha (pa_cons hb pa_nil h1) he) (by decide) (by decide) he hpl).imp fun σ H Q ⟨μ, ρ, st, rel, p⟩ => tG_bind rel p fun μ1 d st1 x H1 go1 rel1 rv1 p1 => by
    obtain ⟨t, e1, p1⟩ := post_opt p1
    obtain ⟨k, e2, p1⟩ := post_opt p1
    obtain ⟨ty, ht⟩ := tyD_at rel1.sto rv1 e1
    exact ⟨x, .ty n, _, _, k, rfl, .ty n, ty, kit_ty (kind_mem ht hn e2), PostG.now p1 rel1.sto rfl⟩
end
/-! ### is True -/
@[simp] def isBD (neg : Bool) (a b : D) (st : Sto) : R D := match a, b with
  | .bl x, .bl y => .ok (.bl (decide (x = y) ^^ neg)) st
  | _, _ => .no
section
variable {g : G} {W : WX} {X : Cx} {a b c : Expr} {ma mb : Env → Sto → R D} {pos p : Pos} {σ : L2.St} {μ μ1 : Mu} {H H1 : Hp} {ρ : Env} {st : Sto}
/-! ### t[::-1] -/
@[simp] def revD (a : D) (st : Sto) : R D := match a with
  | .tup xs => .ok (.tup xs.reverse) st
  | _ => .no
theorem rev_at {ds : List D} {vs : List V} (r : RVs g μ H ds vs) : RVs g μ H ds.reverse vs.reverse :=
  .of (by rw [List.length_reverse, List.length_reverse, r.length]) fun i d x e1 e2 => by
    have hl := r.length
    have hi : i < ds.length := by
      have := (List.getElem?_eq_some_iff.mp e1).1
      rwa [List.length_reverse] at this
    rw [List.getElem?_reverse hi] at e1
    rw [List.getElem?_reverse (by omega), hl] at e2
    obtain ⟨d', e', r⟩ := r.get e2
    rw [e1] at e'
    cases e'
    exact r
theorem pm_rev {k : Nat} {p1 p2 p3 : Pos} (hK : X.K = g.K) (ha : PM g W X a ma) : PM g W X (.Subscript a (.Slice none none (some (.UnaryOp .USub (.Constant (.int 1) k p1) p2)) p3) pos) (mUn revD ma) :=
  (pe_revT ha).imp fun σ H Q ⟨μ, ρ, st, rel, p⟩ => tG_bind rel p fun μ1 d st1 x H1 go1 rel1 rv1 p1 => by
    unfold revD at p1
    split at p1
    · obtain ⟨q, vs, rfl, k, r⟩ := rv1
      exact ⟨q, vs, rfl, SqT.of k.2, fun t ht => new_tup rel1.sto (rev_at r) p1 ht⟩
    · exact p1.elim
/-! ### min, max of a list -/
def minZ : List Int → Int
  | [] => 0
  | [x] => x
  | x :: y :: r => min x (minZ (y :: r))
def maxZ : List Int → Int
  | [] => 0
  | [x] => x
  | x :: y :: r => max x (maxZ (y :: r))
def minLD (ds : List D) (st : Sto) : R D := match ds with
  | [d] => ofOpt (itemsR st d) fun xs => ofOpt (intsD xs) fun ns => guardR (0 < ns.length) (.ok (.int (minZ ns)) st)
  | _ => .no
def maxLD (ds : List D) (st : Sto) : R D := match ds with
  | [d] => ofOpt (itemsR st d) fun xs => ofOpt (intsD xs) fun ns => guardR (0 < ns.length) (.ok (.int (maxZ ns)) st)
  | _ => .no
@[simp] theorem minLD_lst {xs : List D} {st : Sto} : minLD [.lst xs] st = ofOpt (intsD xs) fun ns => guardR (0 < ns.length) (.ok (.int (minZ ns)) st) := rfl
@[simp] theorem maxLD_lst {xs : List D} {st : Sto} : maxLD [.lst xs] st = ofOpt (intsD xs) fun ns => guardR (0 < ns.length) (.ok (.int (maxZ ns)) st) := rfl
/-! ### a, b = x, y -/
@[simp] def mPar (i j : Nat) (ms : Env → Sto → R (List D)) (ρ : Env) (st : Sto) : O := O.of (ms ρ st) ρ fun ds st1 => match ds with
  | [x, y] => .nx ((ρ.set i (some x)).set j (some y)) st1
  | _ => .no
/-! a, b, c = x, y, z -/
@[simp] def mPar3 (i j l : Nat) (ms : Env → Sto → R (List D)) (ρ : Env) (st : Sto) : O := O.of (ms ρ st) ρ fun ds st1 => match ds with
  | [x, y, z] => .nx (((ρ.set i (some x)).set j (some y)).set l (some z)) st1
  | _ => .no
end
end Pl

set_option maxHeartbeats 4000000
/-! sorted(set(xs)), sorted({e for ..}); comprehensions with two fors -/
namespace Pl
open PySem PySem.Spec PyProof.Rows L2 Hn
open PySem.W (Frag keepIn)
/-! ### each once -/
def uniq {α : Type} [DecidableEq α] : List α → List α
  | [] => []
  | x :: xs => if x ∈ xs then uniq xs else x :: uniq xs
theorem mem_uniq {α : Type} [DecidableEq α] {y : α} : ∀ {xs : List α}, y ∈ uniq xs ↔ y ∈ xs
  | [] => Iff.rfl
  | x :: xs => by
    unfold uniq
    split
    · rename_i h
      rw [mem_uniq (xs := xs), List.mem_cons]
      exact ⟨.inr, fun z => z.elim (fun e => e ▸ h) id⟩
    · rw [List.mem_cons, List.mem_cons, mem_uniq (xs := xs)]
theorem nodup_uniq {α : Type} [DecidableEq α] : ∀ xs : List α, (uniq xs).Nodup
  | [] => .nil
  | x :: xs => by
    unfold uniq
    split
    · exact nodup_uniq xs
    · rename_i h
      exact List.nodup_cons.mpr ⟨fun z => h (mem_uniq.mp z), nodup_uniq xs⟩
/-- ascending, each once -/
def sortU (ns : List Int) : List Int := sortZ (uniq ns)
theorem sortU_mem {ns : List Int} {k : Int} : k ∈ sortU ns ↔ k ∈ ns := ((sortZ_perm _).mem_iff).trans mem_uniq
theorem sortU_lt (ns : List Int) : (sortU ns).Pairwise (· < ·) := by
  have h1 := sortZ_le (uniq ns)
  have h2 : (sortZ (uniq ns)).Nodup := (sortZ_perm _).nodup_iff.mpr (nodup_uniq ns)
  exact (h1.and h2).imp fun h => by have h3 := h.1; have h4 := h.2; omega
theorem asc_uniq {xs ys : List Int} (h1 : xs.Pairwise (· < ·)) (h2 : ys.Pairwise (· < ·)) (h : ∀ k, k ∈ xs ↔ k ∈ ys) : xs = ys := by
  have n1 : xs.Nodup := h1.imp fun z => Int.ne_of_lt z
  have n2 : ys.Nodup := h2.imp fun z => Int.ne_of_lt z
  exact List.Perm.eq_of_pairwise (fun a b _ _ h1 h2 => absurd (Int.lt_trans h1 h2) (Int.lt_irrefl a)) h1 h2 ((List.perm_ext_iff_of_nodup n1 n2).mpr h)
/-- rows of ints, by their order, each once -/
def rleB (a b : List Int) : Bool := !decide (b < a)
def sortRs (rs : List (List Int)) : List (List Int) := (uniq rs).mergeSort rleB
theorem rle_trans (a b c : List Int) (h1 : rleB a b = true) (h2 : rleB b c = true) : rleB a c = true := by
  unfold rleB at *
  simp only [Bool.not_eq_true', decide_eq_false_iff_not, List.not_lt] at *
  exact List.le_trans h1 h2
theorem rle_total (a b : List Int) : (rleB a b || rleB b a) = true := by
  unfold rleB
  simp only [Bool.or_eq_true, Bool.not_eq_true', decide_eq_false_iff_not, List.not_lt]
  exact List.le_total a b
theorem sortRs_perm (rs : List (List Int)) : (sortRs rs).Perm (uniq rs) := List.mergeSort_perm _ _
theorem sortRs_mem {rs : List (List Int)} {r : List Int} : r ∈ sortRs rs ↔ r ∈ rs := ((sortRs_perm rs).mem_iff).trans mem_uniq
theorem sortRs_nodup (rs : List (List Int)) : (sortRs rs).Nodup := (sortRs_perm rs).nodup_iff.mpr (nodup_uniq rs)
theorem sortRs_pw (rs : List (List Int)) : (sortRs rs).Pairwise fun a b => ¬ b < a := (List.pairwise_mergeSort rle_trans rle_total (uniq rs)).imp fun h => by
  unfold rleB at h
  simpa using h
theorem rows_uniq {xs ys : List (List Int)} (n1 : xs.Nodup) (n2 : ys.Nodup) (h1 : xs.Pairwise fun a b => ¬ b < a) (h2 : ys.Pairwise fun a b => ¬ b < a) (h : ∀ k, k ∈ xs ↔ k ∈ ys) : xs = ys :=
  List.Perm.eq_of_pairwise (fun a b _ _ h1 h2 => List.le_antisymm (List.not_lt.mp h1) (List.not_lt.mp h2)) h1 h2 ((List.perm_ext_iff_of_nodup n1 n2).mpr h)
def rowD' (r : List Int) : D := .tup (r.map D.int)
def rowsD : List D → Option (List (List Int))
  | [] => some []
  | .tup xs :: ds => match intsD xs, rowsD ds with
    | some r, some rs => some (r :: rs)
    | _, _ => none
  | _ => none
@[simp] theorem rowsD_map : ∀ rs : List (List Int), rowsD (rs.map rowD') = some rs
  | [] => rfl
  | r :: rs => by simp only [List.map_cons, rowD', rowsD, ints_map]; rw [show rowsD (List.map rowD' rs) = some rs from rowsD_map rs]
theorem rowsD_eq : ∀ {ds : List D} {rs : List (List Int)}, rowsD ds = some rs → ds = rs.map rowD'
  | [], _, e => by cases e; rfl
  | d :: ds, _, e => by
    unfold rowsD at e
    split at e
    · cases ‹_ = []›
    · rename_i e0
      cases e0
      split at e
      · rename_i e1 e2
        cases e
        rw [rowsD_eq e2, ints_eq e1]
        rfl
      · cases e
    · cases e
def sortSetL (xs : List D) (st : Sto) : R D := match intsD xs with
  | some ns => guardR (ns.length < 64) (.ok (.lst ((sortU ns).map D.int)) st)
  | none => ofOpt (rowsD xs) fun rs => guardR ((uniq rs).length ≤ 76 ∧ ∀ r ∈ rs, r ≠ []) (.ok (.lst ((sortRs rs).map rowD')) st)
def sortSetD (d : D) (st : Sto) : R D := match d with
  | .tup xs => sortSetL xs st
  | d => ofOpt (itemsL st d) fun xs => sortSetL xs st
@[simp] theorem sortSetD_lst {xs : List D} {st : Sto} : sortSetD (.lst xs) st = sortSetL xs st := rfl
@[simp] theorem sortSetD_tup {xs : List D} {st : Sto} : sortSetD (.tup xs) st = sortSetL xs st := rfl
theorem sortSetL_ints {ns : List Int} {st : Sto} : sortSetL (ns.map D.int) st = guardR (ns.length < 64) (.ok (.lst ((sortU ns).map D.int)) st) := by simp only [sortSetL, ints_map]
section
variable {g : G} {W : WX} {X : Cx} {a b c : Expr} {ma mb : Env → Sto → R D} {pos p : Pos} {σ : L2.St} {μ μ1 : Mu} {H H1 : Hp} {ρ : Env} {st : Sto}
/-- rows on the heap, with their places -/
theorem rows_at : ∀ {rs : List (List Int)} {vs : List V}, RVs g μ H (rs.map rowD') vs → ∃ L : List (Addr × List Int), vs = L.map (fun q => V.ref q.1) ∧ L.map (·.2) = rs ∧ ∀ q ∈ L, μ.off q.1 ∧ H q.1 = some (.tup (q.2.map V.int))
  | [], _, h => ⟨[], h, rfl, fun _ z => absurd z List.not_mem_nil⟩
  | r :: rs, _, h => by
    obtain ⟨v, w, rfl, ⟨q, us, rfl, k, ru⟩, h2⟩ := h
    obtain ⟨L, rfl, e2, h3⟩ := rows_at h2
    obtain rfl := ru.ints
    refine ⟨(q, r) :: L, rfl, by rw [List.map_cons, e2], fun z hz => ?_⟩
    rcases List.mem_cons.mp hz with rfl | hz
    · exact k
    · exact h3 z hz
theorem rows_rv : ∀ {L : List (Addr × List Int)}, (∀ q ∈ L, μ.off q.1 ∧ H q.1 = some (.tup (q.2.map V.int))) → RVs g μ H ((L.map (·.2)).map rowD') (L.map fun q => V.ref q.1)
  | [], _ => rfl
  | q :: L, h => .cons ⟨q.1, _, rfl, h q List.mem_cons_self, .ofInts _⟩ (rows_rv fun z hz => h z (List.mem_cons_of_mem _ hz))
/-- set(xs), then sorted: by what the set's rule leaves -/
def rSetA (g : G) : List V → Hp → VK → Prop := fun vs H Q => rSetLI g.K g.w vs H Q ∨ rSetM g.K g.P g.w vs H Q
theorem call_setA (hP : X.prog = g.P) (hw : X.w = g.w) (hK : X.K = g.K) (hc : X.calm = true) (hu : X.A.units + 65 < cLine) : CallR X (.type "set") (rSetA g) := by
  refine orCall (cr_setLI hK hw hc) ?_
  rw [← hP, ← hw, ← hK]
  exact cr_setM hc (by omega)
def rSortA (g : G) : List V → Hp → VK → Prop := fun vs H Q => rSortedSet g.w vs H Q ∨ (rSortS g.K g.P g.w vs H Q ∨ Hn.rSortM g.K g.P g.w vs H Q)
theorem call_sortA (hP : X.prog = g.P) (hw : X.w = g.w) (hK : X.K = g.K) (hc : X.calm = true) (hu : X.A.units + 65 < cLine) : CallR X (.builtin "sorted") (rSortA g) := by
  refine orCall ?_ (orCall (sortSK hK hP hw hc (by omega)) (sortMK hK hP hw hc (by omega)))
  rw [← hw]
  exact cr_sortedSet hc
theorem pm_sortSetOf (hP : X.prog = g.P) (hw : X.w = g.w) (hK : X.K = g.K) (hc : X.calm = true) (hu : X.A.units + 65 < cLine) {p2 pos2 : Pos} (hg : Gl X "sorted") (hm : X.mg "sorted" = none) (hg2 : Gl X "set") (hm2 : X.mg "set" = none) (hv : bootBuiltins "sorted" = some (.builtin "sorted")) (hv2 : bootBuiltins "set" = some (.type "set"))
    (ha : PM g W X a ma) (h1 : starEach [a] X.env = (false, eval a X.env) :: starEach [] X.env := by rfl) (h2 : starEach [.Call (.Name "set" p2) [a] [] pos2] X.env = (false, eval (.Call (.Name "set" p2) [a] [] pos2) X.env) :: starEach [] X.env := by rfl)
    (hpl : (backTo pos2 (starEach [] X.env)).any (·.1) = false := by rfl) (hpl2 : (backTo pos (starEach [] X.env)).any (·.1) = false := by rfl) : PM g W X (.Call (.Name "sorted" p) [.Call (.Name "set" p2) [a] [] pos2] [] pos) (mUn sortSetD ma) :=
  (pe_callB (call_sortA hP hw hK hc hu) hg hm hv (pa_cons (pe_callTy (call_setA hP hw hK hc hu) hg2 hm2 hv2 (pa_cons ha pa_nil h1) (by decide) (by decide) h1 hpl) pa_nil h2) (by decide) (by decide) h2 hpl2).imp fun σ H Q ⟨μ, ρ, st, rel, p⟩ =>
    tG_bind rel p fun μ1 d st1 x H1 go1 rel1 rv1 p1 => by
      obtain ⟨xs, l, vs, rfl, k, r, p2⟩ : ∃ xs l vs, x = .ref l ∧ ((∃ o, o = HO.lst vs ∧ SqL g.K H1 l vs) ∨ SqT g.K H1 l vs) ∧ RVs g μ1 H1 xs vs ∧ PostG g W σ μ1 H1 (RV g) (sortSetL xs st1) Q := by
        by_cases hd : ∃ ys, d = .tup ys
        · obtain ⟨ys, rfl⟩ := hd
          obtain ⟨l, vs, e, q, r⟩ := rv1
          exact ⟨ys, l, vs, e, .inr (SqT.of q.2), r, p1⟩
        · have p0 : PostG g W σ μ1 H1 (RV g) (ofOpt (itemsL st1 d) fun xs => sortSetL xs st1) Q := by
            cases d with
            | tup ys => exact absurd ⟨ys, rfl⟩ hd
            | _ => exact p1
          obtain ⟨xs, e1, p2⟩ := post_opt p0
          obtain ⟨l, vs, e, k, r⟩ := itemsL_at rel1.sto rv1 e1
          exact ⟨xs, l, vs, e, .inl ⟨_, rfl, SqL.of k⟩, r, p2⟩
      unfold sortSetL at p2
      split at p2
      · rename_i ns e2
        obtain ⟨hl, p3⟩ := post_guard p2
        obtain rfl := ints_eq e2
        obtain rfl := r.ints
        refine .inl ⟨l, ns, rfl, k.imp (fun ⟨_, _, z⟩ => z) id, by omega, fun s c hs hcn _ => .inl ⟨s, _, c, rfl, upd_same, by omega, fun ys q up mem _ hq => ?_⟩⟩
        have e3 : ys = sortU ns := asc_uniq up (sortU_lt ns) fun k => ((mem k).trans decide_eq_true_iff).trans sortU_mem.symm
        rw [e3]
        have S2 := rel1.sto.side (o := SetO g.w s (fun j => decide (j ∈ ns)) c) hs
        have go2 := Go.side (o := SetO g.w s (fun j => decide (j ∈ ns)) c) rel1.sto hs
        exact new_lst S2 (.ofInts _) (PostG.base go2 p3) hq
      · obtain ⟨rs, e2, p3⟩ := post_opt p2
        obtain ⟨hl, p4⟩ := post_guard p3
        obtain rfl := rowsD_eq e2
        obtain ⟨L, rfl, rfl, hL⟩ := rows_at r
        have am : Among L (uniq (L.map (·.2))) := ⟨fun q hq => mem_uniq.mpr (List.mem_map.mpr ⟨q, hq, rfl⟩), hl.1⟩
        have kk : SqL g.K H1 l (L.map fun q => V.ref q.1) ∨ SqT g.K H1 l (L.map fun q => V.ref q.1) := k.imp (fun ⟨_, _, z⟩ => z) id
        refine .inr ⟨l, L, _, rfl, kk, fun q hq => SqT.of (hL q hq).2, am, fun s M hs hM hN => ?_⟩
        · have S2 := rel1.sto.side (o := BagO g.P g.w s M) hs
          have go2 := Go.side (o := BagO g.P g.w s M) rel1.sto hs
          refine .inr (.inr ⟨s, M, rfl, upd_same, fun q hq => SqT.of (by rw [upd_ne (ne_of_none (hL q (hM q hq)).2 hs)]; exact (hL q (hM q hq)).2), fun q hq => hl.2 _ (List.mem_map.mpr ⟨q, hM q hq, rfl⟩), fun M' q pm nd few pw hq => ?_⟩)
          have hM' : ∀ z ∈ M', μ1.off z.1 ∧ upd H1 s (BagO g.P g.w s M) z.1 = some (.tup (z.2.map V.int)) := fun z hz => by
            have z1 := hL z (hM z (pm.mem_iff.mp hz))
            exact ⟨z1.1, by rw [upd_ne (ne_of_none z1.2 hs)]; exact z1.2⟩
          have e3 : M'.map (·.2) = sortRs (L.map (·.2)) := rows_uniq nd (sortRs_nodup _) (List.pairwise_map.mpr (pw.imp fun h => h)) (sortRs_pw _) fun r => by
            rw [sortRs_mem, List.mem_map, List.mem_map]
            constructor
            · rintro ⟨z, hz, rfl⟩
              exact ⟨z, hM z (pm.mem_iff.mp hz), rfl⟩
            · rintro ⟨z, hz, rfl⟩
              obtain ⟨y, hy, e⟩ := List.mem_map.mp (hN z hz)
              exact ⟨y, pm.mem_iff.mpr hy, e⟩
          rw [← e3] at p4
          exact new_lst S2 (rows_rv hM') (PostG.base go2 p4) hq
end
end Pl

set_option maxHeartbeats 4000000
/-! sorted({e for ..}), e a row of ints -/
namespace Pl
open PySem PySem.Spec PyProof.Rows L2 Hn
open PySem.W (Frag keepIn)
def rowOf : D → Option (List Int)
  | .tup xs => intsD xs
  | _ => none
@[simp] def mRow (m : Env → Sto → R D) (ρ : Env) (st : Sto) : R D := (m ρ st).bind fun x st1 => ofOpt (rowOf x) fun r => guardR (r ≠ []) (.ok x st1)
noncomputable def mSortSet (mi : Env → Sto → R Wk) (vs : List Nat) (p : Pat) (t : Env → Sto → R Bool) (m : Env → Sto → R D) (ρ : Env) (st : Sto) : R D := (mi ρ st).bind fun it st1 => (compGo it p t (mRow m) (wipeD ρ vs) it.items st1 []).bind fun acc st2 => ofOpt (rowsD acc) fun rs => guardR (rs.length < 63) (.ok (.lst ((sortRs rs).map rowD')) st2)
section
variable {g : G} {W : WX} {X : Cx} {μ μ1 μ2 : Mu} {H H1 H2 : Hp} {st st1 : Sto} {σ : L2.St} {ρ : Env} {pt : Pat} {t : Env → Sto → R Bool} {m : Env → Sto → R D} {vs : List Nat}
/-- a set D that is made, with the rows that were put in so far -/
structure MadeS (g : G) (μ1 : Mu) (H1 : Hp) (D : Addr) (μ : Mu) (H : Hp) (st : Sto) (rs : List (List Int)) : Prop where
  pv : μ.pv = D :: μ1.pv
  go : Go μ1 H1 ⟨μ.ls, μ1.pv⟩ H
  tr : Tr g μ1 H1 μ H
  S : RS g μ H st
  set : ∃ L, H D = some (SetTO g.P g.w D L) ∧ L.length ≤ rs.length ∧ (∀ q ∈ L, μ.off q.1 ∧ H q.1 = some (.tup (q.2.map V.int))) ∧ ∀ r, r ∈ L.map (·.2) ↔ r ∈ rs
theorem MadeS.on {D : Addr} {rs : List (List Int)} (M : MadeS g μ1 H1 D μ H st rs) (x : Go μ H μ2 H2) (S : RS g μ2 H2 st1) : MadeS g μ1 H1 D μ2 H2 st1 rs := by
  obtain ⟨L, e, l, h, r⟩ := M.set
  have n := (M.S.pvs D (by rw [M.pv]; exact List.mem_cons_self)).1
  exact ⟨x.pv.trans M.pv, M.go.trans ⟨x.ext, rfl, x.new, x.keep⟩, M.tr.go x, S, L, x.keep D _ n e, l, fun q hq => ⟨x.out (h q hq).1 (h q hq).2, x.keep _ _ (h q hq).1.1 (h q hq).2⟩, r⟩
variable {mi : Env → Sto → R Wk} {elt tg iter : Expr} {ifs : List Expr} {scope : Scope} {own : List (Str × Nat)} {pos pos2 p : Pos}
end
end Pl

set_option maxHeartbeats 4000000
/-! comprehensions with two fors -/
namespace Pl
open PySem PySem.Spec PyProof.Rows L2 Hn
open PySem.W (Frag keepIn)
open Classical in
noncomputable def comp2Go (it : Wk) (p : Pat) (t : Env → Sto → R Bool) (mi1 : Env → Sto → R Wk) (vs1 : List Nat) (p1 : Pat) (t1 : Env → Sto → R Bool) (m : Env → Sto → R D) (ρ : Env) : List D → Sto → List D → R (List D)
  | [], st, acc => if it.stay st then .ok acc st else .no
  | d :: ds, st, acc => if it.stay st then ofOpt (p.set d ρ) fun ρ' => (t ρ' st).ner fun c st1 => if c = true then (mi1 ρ' st1).ner fun it1 st2 => (compGo it1 p1 t1 m (wipeD ρ' vs1) it1.items st2 acc).ner fun acc' st3 => comp2Go it p t mi1 vs1 p1 t1 m ρ ds st3 acc'
      else comp2Go it p t mi1 vs1 p1 t1 m ρ ds st1 acc else .no
noncomputable def mComp2 (mi : Env → Sto → R Wk) (vs : List Nat) (p : Pat) (t : Env → Sto → R Bool) (mi1 : Env → Sto → R Wk) (vs1 : List Nat) (p1 : Pat) (t1 : Env → Sto → R Bool) (m : Env → Sto → R D) (ρ : Env) (st : Sto) : R D :=
  (mi ρ st).bind fun it st1 => (comp2Go it p t mi1 vs1 p1 t1 m (wipeD ρ vs) it.items st1 []).bind fun acc st2 => .ok (.lst acc) st2
noncomputable def mComp2M (mi : Env → Sto → R Wk) (vs : List Nat) (p : Pat) (t : Env → Sto → R Bool) (mi1 : Env → Sto → R Wk) (vs1 : List Nat) (p1 : Pat) (t1 : Env → Sto → R Bool) (m : Env → Sto → R D) (ρ : Env) (st : Sto) : R D :=
  (mi ρ st).bind fun it st1 => (comp2Go it p t mi1 vs1 p1 t1 m (wipeD ρ vs) it.items st1 []).bind fun acc st2 => .ok (.loc st2.length) (st2 ++ [.lst acc])
section
variable {g : G} {W : WX} {X : Cx} {μ μ1 μ2 μa : Mu} {H H1 H2 Ha : Hp} {st st1 sta : Sto} {σ : L2.St} {ρ : Env} {pt pt1 : Pat} {t t1 : Env → Sto → R Bool} {m : Env → Sto → R D} {vs vs1 : List Nat} {mi1 : Env → Sto → R Wk}
theorem Tr.trans (x : Tr g μ H μ1 H1) (y : Tr g μ1 H1 μ2 H2) : Tr g μ H μ2 H2 := ⟨fun ds vs h => y.rv ds vs (x.rv ds vs h), fun n a h => y.at_ n a (x.at_ n a h), fun a o k e => by
  obtain ⟨k1, e1⟩ := x.fx a o k e
  exact y.fx a o k1 e1⟩
variable {mi : Env → Sto → R Wk} {elt tg iter tg1 iter1 : Expr} {ifs ifs1 : List Expr} {scope : Scope} {own : List (Str × Nat)} {pos : Pos}
section
variable (hc : X.calm = true) (hN : X.N.Nodup) (hi : PMI g W X tg iter mi) (ok : BlkOk X.N X.env.scope scope own) (hv : ∀ i ∈ vs1, i ∈ own.map (·.2)) (hsl : ∀ i ∈ pt.sl, i ∈ own.map (·.2)) (hsl1 : ∀ i ∈ pt1.sl, i ∈ vs1)
    (hg : ∀ (s : Shared) (H : Hp) (C : Addr) (cl : List (Str × Addr)) (fp : List Addr), PG (X.blk s H scope (compEnvC scope cl C X.env) fp) tg (gP g pt))
    (ht : ∀ (s : Shared) (H : Hp) (C : Addr) (cl : List (Str × Addr)) (fp : List Addr), PTs (X.blk s H scope (compEnvC scope cl C X.env) fp) ifs (tTOf g Wn t))
    (hi1 : ∀ (s : Shared) (H : Hp) (C : Addr) (cl : List (Str × Addr)) (fp : List Addr), PMI g Wn (X.blk s H scope (compEnvC scope cl C X.env) fp) tg1 iter1 mi1)
    (hg1 : ∀ (s : Shared) (H : Hp) (C : Addr) (cl : List (Str × Addr)) (fp : List Addr), PG (X.blk s H scope (compEnvC scope cl C X.env) fp) tg1 (gP g pt1))
    (ht1 : ∀ (s : Shared) (H : Hp) (C : Addr) (cl : List (Str × Addr)) (fp : List Addr), PTs (X.blk s H scope (compEnvC scope cl C X.env) fp) ifs1 (tTOf g Wn t1))
    (he : ∀ (s : Shared) (H : Hp) (C : Addr) (cl : List (Str × Addr)) (fp : List Addr), PM g Wn (X.blk s H scope (compEnvC scope cl C X.env) fp) elt m)
    (hs : ∀ x, foldedSetIterable iter X.env x = pure x := by intro _; rfl) (hs1 : ∀ env x, foldedSetIterable iter1 env x = pure x := by intro _ _; rfl)
include hc hN hi ok hv hsl hsl1 hg ht hi1 hg1 ht1 he hs hs1
variable {i : Nat} {y : Str} {py spos : Pos} (hy : X.N[i]? = some y) (hyl : X.env.scope.names.lookup y = some .local) (hsw : swapsWith (.ListComp elt [⟨tg, iter, ifs, 0⟩, ⟨tg1, iter1, ifs1, 0⟩] scope pos) (some (.Name y py)) spos.line X.env = pure true)
include hy hyl hsw
end
end
end Pl

set_option maxHeartbeats 4000000
/-! try with several clauses, each with or without a name -/
namespace Pl
open PySem PySem.Spec PyProof.Rows L2 Hn
open PySem.W (Frag keepIn)
/-- a clause: its class, the slot of its name, what its suite asks -/
structure Cl where
  c : Value
  nm : Option Nat
  ts : Addr → Value → Option Addr → TS
def inSlot (o : Option Nat) (a : Addr) (σ : L2.St) : L2.St := match o with
  | none => σ
  | some i => σ.set i (some (.ref a))
/-- behind the suite the name is gone -/
def cleared (o : Option Nat) (Dn : Ends) : Ends := match o with
  | none => Dn
  | some i => ⟨fun σ G => Dn.nx (σ.set i none) G, Dn.rt, fun σ G => Dn.bk (σ.set i none) G, fun σ G => Dn.ct (σ.set i none) G⟩
def wCl (K : Frag) (Wo : WX) (Dn : Ends) : List Cl → WX
  | [] => Wo
  | k :: r => fun cls d σ H => ∃ b, PySem.W.exmOne K cls k.c = some b ∧ (b = true → ∀ a, H a = none → k.ts a cls d (cleared k.nm Dn) (inSlot k.nm a σ) H) ∧ (b = false → wCl K Wo Dn r cls d σ H)
def SuiteOk (X : Cx) (ss : List Stmt) (ts : Addr → Value → Option Addr → TS) : Prop := ∀ (a : Addr) (oe : Obj) (cls : Value) (d : Option Addr) (pn : List (Addr × Obj)), Zc cls d oe → (∃ vs, oe.data = .fields vs) → PSs (X.suite a ((a, oe) :: pn)) ss (ts a cls d)
inductive ClOk (X : Cx) : List ExceptHandler → List Cl → Prop
  | nil : ClOk X [] []
  | plain {x : Str} {c : Value} {ts : Addr → Value → Option Addr → TS} {s0 : Stmt} {ss : List Stmt} {p1 p2 : Pos} {hs : List ExceptHandler} {l : List Cl} (n : Names X x c) (k : SuiteOk X (s0 :: ss) ts) (r : ClOk X hs l) : ClOk X (.ExceptHandler (some (.Name x p1)) none (s0 :: ss) p2 :: hs) (⟨c, none, ts⟩ :: l)
  | named {x y : Str} {i : Nat} {c : Value} {ts : Addr → Value → Option Addr → TS} {s0 : Stmt} {ss : List Stmt} {p1 p2 : Pos} {hs : List ExceptHandler} {l : List Cl} (n : Names X x c) (e : X.N[i]? = some y) (loc : X.env.kindOf y = some .local) (k : SuiteOk X (s0 :: ss) ts) (r : ClOk X hs l) :
      ClOk X (.ExceptHandler (some (.Name x p1)) (some y) (s0 :: ss) p2 :: hs) (⟨c, some i, ts⟩ :: l)
/-- an error that has come down in the def whose state was sI -/
structure Down (X : Cx) (pins : List (Addr × Obj)) (σ : L2.St) (H : Hp) (cls : Value) (d : Option Addr) (B : Heap) (sI : Shared) (a : Addr) (s : Shared) : Prop where
  inv : L2.Inv X pins σ H sI
  old : ∀ b o, sI.heap.get? b = some o → b ∉ frs X.stack → B.get? b = some o
  up : sI.heap.UpToSlots s.heap
  os : s.os = sI.os
  bare : AllBare s.gens
  off : H a = none
  fly : HandSPX.FlyingZ B (X.env :: X.outer) a (Zc cls d) s.heap
section
variable {X : Cx} {pins : List (Addr × Obj)} {σ : L2.St} {H : Hp} {cls : Value} {d : Option Addr} {B : Heap} {sI s : Shared} {a : Addr}
theorem Down.now (w : Down X pins σ H cls d B sI a s) : L2.Inv X pins σ H s := w.inv.landed w.old w.fly.1 w.up w.os w.bare
theorem Down.on (w : Down X pins σ H cls d B sI a s) {G : Heap} (f : HandSPX.FlyingZ B (X.env :: X.outer) a (Zc cls d) G) (u : s.heap.UpToSlots G) : Down X pins σ H cls d B sI a { s with heap := G } := ⟨w.inv, w.old, w.up.trans u, w.os, w.bare, w.off, f⟩
/-- the error's own object, apart from the frames -/
theorem Down.ob (w : Down X pins σ H cls d B sI a s) (hf : X.env.frame = some X.env.locals) : ∃ oe vs, s.heap.get? a = some oe ∧ Zc cls d oe ∧ oe.data = .fields vs ∧ a ≠ X.env.locals ∧ a ∉ X.fs := by
  obtain ⟨oe, vs, g, z, e⟩ := w.fly.there
  have apart : a ∉ frs (X.env :: X.outer) := fun hm => by
    obtain ⟨_, o, g2, no⟩ := w.fly.2.2.1.mem hm
    rw [g] at g2
    cases g2
    exact no _ e
  refine ⟨oe, vs, g, z, e, fun q => apart ?_, fun q => apart ?_⟩
  · unfold frs
    rw [List.filterMap_cons, hf, q]
    exact List.mem_cons_self
  · obtain ⟨env, m, q2⟩ := List.mem_filterMap.mp q
    exact List.mem_filterMap.mpr ⟨env, List.mem_cons_of_mem _ m, q2⟩
variable {Wo : WX} {Dn : Ends}
/-- no clause takes it: it goes on -/
theorem Down.out (w : Down X pins σ H cls d B sI a s) (hs : X.stack = X.env :: X.outer) (hf : X.env.frame = some X.env.locals) (tk : Takes X Wo) (q : Wo cls d σ H) : wpAny (model X.prog X.w) X.A (handleBy (.ref a) X.env []) (SP X pins Dn) X.xe s := by
  apply wpAny_handleBy_nil
  obtain ⟨_, _, _, oe, vs, T, oT, more, g, hz, hd, h1, _⟩ := id w.fly
  have fin : wpAny (model X.prog X.w) X.A (setFlight (.ref a) X.env.frame) (fun _ z => wpAny (model X.prog X.w) X.A (throw (.ref a) : Sem Flow) (SP X pins Dn) X.xe z) X.xe s := by
    rw [hf]
    apply HandSPX.setFlight_upZ w.fly
    intro G held u
    apply wpAny_throw
    apply tk
    refine ⟨a, B, sI, pins, σ, H, cls, d, rfl, w.inv, w.old, w.up.trans u, ?_, w.off, w.os, w.bare, q⟩
    rw [hs]
    exact .inr (.inr held)
  unfold PySem.passOn
  apply wpAny_bind
  apply wpAny_field g hd h1
  have nn : ¬ ((Value.ref T == Value.none) = true) := by simp
  rw [if_neg nn]
  first
    | exact wpAny_bind (wpAny_pure (wpAny_bind fin))
    | exact wpAny_bind fin
theorem clauses_run (hs : X.stack = X.env :: X.outer) (hf : X.env.frame = some X.env.locals) (hN : X.N.Nodup) (tk : Takes X Wo) : ∀ {hds : List ExceptHandler} {l : List Cl}, ClOk X hds l → ∀ {s : Shared}, Down X pins σ H cls d B sI a s → wCl X.K Wo Dn l cls d σ H → wpAny (model X.prog X.w) X.A (handleBy (.ref a) X.env hds) (SP X pins Dn) X.xe s := by
  have asked : ∀ {x : Str} {c : Value} {b : Bool} {np : Pos} {Q : Value → Shared → Prop} {E : Value → Shared → Prop} {s : Shared}, Names X x c → Down X pins σ H cls d B sI a s → Q c s → wpAny (model X.prog X.w) (X.A.mark (some (.ref a))) (eval (.Name x np) X.env) Q E s := by
    intro x c b np Q E s n w q
    obtain ⟨oe, vs, g, _, e, n1, n2⟩ := w.ob hf
    have S := w.now.suite g e w.off n1 n2
    rcases n with ⟨n3, n4, n5 | ⟨n5, n6, n7⟩⟩
    · exact ld_glob (X := X.suite a ((a, oe) :: (X.pn ++ pins))) S n3 n5 q n4
    · exact ld_blt (X := X.suite a ((a, oe) :: (X.pn ++ pins))) S n3 n5 n6 q n7 n4
  have looked : ∀ {c : Value} {b : Bool} {s : Shared}, Down X pins σ H cls d B sI a s → PySem.W.exmOne X.K cls c = some b → _ := fun {c b s} w e => by
    have t : PySem.W.Looks (model X.prog X.w) s.heap (typeOf (.ref a)) cls := fun A Q E z k q => by
      obtain ⟨oe, vs, g, z1, _⟩ := w.ob hf
      exact wpAny_typeOf_ref (k _ _ g) (by rw [z1.1]; exact q)
    exact PySem.W.exm_one (M := model X.prog X.w) w.now.kIn t e
  have ends : ∀ {oe : Obj} {f : Flow} {z : Shared}, X.Ok → SP (X.suite a ((a, oe) :: (X.pn ++ pins))) [] Dn f z → SP X pins Dn f z := fun {oe f z} o h => by
    have ok := fun {σ6 : L2.St} {H6 : Hp} (J : L2.Inv (X.suite a ((a, oe) :: (X.pn ++ pins))) [] σ6 H6 z) => J.unsuite (pins := pins) o
    cases f with
    | next => obtain ⟨_, _, J, q⟩ := h; exact ⟨_, _, ok J, q⟩
    | brk => obtain ⟨_, _, J, q⟩ := h; exact ⟨_, _, ok J, q⟩
    | cont => obtain ⟨_, _, J, q⟩ := h; exact ⟨_, _, ok J, q⟩
    | ret u => obtain ⟨_, _, _, J, r, q⟩ := h; exact ⟨_, _, _, ok J, r, q⟩
  intro hds l hk
  induction hk with
  | nil => exact fun w q => w.out hs hf tk q
  | @plain x c ts s0 ss p1 p2 hds l n k r ih =>
    intro s w q
    obtain ⟨b, e, yes, no⟩ := q
    apply wpAny_handleBy_cons (codeAny_handlers_test ?_) (by intro z; cases z)
    apply asked (b := b) n w
    apply (looked w e).here
    cases b with
    | false => exact ih w (no rfl)
    | true =>
      apply codeAny_handlers_suite
      apply HandSPX.lands_againZ w.fly
      intro G f u
      have w2 := w.on f u
      obtain ⟨oe, vs, g, z, e2, n1, n2⟩ := w2.ob hf
      have S := w2.now.suite g e2 w.off n1 n2
      exact wpAny_mono ((k a oe cls d (X.pn ++ pins) z ⟨_, e2⟩).run [] _ _ H _ S (yes rfl a w.off)) (fun f z h => ends w.inv.ok h) fun _ _ z => z.elim
  | @named x y i c ts s0 ss p1 p2 hds l n ei loc k r ih =>
    intro s w q
    obtain ⟨b, e, yes, no⟩ := q
    apply wpAny_handleBy_cons (codeAny_handlers_test ?_) (by intro z; cases z)
    apply asked (b := b) n w
    apply (looked w e).here
    cases b with
    | false => exact ih w (no rfl)
    | true =>
      apply codeAny_handlers_suite_as
      apply HandSPX.lands_againZ w.fly
      intro G f u
      have w2 := w.on f u
      obtain ⟨oe, vs, g, z, e2, n1, n2⟩ := w2.ob hf
      have S := w2.now.suite g e2 w.off n1 n2
      apply store_ok (X := X.suite a ((a, oe) :: (X.pn ++ pins))) (v := .ref a) S hN ei (.inl loc) rfl (fun s5 S5 => ?_) (.inr loc)
      refine wpAny_mono ((k a oe cls d (X.pn ++ pins) z ⟨_, e2⟩).run [] s5 _ H _ S5 (yes rfl a w.off)) (fun f s6 h => ?_) fun _ _ z => z.elim
      have fin : ∀ {σ6 : L2.St} {H6 : Hp} {Q : Shared → Prop}, L2.Inv (X.suite a ((a, oe) :: (X.pn ++ pins))) [] σ6 H6 s6 → (∀ s7, L2.Inv X pins (σ6.set i none) H6 s7 → Q s7) → wpAny (model X.prog X.w) X.A (do bindName X.env y .none; unbindBehindTheSuite X.env y p2) (fun _ s7 => Q s7) X.xe s6 :=
        fun {σ6 H6 Q} J q => gone_ok (J.unsuite (pins := pins) w.inv.ok) hN ei loc q
      cases f with
      | next => obtain ⟨_, _, J, q6⟩ := h; exact fin J fun s7 J7 => ⟨_, _, J7, q6⟩
      | brk => obtain ⟨_, _, J, q6⟩ := h; exact fin J fun s7 J7 => ⟨_, _, J7, q6⟩
      | cont => obtain ⟨_, _, J, q6⟩ := h; exact fin J fun s7 J7 => ⟨_, _, J7, q6⟩
      | ret u => obtain ⟨_, _, _, J, r6, q6⟩ := h; exact fin J fun s7 J7 => ⟨_, _, _, J7, r6, q6⟩
end
section
variable {X : Cx} {body : List Stmt} {h0 : ExceptHandler} {hds : List ExceptHandler} {l : List Cl} {pos : Pos} {tb : WX → TS} {Wo : WX}
/-- try: body, several clauses -/
theorem ps_tryC (hs : X.stack = X.env :: X.outer) (hf : X.env.frame = some X.env.locals) (hN : X.N.Nodup) (tk : Takes X Wo)
    (hb : ∀ (W : WX) (pn : List (Addr × Obj)) (xe : Value → Shared → Prop), Takes (X.tr pn xe) W → PassesOwn (model X.prog X.w) X.A X.env xe → PSs (X.tr pn xe) body (tb W)) (hh : ClOk X (h0 :: hds) l) :
    PS X (.Try body (h0 :: hds) [] [] pos) (fun Dn σ H => tb (wCl X.K Wo Dn l) Dn σ H) := by
  constructor
  intro pins s σ H Dn I h
  have fr : X.A.frames = some (X.env :: X.outer) := I.ok.frames.trans (congrArg some hs)
  have run := (hb (wCl X.K Wo Dn l) (X.pn ++ pins) (fun e s₁ => wpAny (model X.prog X.w) X.A (noteFrame e X.env) (fun _ s₂ => wpAny (model X.prog X.w) X.A (setFlight e none) (fun _ s₃ => wpAny (model X.prog X.w) X.A (handleBy e X.env (h0 :: hds)) (SP X pins Dn) X.xe s₃) X.xe s₂) X.xe s₁) (fun u z x => by
    obtain ⟨a, B, sI, pins2, σ2, H2, cls, d, rfl, J, nb, up, sky, na, os, ag, w⟩ := x
    rw [hs] at sky
    show wpAny (model X.prog X.w) X.A (noteFrame (.ref a) X.env) _ _ _
    exact Sky.land Zc.steady fr hf sky fun G fly u2 => clauses_run hs hf hN tk hh ⟨J.ofTry I.ok, nb, up.trans u2, os, ag, na, fly⟩ w) PassesOwn.looking).run [] s σ H Dn (I.toTry _) h
  refine wpAny_Try_except (wpAny_mono run (fun f z q => ?_) fun _ _ q => q)
  cases f with
  | next => obtain ⟨_, _, J, q⟩ := q; exact wpAny_execs_nil ⟨_, _, J.ofTry I.ok, q⟩
  | brk => obtain ⟨_, _, J, q⟩ := q; exact ⟨_, _, J.ofTry I.ok, q⟩
  | cont => obtain ⟨_, _, J, q⟩ := q; exact ⟨_, _, J.ofTry I.ok, q⟩
  | ret u => obtain ⟨_, _, _, J, r, q⟩ := q; exact ⟨_, _, _, J.ofTry I.ok, r, q⟩
end
end Pl

set_option maxHeartbeats 4000000
/-! the end: a law's def by its mirror -/
namespace Hn
open PySem PySem.Spec
/-- further built-ins' names that are not the module's -/
structure Bl2 (mg : Str → Option Value) : Prop where
  b_min : mg "min" = none
  b_max : mg "max" = none
  b_str : mg "str" = none
  b_dict : mg "dict" = none
  b_repr : mg "repr" = none
  b_reversed : mg "reversed" = none
  b_KeyError : mg "KeyError" = none
end Hn
namespace Pl
open PySem PySem.Spec PyProof.Rows L2 Hn
open PySem.W (Frag keepIn)
theorem _root_.L2.Fun.okM {P : Program} {w : World} {K : Frag} {mg : Str → Option Value} {base : Heap} {x : Str} {st : Stmt} {fa : Addr} {fd : FuncData} {N ps : List Str} {k : Nat} {m : Env → Sto → O} {h0 : Hp} (F : Fun K x x st fa fd) (b : Binds K fd ps []) (gm : mg x = some (.ref fa)) (S : FnScope N ps (defScope st))
    (hbody : ∀ (f : Addr) (cdv : Value) (A : Around) (ou : List PySem.Env) (s : Shared) (H : Hp) (E : XK), Room k (A.deeper (envOfC x (defScope st) s.heap.objs.size f cdv)) →
      PMSs ⟨P, w, K, mg, none, H⟩ (fun c d _ H => E c d H) (cxOf (L2.CX P w) P w K mg base N x (defScope st) f cdv A ou s H E) (defBody st) m) :
    FnOk P w K mg base (L2.CX P w) (k + 1) fa fd ps (spM ⟨P, w, K, mg, none, h0⟩ (mDef ps.length N.length m)) := by
  refine F.okX S (fun vs H Q E h => ?_) (fun cdv A ou s H vs Q E hr h => ⟨_, hbody fa cdv A ou s H E hr, ?_⟩)
  · obtain ⟨μ, st, ds, S, r, p⟩ := h
    rw [r.length]
    unfold mDef at p
    split at p
    · assumption
    · exact p.elim
  · obtain ⟨μ, st, ds, S, r, p⟩ := h
    unfold mDef at p
    split at p
    · rename_i hl
      have S1 : RS ⟨P, w, K, mg, none, H⟩ μ H st := RS.swap S fun _ e => e
      have bk : ∀ {μ' : Mu} {H' : Hp} {st' : Sto}, RS ⟨P, w, K, mg, none, H⟩ μ' H' st' → RS ⟨P, w, K, mg, none, h0⟩ μ' H' st' := fun S' => RS.swap S' fun a e => S.old a (S'.old a e)
      refine ⟨μ, _, st, rel_start S1 (RVs.swap r), ?_⟩
      rw [hl]
      cases hm : m (ds.map some ++ List.replicate (N.length - ps.length) none) st with
      | nx ρ' st' =>
        rw [hm] at p
        exact fun μ' σ' H' x rel => gc_ok S p x (bk rel.sto) rfl
      | rt d st' =>
        rw [hm] at p
        exact fun μ' v H' x S' rv => gc_ok S p x (bk S') (RV.swap rv)
      | er e ρ' st' =>
        rw [hm] at p
        exact fun μ' σ' H' cls dd x rel re => gc_er S p x (bk rel.sto) (RErr.swap re)
      | bk ρ' st' => rw [hm] at p; exact p.elim
      | ct ρ' st' => rw [hm] at p; exact p.elim
      | no => rw [hm] at p; exact p.elim
    · exact p.elim
/-- what a law promises -/
def spLaw (K : Frag) : Sp := fun vs H Q _ => ∃ (a : Addr) (ns : List Int), vs = [.ref a] ∧ SqL K H a (ns.map V.int) ∧ ns.length ≤ 63 ∧ ∀ H', Q (.bl true) H'
theorem sp_law {P : Program} {w : World} {K : Frag} {mg : Str → Option Value} {f : List D → Sto → R D} (math : ∀ ns : List Int, ns.length ≤ 63 → ∃ st, f [.rol (ns.map .int)] [] = .ok (.bl true) st) (vs : List V) (H : Hp) (Q : VK) (E : XK) (h : spLaw K vs H Q E) : spM ⟨P, w, K, mg, none, H0⟩ f vs H Q E := by
  obtain ⟨a, ns, rfl, hS, hl, q⟩ := h
  obtain ⟨st, e⟩ := math ns hl
  refine ⟨⟨[], []⟩, [], [.rol (ns.map .int)], ⟨rfl, List.nodup_nil, fun n c a e _ => (by cases e), fun a h => (by cases h), fun _ _ => rfl⟩, RVs.one ⟨a, _, rfl, ?_, RVs.ofInts ns⟩, ?_⟩
  · rcases hS with h | h
    · exact .inl ⟨⟨List.not_mem_nil, List.not_mem_nil⟩, h⟩
    · exact .inr (.inr h)
  · rw [e]
    intro μ' v H' _ _ r
    cases (show v = .bl true from r)
    exact q H'
theorem cx_no {P : Program} (w : World) (H : Hp) (s : Shared) (e : Value) (s' : Shared) (h : L2.CX P w [] H s (fun _ _ _ => False) e s') : False := by
  obtain ⟨_, _, _, _, _, _, _, _, _, _, _, _, z⟩ := h
  exact z
/-- the law's promise by its mirror -/
theorem law_fn {P : Program} {w : World} {K : Frag} {mg : Str → Option Value} {base : Heap} {k : Nat} {fa : Addr} {fd : FuncData} {x : Str} {f : List D → Sto → R D} (F : FnOk P w K mg base (L2.CX P w) k fa fd [x] (spM ⟨P, w, K, mg, none, H0⟩ f))
    (math : ∀ ns : List Int, ns.length ≤ 63 → ∃ st, f [.rol (ns.map .int)] [] = .ok (.bl true) st) : FnOk P w K mg base (L2.CX P w) k fa fd [x] (spLaw K) := F.imp (fun vs H Q E => sp_law math vs H Q E)
end Pl

set_option maxHeartbeats 4000000
/-! xs.remove(d), d some data that is in xs -/
namespace Pl
open PySem PySem.Spec PyProof.Rows L2 Hn
open PySem.W (Frag keepIn)
section
variable {g : G} {W : WX} {X : Cx} {μ μ1 μ2 : Mu} {H H1 H2 : Hp} {st st1 : Sto} {σ : L2.St} {ρ : Env}
end
end Pl

set_option maxHeartbeats 4000000
/-! sorted(xs, reverse=True) of data; shifts and bits -/
namespace Pl
open PySem PySem.Spec PyProof.Rows L2 Hn
open PySem.W (Frag keepIn)
section
variable {g : G} {W : WX} {X : Cx} {μ μ1 : Mu} {H H1 : Hp} {st st1 : Sto} {σ : L2.St} {ρ : Env} {e : Expr} {ms : Env → Sto → R (List D)} {p p2 p3 pos : Pos}
end
end Pl
namespace Pl
open PySem PySem.Spec PyProof.Rows L2 Hn
open PySem.W (Frag keepIn)
/-! d.get(k), d.get(k, x) -/
@[simp] def mGet (ma mb : Env → Sto → R D) (ρ : Env) (st : Sto) : R D := (ma ρ st).bind fun x st1 => guardR (isDct st1 x = true) ((mb ρ st1).bind fun y st2 => ofOpt (dlook st2 x y) fun o => .ok (o.getD .non) st2)
@[simp] def mGet2 (ma mb mc : Env → Sto → R D) (ρ : Env) (st : Sto) : R D := (ma ρ st).bind fun x st1 => guardR (isDct st1 x = true) ((mb ρ st1).bind fun y st2 => (mc ρ st2).bind fun z st3 => ofOpt (dlook st3 x y) fun o => .ok (o.getD z) st3)
section
variable {g : G} {W : WX} {X : Cx} {μ μ1 : Mu} {H H1 : Hp} {st st1 : Sto} {σ : L2.St} {ρ : Env} {o e f : Expr} {ma mb mc : Env → Sto → R D} {apos cpos : Pos}
theorem RO.getD {o : Option D} {ov : Option V} {d : D} {v : V} (h : RO g μ H o ov) (k : RV g μ H d v) : RV g μ H (o.getD d) (ov.getD v) := by
  cases o <;> cases ov <;> first
    | exact k
    | exact h
    | exact h.elim
/-! shifts, bits -/
def shlD (a b : D) (st : Sto) : R D := match a, b with
  | .int i, .int j => guardR (0 ≤ j ∧ j ≤ 1000 ∧ i.natAbs < 18446744073709551616) (.ok (.int (i * 2 ^ j.toNat)) st)
  | _, _ => .no
def bandD (a b : D) (st : Sto) : R D := match a, b with
  | .int i, .int j => .ok (.int (Builtin.bitAnd i j)) st
  | _, _ => .no
def borD (a b : D) (st : Sto) : R D := match a, b with
  | .int i, .int j => .ok (.int (Builtin.bitOr i j)) st
  | _, _ => .no
end
end Pl

set_option maxHeartbeats 4000000
/-! try, by data: what the suites say of the error in hand -/
namespace Pl
open PySem PySem.Spec PyProof.Rows L2 Hn EF
open PySem.W (Frag keepIn)
mutual
/-- no error is named -/
def NoEr : D → Prop
  | .tup xs => NoErs xs
  | .lst xs => NoErs xs
  | .rol xs => NoErs xs
  | .dct _ xs => NoErs xs
  | .err _ _ => False
  | _ => True
def NoErs : List D → Prop
  | [] => True
  | d :: ds => NoEr d ∧ NoErs ds
end
def NoErC : C → Prop
  | .lst xs => NoErs xs
  | .dct kvs => NoErs (kvs.map (·.2))
  | .dcT kvs => NoErs (kvs.map (·.2))
  | .set xs => NoErs xs
  | .ins _ fs => NoErs (fs.map (·.2))
theorem noErs_ints : ∀ ns : List Int, NoErs (ns.map D.int)
  | [] => True.intro
  | i :: ns => ⟨True.intro, noErs_ints ns⟩
/-- with an error in hand -/
abbrev G.inE (g : G) (a : Addr) (dd : Option Addr) : G := { g with ea := some (a, dd) }
section
variable {g : G} {W : WX} {X : Cx} {σ σ' : L2.St} {μ μ' : Mu} {H H' : Hp} {ρ ρ' : Env} {st st' : Sto} {a : Addr} {dd : Option Addr}
mutual
theorem RV.inE (h0 : g.ea = none) : ∀ {d : D} {v : V}, RV g μ H d v → RV (g.inE a dd) μ H d v
  | .non, _, h => h
  | .bl _, _, h => h
  | .int _, _, h => h
  | .str _, _, h => h
  | .tup xs, _, h => by obtain ⟨b, vs, e, q, r⟩ := h; exact ⟨b, vs, e, q, RVs.inE h0 r⟩
  | .lst xs, _, h => by obtain ⟨b, vs, e, q, r⟩ := h; exact ⟨b, vs, e, q, RVs.inE h0 r⟩
  | .rol xs, _, h => by obtain ⟨b, vs, e, q, r⟩ := h; exact ⟨b, vs, e, q, RVs.inE h0 r⟩
  | .dct ks xs, _, h => by obtain ⟨b, vs, e, q, k, r⟩ := h; exact ⟨b, vs, e, q, k, RVs.inE h0 r⟩
  | .loc n, _, h => h
  | .nam _, _, h => h
  | .err _ _, _, h => by obtain ⟨_, _, _, ⟨_, e, _⟩, _⟩ := h; rw [h0] at e; cases e
theorem RVs.inE (h0 : g.ea = none) : ∀ {ds : List D} {vs : List V}, RVs g μ H ds vs → RVs (g.inE a dd) μ H ds vs
  | [], _, h => h
  | d :: ds, _, h => by obtain ⟨v, r, e, h1, h2⟩ := h; exact ⟨v, r, e, RV.inE h0 h1, RVs.inE h0 h2⟩
end
mutual
theorem RV.outE : ∀ {d : D} {v : V}, RV (g.inE a dd) μ H d v → NoEr d → RV g μ H d v
  | .non, _, h, _ => h
  | .bl _, _, h, _ => h
  | .int _, _, h, _ => h
  | .str _, _, h, _ => h
  | .tup xs, _, h, n => by obtain ⟨b, vs, e, q, r⟩ := h; exact ⟨b, vs, e, q, RVs.outE r n⟩
  | .lst xs, _, h, n => by obtain ⟨b, vs, e, q, r⟩ := h; exact ⟨b, vs, e, q, RVs.outE r n⟩
  | .rol xs, _, h, n => by obtain ⟨b, vs, e, q, r⟩ := h; exact ⟨b, vs, e, q, RVs.outE r n⟩
  | .dct ks xs, _, h, n => by obtain ⟨b, vs, e, q, k, r⟩ := h; exact ⟨b, vs, e, q, k, RVs.outE r n⟩
  | .loc _, _, h, _ => h
  | .nam _, _, h, _ => h
  | .err _ _, _, _, n => n.elim
theorem RVs.outE : ∀ {ds : List D} {vs : List V}, RVs (g.inE a dd) μ H ds vs → NoErs ds → RVs g μ H ds vs
  | [], _, h, _ => h
  | d :: ds, _, h, n => by obtain ⟨v, r, e, h1, h2⟩ := h; exact ⟨v, r, e, RV.outE h1 n.1, RVs.outE h2 n.2⟩
end
mutual
theorem RV.noE (h0 : g.ea = none) : ∀ {d : D} {v : V}, RV g μ H d v → NoEr d
  | .non, _, _ => True.intro
  | .bl _, _, _ => True.intro
  | .int _, _, _ => True.intro
  | .str _, _, _ => True.intro
  | .tup xs, _, h => by obtain ⟨_, _, _, _, r⟩ := h; exact RVs.noE h0 r
  | .lst xs, _, h => by obtain ⟨_, _, _, _, r⟩ := h; exact RVs.noE h0 r
  | .rol xs, _, h => by obtain ⟨_, _, _, _, r⟩ := h; exact RVs.noE h0 r
  | .dct ks xs, _, h => by obtain ⟨_, _, _, _, _, r⟩ := h; exact RVs.noE h0 r
  | .loc _, _, _ => True.intro
  | .nam _, _, _ => True.intro
  | .err _ _, _, h => by obtain ⟨_, _, _, ⟨_, e, _⟩, _⟩ := h; rw [h0] at e; cases e
theorem RVs.noE (h0 : g.ea = none) : ∀ {ds : List D} {vs : List V}, RVs g μ H ds vs → NoErs ds
  | [], _, _ => True.intro
  | d :: ds, _, h => by obtain ⟨_, _, _, h1, h2⟩ := h; exact ⟨RV.noE h0 h1, RVs.noE h0 h2⟩
end
theorem RC.inE (h0 : g.ea = none) {b : Addr} {c : C} (h : RC g μ H b c) : RC (g.inE a dd) μ H b c := by
  cases c with
  | lst xs => obtain ⟨vs, e, r⟩ := h; exact ⟨vs, e, r.inE h0⟩
  | dct xs => obtain ⟨vs, e, q, r⟩ := h; exact ⟨vs, e, q, r.inE h0⟩
  | dcT xs => obtain ⟨vs, e, q, r⟩ := h; exact ⟨vs, e, q, r.inE h0⟩
  | set xs => exact h
  | ins c fs => obtain ⟨C, dx, gs, e, q, r⟩ := h; exact ⟨C, dx, gs, e, q, r.1, r.2.inE h0⟩
theorem RC.outE {b : Addr} {c : C} (h : RC (g.inE a dd) μ H b c) (n : NoErC c) : RC g μ H b c := by
  cases c with
  | lst xs => obtain ⟨vs, e, r⟩ := h; exact ⟨vs, e, r.outE n⟩
  | dct xs => obtain ⟨vs, e, q, r⟩ := h; exact ⟨vs, e, q, r.outE n⟩
  | dcT xs => obtain ⟨vs, e, q, r⟩ := h; exact ⟨vs, e, q, r.outE n⟩
  | set xs => exact h
  | ins c fs => obtain ⟨C, dx, gs, e, q, r⟩ := h; exact ⟨C, dx, gs, e, q, r.1, r.2.outE n⟩
theorem RC.noE (h0 : g.ea = none) {b : Addr} {c : C} (h : RC g μ H b c) : NoErC c := by
  cases c with
  | lst xs => obtain ⟨_, _, r⟩ := h; exact r.noE h0
  | dct xs => obtain ⟨_, _, _, r⟩ := h; exact r.noE h0
  | dcT xs => obtain ⟨_, _, _, r⟩ := h; exact r.noE h0
  | set xs => obtain ⟨ns, e, _, _⟩ := h; subst e; exact noErs_ints ns
  | ins c fs => obtain ⟨_, _, _, _, _, r⟩ := h; exact r.2.noE h0
theorem RS.inE (h0 : g.ea = none) (S : RS g μ H st) : RS (g.inE a dd) μ H st := ⟨S.len, S.nd, fun n c b e1 e2 => (S.at_ n c b e1 e2).inE h0, S.pvs, S.old⟩
/-- what is new names no error -/
def ClnS (st st' : Sto) : Prop := ∀ (n : Nat) (c : C), st'[n]? = some c → st[n]? = some c ∨ NoErC c
def ClnE (i : Nat) (ρ ρ' : Env) : Prop := ∀ (j : Nat) (d : D), j ≠ i → ρ'[j]? = some (some d) → ρ[j]? = some (some d) ∨ NoEr d
theorem RS.outE (h0 : g.ea = none) (S0 : RS g μ H st) (S : RS (g.inE a dd) μ' H' st') (k : ClnS st st') : RS g μ' H' st' := ⟨S.len, S.nd, fun n c b e1 e2 => (S.at_ n c b e1 e2).outE ((k n c e1).elim (fun z => by
  obtain ⟨_, _, r⟩ := S0.addr z
  exact r.noE h0) id), S.pvs, S.old⟩
theorem Rel.inE (h0 : g.ea = none) (r : Rel g μ σ H ρ st) : Rel (g.inE a dd) μ σ H ρ st := ⟨r.len, fun i d e => by
  obtain ⟨v, h1, h2⟩ := r.slot i d e
  exact ⟨v, h1, h2.inE h0⟩, r.sto.inE h0⟩
theorem Rel.outE (h0 : g.ea = none) {i : Nat} (r0 : Rel g μ σ H ρ st) (r : Rel (g.inE a dd) μ' σ' H' ρ' st') (k1 : ClnE i ρ ρ') (k2 : ClnS st st') : Rel g μ' (σ'.set i none) H' (ρ'.set i none) st' := by
  refine ⟨by rw [List.length_set, List.length_set, r.len], fun j d e => ?_, r0.sto.outE h0 r.sto k2⟩
  by_cases z : j = i
  · subst z
    by_cases hj : j < ρ'.length
    · rw [List.getElem?_set_self hj] at e; cases e
    · rw [List.getElem?_eq_none_iff.mpr (by rw [List.length_set]; omega)] at e; cases e
  · rw [List.getElem?_set_ne (Ne.symm z)] at e
    obtain ⟨v, h1, h2⟩ := r.slot j d e
    refine ⟨v, by rw [List.getElem?_set_ne (Ne.symm z)]; exact h1, h2.outE ?_⟩
    rcases k1 j d z e with q | q
    · obtain ⟨_, _, q2⟩ := r0.slot j d q
      exact q2.noE h0
    · exact q
end
/-- an error as a datum -/
def erD (e : Er) : D := match e.fs with
  | [] => .err "" []
  | (f, d) :: _ => .err f [d]
/-- a clause: which classes it takes, the slot of its name, its suite -/
structure MCl where
  tb : List (Str × Bool)
  nm : Option Nat
  sb : Er → Env → Sto → O
open Classical in
noncomputable def endE (i : Nat) (ρ : Env) (st : Sto) (o : O) : O := match o with
  | .nx ρ' st' => if ClnE i ρ ρ' ∧ ClnS st st' then .nx (ρ'.set i none) st' else .no
  | .bk ρ' st' => if ClnE i ρ ρ' ∧ ClnS st st' then .bk (ρ'.set i none) st' else .no
  | .ct ρ' st' => if ClnE i ρ ρ' ∧ ClnS st st' then .ct (ρ'.set i none) st' else .no
  | .rt d st' => if NoEr d ∧ ClnS st st' then .rt d st' else .no
  | _ => .no
def endP (o : O) : O := match o with
  | .er _ _ _ => .no
  | o => o
noncomputable def mTryC : List MCl → Er → Env → Sto → O
  | [], e, ρ, st => .er e ρ st
  | k :: r, e, ρ, st => match k.tb.lookup e.cls with
    | some true => (match k.nm with
      | none => endP (k.sb e ρ st)
      | some i => endE i ρ st (k.sb e (ρ.set i (some (erD e))) st))
    | some false => mTryC r e ρ st
    | none => .no
noncomputable def mTry (b : Env → Sto → O) (l : List MCl) (ρ : Env) (st : Sto) : O := match b ρ st with
  | .er e ρ' st' => mTryC l e ρ' st'
  | o => o
/-- the class of the error in hand -/
def InCl (g : G) (e : Er) (cls : Value) (d : Option Addr) : Prop := ∃ C, g.mg e.cls = some (.ref C) ∧ cls = .ref C ∧ (d = none → e.fs = [])
/-- a table tells which classes are of the class c -/
def TbOk (K : Frag) (mg : Str → Option Value) (tb : List (Str × Bool)) (c : Value) : Prop := ∀ n b, tb.lookup n = some b → ∀ C, mg n = some (.ref C) → PySem.W.exmOne K (.ref C) c = some b
theorem tb_nil {K : Frag} {mg : Str → Option Value} {c : Value} : TbOk K mg [] c := fun n b e => by cases e
theorem tb_cons {K : Frag} {mg : Str → Option Value} {c : Value} {x : Str} {k : Bool} {tb : List (Str × Bool)} {D : Addr} (gD : mg x = some (.ref D)) (e : PySem.W.exmOne K (.ref D) c = some k) (r : TbOk K mg tb c) : TbOk K mg ((x, k) :: tb) c := fun n b h C hC => by
  by_cases z : n = x
  · subst z
    rw [List.lookup_cons_self] at h
    cases h
    rw [gD] at hC
    cases hC
    exact e
  · rw [List.lookup_cons, beq_false_of_ne z] at h
    exact r n b h C hC
inductive MOk (g : G) (X : Cx) : List ExceptHandler → List MCl → Prop
  | nil : MOk g X [] []
  | plain {x : Str} {c : Value} {s0 : Stmt} {ss : List Stmt} {p1 p2 : Pos} {hs : List ExceptHandler} {l : List MCl} {tb : List (Str × Bool)} {sb : Er → Env → Sto → O} (n : Names X x c) (t : TbOk g.K g.mg tb c)
      (k : ∀ (a : Addr) (oe : Obj) (cls : Value) (d : Option Addr) (pn : List (Addr × Obj)) (e : Er), Zc cls d oe → (∃ vs, oe.data = .fields vs) → InCl g e cls d → PMSs g Wn (X.suite a ((a, oe) :: pn)) (s0 :: ss) (sb e)) (r : MOk g X hs l) : MOk g X (.ExceptHandler (some (.Name x p1)) none (s0 :: ss) p2 :: hs) (⟨tb, none, sb⟩ :: l)
  | named {x y : Str} {i : Nat} {c : Value} {s0 : Stmt} {ss : List Stmt} {p1 p2 : Pos} {hs : List ExceptHandler} {l : List MCl} {tb : List (Str × Bool)} {sb : Er → Env → Sto → O} (n : Names X x c) (t : TbOk g.K g.mg tb c) (ei : X.N[i]? = some y) (loc : X.env.kindOf y = some .local)
      (k : ∀ (a : Addr) (oe : Obj) (cls : Value) (d : Option Addr) (pn : List (Addr × Obj)) (e : Er), Zc cls d oe → (∃ vs, oe.data = .fields vs) → InCl g e cls d → PMSs (g.inE a d) Wn (X.suite a ((a, oe) :: pn)) (s0 :: ss) (sb e)) (r : MOk g X hs l) : MOk g X (.ExceptHandler (some (.Name x p1)) (some y) (s0 :: ss) p2 :: hs) (⟨tb, some i, sb⟩ :: l)
section
variable {g : G} {W : WX} {X : Cx} {σ : L2.St} {μ : Mu} {H : Hp} {ρ : Env} {st : Sto}
theorem erD_at {er : Er} {cls : Value} {dd : Option Addr} {a : Addr} (h0 : g.ea = none) (h : RErr g μ H er cls dd) : RV (g.inE a dd) μ H (erD er) (.ref a) := by
  obtain ⟨C, h1, h2, h3⟩ := h
  rcases h3 with ⟨e1, rfl⟩ | ⟨f, d, b, v, e1, rfl, e3, e4⟩
  · unfold erD
    rw [e1]
    exact ⟨a, [], rfl, ⟨none, rfl, fun b z => by cases z⟩, rfl⟩
  · unfold erD
    rw [e1]
    exact ⟨a, [v], rfl, ⟨some b, rfl, fun c z => by cases z; exact e3⟩, .one (e4.inE h0)⟩
theorem clauses_by (hK : X.K = g.K) (h0 : g.ea = none) : ∀ {hds : List ExceptHandler} {l : List MCl}, MOk g X hds l → ∃ cl, ClOk X hds cl ∧ ∀ {Wo : WX} {Dn : Ends} {er : Er} {μ : Mu} {ρ : Env} {st : Sto} {σ : L2.St} {H : Hp} {cls : Value} {d : Option Addr}, Rel g μ σ H ρ st → RErr g μ H er cls d → PostS g Wo μ H (mTryC l er ρ st) Dn → wCl X.K Wo Dn cl cls d σ H := by
  intro hds l h
  induction h with
  | nil => exact ⟨[], .nil, fun rel re p => p _ _ _ _ _ Go.refl rel re⟩
  | @plain x c s0 ss p1 p2 hs l tb sb n t k r ih =>
    obtain ⟨cl, ok, ih⟩ := ih
    refine ⟨⟨c, none, fun a cls d => fun Dn σ H => ∃ er, InCl g er cls d ∧ tS g Wn (sb er) Dn σ H⟩ :: cl, .plain n (fun a oe cls d pn hz hf => ⟨fun pins s σ H Dn I ⟨er, hc, q⟩ => (k a oe cls d pn er hz hf hc).run pins s σ H Dn I q⟩) ok, ?_⟩
    intro Wo Dn er μ ρ st σ H cls d rel re p
    obtain ⟨C, h1, rfl, h3⟩ := id re
    unfold mTryC at p
    simp only at p
    cases e : tb.lookup er.cls with
    | none => rw [e] at p; exact p.elim
    | some b =>
      rw [e] at p
      refine ⟨b, by rw [hK]; exact t _ _ e _ h1, fun hb a _ => ?_, fun hb => ?_⟩
      · subst hb
        refine ⟨er, ⟨C, h1, rfl, fun z => by
          rcases h3 with ⟨z2, _⟩ | ⟨_, _, _, _, _, z2, _⟩
          · exact z2
          · rw [z] at z2; cases z2⟩, μ, ρ, st, rel, ?_⟩
        simp only at p
        show PostS g Wn μ H (sb er ρ st) Dn
        cases e2 : sb er ρ st with
        | er x ρ' st' => rw [e2] at p; exact p.elim
        | no => rw [e2] at p; exact p.elim
        | _ => rw [e2] at p; exact p
      · subst hb
        exact ih rel re p
  | @named x y i c s0 ss p1 p2 hs l tb sb n t ei loc k r ih =>
    obtain ⟨cl, ok, ih⟩ := ih
    refine ⟨⟨c, some i, fun a cls d => fun Dn σ H => ∃ er, InCl g er cls d ∧ tS (g.inE a d) Wn (sb er) Dn σ H⟩ :: cl, .named n ei loc (fun a oe cls d pn hz hf => ⟨fun pins s σ H Dn I ⟨er, hc, q⟩ => (k a oe cls d pn er hz hf hc).run pins s σ H Dn I q⟩) ok, ?_⟩
    intro Wo Dn er μ ρ st σ H cls d rel re p
    obtain ⟨C, h1, rfl, h3⟩ := id re
    unfold mTryC at p
    simp only at p
    cases e : tb.lookup er.cls with
    | none => rw [e] at p; exact p.elim
    | some b =>
      rw [e] at p
      refine ⟨b, by rw [hK]; exact t _ _ e _ h1, fun hb a _ => ?_, fun hb => ?_⟩
      · subst hb
        refine ⟨er, ⟨C, h1, rfl, fun z => by
          rcases h3 with ⟨z2, _⟩ | ⟨_, _, _, _, _, z2, _⟩
          · exact z2
          · rw [z] at z2; cases z2⟩, μ, ρ.set i (some (erD er)), st, (rel.inE h0).set (erD_at h0 re), ?_⟩
        simp only at p
        show PostS (g.inE a d) Wn μ H (sb er (ρ.set i (some (erD er))) st) (cleared (some i) Dn)
        cases e2 : sb er (ρ.set i (some (erD er))) st with
        | er x ρ' st' => rw [e2] at p; exact p.elim
        | no => rw [e2] at p; exact p.elim
        | nx ρ' st' =>
          rw [e2] at p
          unfold endE at p
          simp only at p
          split at p
          · rename_i kk
            exact fun μ' σ' H' go rel' => p μ' _ H' go (rel.outE h0 rel' kk.1 kk.2)
          · exact p.elim
        | bk ρ' st' =>
          rw [e2] at p
          unfold endE at p
          simp only at p
          split at p
          · rename_i kk
            exact fun μ' σ' H' go rel' => p μ' _ H' go (rel.outE h0 rel' kk.1 kk.2)
          · exact p.elim
        | ct ρ' st' =>
          rw [e2] at p
          unfold endE at p
          simp only at p
          split at p
          · rename_i kk
            exact fun μ' σ' H' go rel' => p μ' _ H' go (rel.outE h0 rel' kk.1 kk.2)
          · exact p.elim
        | rt v st' =>
          rw [e2] at p
          unfold endE at p
          simp only at p
          split at p
          · rename_i kk
            exact fun μ' v' H' go S' rv => p μ' v' H' go (rel.sto.outE h0 S' kk.2) (rv.outE kk.1)
          · exact p.elim
      · subst hb
        exact ih rel re p
variable {body : List Stmt} {hd0 : ExceptHandler} {hds : List ExceptHandler} {l : List MCl} {pos : Pos} {mb : Env → Sto → O}
theorem pms_try (hK : X.K = g.K) (h0 : g.ea = none) (hs : X.stack = X.env :: X.outer) (hf : X.env.frame = some X.env.locals) (hN : X.N.Nodup) (tk : Takes X W)
    (hb : ∀ (W : WX) (pn : List (Addr × Obj)) (xe : Value → Shared → Prop), Takes (X.tr pn xe) W → PassesOwn (model X.prog X.w) X.A X.env xe → PMSs g W (X.tr pn xe) body mb) (hh : MOk g X (hd0 :: hds) l) :
    PMS g W X (.Try body (hd0 :: hds) [] [] pos) (mTry mb l) := by
  obtain ⟨cl, ok, by_⟩ := clauses_by hK h0 hh
  refine (ps_tryC (Wo := W) hs hf hN tk (tb := fun W => tS g W mb) hb ok).imp fun Dn σ H ⟨μ, ρ, st, rel, p⟩ => ⟨μ, ρ, st, rel, ?_⟩
  unfold mTry at p
  cases e : mb ρ st with
  | er x ρ' st' =>
    rw [e] at p
    exact fun μ' σ' H' cls dd go rel' re => by_ rel' re (PostS.base go p)
  | no => rw [e] at p; exact p.elim
  | _ => rw [e] at p; exact p
end
/-- isinstance(e, c) -/
def mErrIs (e : Er) (tb : List (Str × Bool)) (i : Nat) (ρ : Env) (st : Sto) : R D := match ρ[i]? with
  | some (some (.err _ _)) => (match tb.lookup e.cls with
    | some b => .ok (.bl b) st
    | none => .no)
  | _ => .no
section
variable {g : G} {W : WX} {X : Cx} {a : Addr} {oe : Obj} {cls : Value} {d : Option Addr} {pn : List (Addr × Obj)} {er : Er} {i : Nat} {ee : Expr} {pos p : Pos}
/-- the error in hand as the library's readings want it: its dict too, if it has one -/
theorem inHand {D : Addr} {pins : List (Addr × Obj)} {σ : L2.St} {H : Hp} {s : Shared} (hz : Zc (.ref D) d oe) (hf : ∃ vs, oe.data = .fields vs) (I : L2.Inv (X.suite a ((a, oe) :: pn)) pins σ H s) (dk : ∀ x, d = some x → ∃ fs, H x = some (exd x fs)) :
    ∃ od, PySem.W.InstAt s.heap a oe D od ∧ ∀ x fs, d = some x → H x = some (exd x fs) → ∃ o, od = some o ∧ ∀ f v, fs.lookup f = some v → ∃ u, PySem.W.lookIn f o = some (some u) ∧ RelV v u := by
  have there := (I.pin (a, oe) (List.mem_append.mpr (.inl (List.mem_cons.mpr (.inl rfl))))).1
  have nc : PySem.W.notCls oe = true := by
    obtain ⟨vs, e⟩ := hf
    simp only [PySem.W.notCls, e]
  cases hd : d with
  | none => exact ⟨none, ⟨there, hz.1, nc, by simp only [hz.2, hd]⟩, fun x fs e => by cases e⟩
  | some x =>
    obtain ⟨fs0, e0⟩ := dk x hd
    have at0 := exd_at I.hok e0
    obtain ⟨m0, n0, _⟩ := at0
    obtain ⟨o, ho, look⟩ := lookIn_ns n0
    refine ⟨some o, ⟨there, hz.1, nc, by simp only [hz.2, hd]; exact ho⟩, fun y fs e1 e2 => ⟨o, rfl, fun f v hv => ?_⟩⟩
    cases e1
    obtain ⟨m1, n1, r1⟩ := exd_at I.hok e2
    obtain ⟨o1, ho1, look1⟩ := lookIn_ns n1
    obtain rfl : o1 = o := Option.some.inj (ho1.symm.trans ho)
    obtain ⟨u, hu, ru⟩ := RelO.some_of (v := v) (o := m1 f) (hv ▸ r1 f)
    exact ⟨u, by rw [look1, hu], ru⟩
def rIsSd (K : Frag) (D a : Addr) (d : Option Addr) : List V → Hp → VK → Prop := fun xs H Q => ∃ (c : V) (u : Value) (b : Bool), xs = [.ref a, c] ∧ ClsV c u ∧ IsE K D ∧ (∀ x, d = some x → ∃ fs, H x = some (exd x fs)) ∧ PySem.W.kitOne K (.ref D) u = some b ∧ Q (.bl b) H
theorem call_isSd {D : Addr} (hz : Zc (.ref D) d oe) (hf : ∃ vs, oe.data = .fields vs) : CallR (X.suite a ((a, oe) :: pn)) (.builtin "isinstance") (rIsSd X.K D a d) := by
  rintro pins s σ H _ us Q I r ⟨c, u, b, rfl, k, T, dk, e, q⟩
  obtain ⟨w1, w2, rfl, r1, r2⟩ := vals2 r
  cases r1
  obtain rfl := k.eq r2
  obtain ⟨od, J, _⟩ := inHand hz hf I dk
  exact PySem.W.kia_one (PySem.W.kitx_exc T.cl T.ga T.gg T.exC T.kls T.get T.tk T.obj) I.kIn J e (fun z => nomatch z) fun tk => ⟨.bl b, H, I.tok tk, rfl, q⟩
/-- a table tells which classes are of the class u, when isinstance asks -/
def IsTb (K : Frag) (mg : Str → Option Value) (tb : List (Str × Bool)) (u : Value) : Prop := ∀ n b, tb.lookup n = some b → ∀ C, mg n = some (.ref C) → IsE K C ∧ PySem.W.kitOne K (.ref C) u = some b
theorem is_nil {K : Frag} {mg : Str → Option Value} {c : Value} : IsTb K mg [] c := fun n b e => by cases e
theorem is_cons {K : Frag} {mg : Str → Option Value} {c : Value} {x : Str} {k : Bool} {tb : List (Str × Bool)} {D : Addr} (gD : mg x = some (.ref D)) (T : IsE K D) (e : PySem.W.kitOne K (.ref D) c = some k) (r : IsTb K mg tb c) : IsTb K mg ((x, k) :: tb) c := fun n b h C hC => by
  by_cases z : n = x
  · subst z
    rw [List.lookup_cons_self] at h
    cases h
    rw [gD] at hC
    cases hC
    exact ⟨T, e⟩
  · rw [List.lookup_cons, beq_false_of_ne z] at h
    exact r n b h C hC
theorem pm_errIs {cc : Expr} {c : V} {u : Value} {tb : List (Str × Bool)} (hz : Zc cls d oe) (hf : ∃ vs, oe.data = .fields vs) (hc : InCl g er cls d) (hK : X.K = g.K) (T : IsTb g.K g.mg tb u) (hu : ClsV c u) (hg : Gl X "isinstance") (hm : X.mg "isinstance" = none) (hv : bootBuiltins "isinstance" = some (.builtin "isinstance"))
    (he : PE (X.suite a ((a, oe) :: pn)) ee (tVar i)) (hb : PE (X.suite a ((a, oe) :: pn)) cc (tC c))
    (h0 : starEach [ee, cc] X.env = (false, eval ee X.env) :: starEach [cc] X.env := by rfl) (hpl : (backTo pos (starEach [cc] X.env)).any (·.1) = false := by rfl) (h1 : starEach [cc] X.env = (false, eval cc X.env) :: starEach [] X.env := by rfl) :
    PM (g.inE a d) W (X.suite a ((a, oe) :: pn)) (.Call (.Name "isinstance" p) [ee, cc] [] pos) (mErrIs er tb i) := by
  obtain ⟨D, hc1, rfl, hn⟩ := hc
  refine (pe_callB (X := X.suite a ((a, oe) :: pn)) (call_isSd hz hf) hg hm hv (pa_cons he (pa_cons hb pa_nil h1) h0) (by decide) (by decide) h0 hpl).imp fun σ H Q ⟨μ, ρ, st, rel, q⟩ => ?_
  unfold mErrIs at q
  split at q
  · rename_i f xs e0
    obtain ⟨v, s1, b, vs, rfl, ⟨dd, h2, h3⟩, r⟩ := rel.slot i _ e0
    cases h2
    cases e : tb.lookup er.cls with
    | none => rw [e] at q; exact q.elim
    | some k =>
      rw [e] at q
      obtain ⟨t1, t2⟩ := T _ _ e _ hc1
      exact ⟨.ref a, s1, c, u, k, rfl, hu, by rw [hK]; exact t1, fun x hx => ⟨_, (h3 x hx).2⟩, by rw [hK]; exact t2, PostG.now q rel.sto rfl⟩
  · exact q.elim
end
end Pl

set_option maxHeartbeats 4000000
/-! len(set(xs)) of ints -/
namespace Pl
open PySem PySem.Spec PyProof.Rows L2 Hn
open PySem.W (Frag keepIn)
def lenSetL (xs : List D) (st : Sto) : R D := ofOpt (intsD xs) fun ns => guardR (ns.length < 64) (.ok (.int ((uniq ns).length : Nat)) st)
def lenSetD (d : D) (st : Sto) : R D := match d with
  | .tup xs => lenSetL xs st
  | d => ofOpt (itemsL st d) fun xs => lenSetL xs st
@[simp] theorem lenSetD_tup {xs : List D} {st : Sto} : lenSetD (.tup xs) st = lenSetL xs st := rfl
section
variable {g : G} {W : WX} {X : Cx} {a : Expr} {ma : Env → Sto → R D} {pos p : Pos}
end
end Pl

set_option maxHeartbeats 4000000
/-! shifts and bits: rules for shlD, bandD, borD (P17), and ~ -/
namespace Pl
open PySem PySem.Spec PyProof.Rows L2 Hn
open PySem.W (Frag keepIn)
section
variable {g : G} {W : WX} {X : Cx} {a b : Expr} {ma mb : Env → Sto → R D} {pos : Pos}
end
end Pl

set_option maxHeartbeats 4000000
/-! sets of ints in the store: {x}, add, in, not in -/
namespace Pl
open PySem PySem.Spec PyProof.Rows L2 Hn
open PySem.W (Frag keepIn)
section
variable {g : G} {W : WX} {X : Cx} {μ μ1 μ2 : Mu} {H H1 H2 : Hp} {st st1 : Sto} {σ : L2.St} {ρ : Env}
variable {o e : Expr} {mo m : Env → Sto → R D} {ms : Env → Sto → R (List D)} {apos cpos pos : Pos}
end
end Pl

set_option maxHeartbeats 4000000
/-! defs whose text makes a set display: the def's code is one of the written part -/
namespace Pl
open PySem PySem.Spec PyProof.Rows L2 Hn
open PySem.W (Frag keepIn)
theorem _root_.Hn.Dfn.keptXC {P : Program} {w : World} {K : Frag} {mg : Str → Option Value} {base : Heap} {x : Str} {st : Stmt} {N ps : List Str} {k : Nat} {sp : Sp} (D : Dfn K mg x st ps) (S : FnScope N ps (defScope st)) (len : ∀ vs H Q E, sp vs H Q E → vs.length = ps.length)
    (hbody : ∀ (f : Addr) (cdv : Value) (A : Around) (outer : List PySem.Env) (s : Shared) (H : Hp) (vs : List V) (Q : VK) (E : XK), PySem.W.kdsCode K cdv = true → Room k (A.deeper (envOfC x (defScope st) s.heap.objs.size f cdv)) → sp vs H Q E →
      ∃ t, PSs (cxOf (L2.CX P w) P w K mg base N x (defScope st) f cdv A outer s H E) (defBody st) t ∧ t { nx := fun _ H' => Q .non H', rt := Q } (start N vs) H) :
    KeptX P w K mg base (k + 1) x ps sp := by
  obtain ⟨f, fd, F, b, g⟩ := D
  obtain ⟨oc, od, kV, doc, pm, an, cdv, ct, osl, rfl, lk, hcd⟩ := F.ex
  exact ⟨f, _, g, F.kp, b, fn_of lk hcd S len fun A outer s H vs Q E hr h => hbody f cdv A outer s H vs Q E (kds_of hcd) hr h⟩
section
variable {g : G} {W : WX} {X : Cx} {μ μ1 μ2 : Mu} {H H1 H2 : Hp} {st st1 : Sto} {σ : L2.St} {ρ : Env}
theorem _root_.Hn.Dfn.keptMC {P : Program} {w : World} {K : Frag} {mg : Str → Option Value} {base : Heap} {x : Str} {st : Stmt} {N ps : List Str} {k : Nat} {m : Env → Sto → O} {h0 : Hp} (D : Dfn K mg x st ps) (S : FnScope N ps (defScope st))
    (hbody : ∀ (f : Addr) (cdv : Value) (A : Around) (ou : List PySem.Env) (s : Shared) (H : Hp) (E : XK), PySem.W.kdsCode K cdv = true → Room k (A.deeper (envOfC x (defScope st) s.heap.objs.size f cdv)) →
      PMSs ⟨P, w, K, mg, none, H⟩ (fun c d _ H => E c d H) (cxOf (L2.CX P w) P w K mg base N x (defScope st) f cdv A ou s H E) (defBody st) m) :
    KeptM ⟨P, w, K, mg, none, h0⟩ base (k + 1) x ps (mDef ps.length N.length m) := by
  refine D.keptXC S (fun vs H Q E h => ?_) (fun f cdv A ou s H vs Q E hd hr h => ⟨_, hbody f cdv A ou s H E hd hr, ?_⟩)
  · obtain ⟨μ, st, ds, S, r, p⟩ := h
    rw [r.length]
    unfold mDef at p
    split at p
    · assumption
    · exact p.elim
  · obtain ⟨μ, st, ds, S, r, p⟩ := h
    unfold mDef at p
    split at p
    · rename_i hl
      have S1 : RS ⟨P, w, K, mg, none, H⟩ μ H st := RS.swap S fun _ e => e
      have bk : ∀ {μ' : Mu} {H' : Hp} {st' : Sto}, RS ⟨P, w, K, mg, none, H⟩ μ' H' st' → RS ⟨P, w, K, mg, none, h0⟩ μ' H' st' := fun S' => RS.swap S' fun a e => S.old a (S'.old a e)
      refine ⟨μ, _, st, rel_start S1 (RVs.swap r), ?_⟩
      rw [hl]
      cases hm : m (ds.map some ++ List.replicate (N.length - ps.length) none) st with
      | nx ρ' st' =>
        rw [hm] at p
        exact fun μ' σ' H' x rel => gc_ok S p x (bk rel.sto) rfl
      | rt d st' =>
        rw [hm] at p
        exact fun μ' v H' x S' rv => gc_ok S p x (bk S') (RV.swap rv)
      | er e ρ' st' =>
        rw [hm] at p
        exact fun μ' σ' H' cls dd x rel re => gc_er S p x (bk rel.sto) (RErr.swap re)
      | bk ρ' st' => rw [hm] at p; exact p.elim
      | ct ρ' st' => rw [hm] at p; exact p.elim
      | no => rw [hm] at p; exact p.elim
    · exact p.elim
end
end Pl

set_option maxHeartbeats 4000000
/-! dict comprehensions whose keys are tuples -/
namespace Hn
open PySem PySem.Spec PyProof.Rows L2 EF
open PySem.W (Frag keepIn)
section
variable {X : Cx} {kx vx tg iter : Expr} {ifs : List Expr} {scope : Scope} {own : List (Str × Nat)} {pos : Pos} {wi : TI} {g : TG} {tt : TT} {tk tv : TE}
end
end Hn

set_option maxHeartbeats 4000000
/-! dict comprehensions whose keys are tuples: a new dict in the store -/
namespace Pl
open PySem PySem.Spec PyProof.Rows L2 Hn
open PySem.W (Frag keepIn)
def putP (ps : List (List Key × D)) (d : D) : List (List Key × D) := match d with
  | .tup [k, v] => match tkey k with
    | some ks => putK' ps ks v
    | none => ps
  | _ => ps
def dictT (acc : List D) : List (List Key × D) := acc.foldl putP []
theorem dictT_app {acc : List D} {d : D} : dictT (acc ++ [d]) = putP (dictT acc) d := by
  unfold dictT
  rw [List.foldl_append]
  rfl
section
variable {g : G} {W : WX} {X : Cx} {μ μ1 μ2 : Mu} {H H1 H2 : Hp} {st st1 : Sto} {σ : L2.St} {ρ : Env} {pt : Pat} {t : Env → Sto → R Bool} {mk mv : Env → Sto → R D} {vs : List Nat}
structure MadeT (g : G) (μ1 : Mu) (H1 : Hp) (D : Addr) (μ : Mu) (H : Hp) (st : Sto) (acc : List Pl.D) : Prop where
  pv : μ.pv = D :: μ1.pv
  go : Go μ1 H1 ⟨μ.ls, μ1.pv⟩ H
  tr : Tr g μ1 H1 μ H
  S : RS g μ H st
  dct : ∃ kvs, H D = some (.dT kvs) ∧ kvs.map (·.1) = (dictT acc).map (·.1) ∧ RVs g μ H ((dictT acc).map (·.2)) (kvs.map (·.2)) ∧ kvs.length ≤ acc.length
theorem MadeT.on {D : Addr} {acc : List Pl.D} (M : MadeT g μ1 H1 D μ H st acc) (x : Go μ H μ2 H2) (S : RS g μ2 H2 st1) : MadeT g μ1 H1 D μ2 H2 st1 acc := by
  obtain ⟨kvs, e, e2, r, l⟩ := M.dct
  have n := (M.S.pvs D (by rw [M.pv]; exact List.mem_cons_self)).1
  exact ⟨x.pv.trans M.pv, M.go.trans ⟨x.ext, rfl, x.new, x.keep⟩, M.tr.go x, S, kvs, x.keep D _ n e, e2, r.go x, l⟩
theorem MadeT.add {D : Addr} {acc : List Pl.D} {kd d : Pl.D} {k : List Key} {v : V} (M : MadeT g μ1 H1 D μ H st acc) (h : H1 D = none) (ek : tkey kd = some k) (r : RV g μ H d v) : ∃ kvs, H D = some (.dT kvs) ∧ kvs.length ≤ acc.length ∧ MadeT g μ1 H1 D μ (upd H D (.dT (putK kvs k v))) st (acc ++ [.tup [kd, d]]) := by
  obtain ⟨kvs, e, e2, rs, l⟩ := M.dct
  have hp : D ∈ μ.pv := by rw [M.pv]; exact List.mem_cons_self
  obtain ⟨p1, p2⟩ := put_at k r e2 rs
  have ed : dictT (acc ++ [.tup [kd, d]]) = putK' (dictT acc) k d := by
    rw [dictT_app]
    unfold putP
    simp only [ek]
  refine ⟨kvs, e, l, M.pv, M.go.fresh h, M.tr.hid hp, M.S.hid hp, putK kvs k v, upd_same, by rw [ed]; exact p1, by rw [ed]; exact p2.hid hp, ?_⟩
  have := length_putK kvs k v
  rw [List.length_append]
  show (putK kvs k v).length ≤ acc.length + 1
  omega
theorem MadeT.sto {D : Addr} {acc : List Pl.D} (M : MadeT g μ1 H1 D μ H st acc) (S1 : RS g μ1 H1 st1) (h : H1 D = none) : Go μ1 H1 ((⟨μ.ls, μ1.pv⟩ : Mu).push D) H ∧ RS g ((⟨μ.ls, μ1.pv⟩ : Mu).push D) H (st ++ [.dcT (dictT acc)]) ∧ RV g ((⟨μ.ls, μ1.pv⟩ : Mu).push D) H (.loc st.length) (.ref D) := by
  obtain ⟨kvs, e, e2, rs, l⟩ := M.dct
  have em : μ = (⟨μ.ls, μ1.pv⟩ : Mu).hide D := by
    have := M.pv
    cases μ with
    | mk l p =>
      have e : p = D :: μ1.pv := this
      rw [e]
      rfl
  have S2 := M.S
  rw [em] at S2 rs
  have nD : D ∉ μ1.pv := fun z => by
    obtain ⟨_, o, e⟩ := S1.pvs D z
    rw [h] at e
    cases e
  refine ⟨⟨?_, rfl, fun a ha => ?_, M.go.keep⟩, hid_push S2 nD ⟨kvs, e, e2, rs.up⟩, D, rfl, ?_⟩
  · obtain ⟨ν, e⟩ := M.go.ext
    exact ⟨ν ++ [D], by show μ.ls ++ [D] = _; rw [show μ.ls = μ1.ls ++ ν from e, List.append_assoc]⟩
  · rcases List.mem_append.mp ha with z | z
    · exact M.go.new a z
    · rw [List.mem_singleton.mp z]; exact .inr h
  · show (μ.ls ++ [D])[st.length]? = _
    rw [← show μ.ls.length = st.length from M.S.len, List.getElem?_append_right (Nat.le_refl _), Nat.sub_self]
    rfl
variable {mi : Env → Sto → R Wk} {kx vx tg iter : Expr} {ifs : List Expr} {scope : Scope} {own : List (Str × Nat)} {pos : Pos}
end
end Pl

set_option maxHeartbeats 4000000
/-! list(range(..)) -/
namespace Pl
open PySem PySem.Spec PyProof.Rows L2 Hn
open PySem.W (Frag keepIn)
section
variable {g : G} {W : WX} {X : Cx} {μ μ1 : Mu} {H H1 : Hp} {st st1 : Sto} {σ : L2.St} {ρ : Env} {e e2 : Expr} {m m2 : Env → Sto → R D} {p p2 pos pos2 : Pos}
theorem rvs_rg {a b : Int} {μ : Mu} {H : Hp} : RVs g μ H (rngD a (b - a).toNat) (rgV a b) := by
  refine .of ?_ fun i d x e1 e2 => ?_
  · unfold rngD
    rw [rgV_length, List.length_map, List.length_range]
  · unfold rngD at e1
    unfold rgV at e2
    rw [List.getElem?_map] at e1 e2
    obtain ⟨i1, h1, rfl⟩ := Option.map_eq_some_iff.mp e1
    obtain ⟨i2, h2, rfl⟩ := Option.map_eq_some_iff.mp e2
    rw [h1] at h2
    cases h2
    exact rfl
end
end Pl

set_option maxHeartbeats 4000000
/-! itertools.combinations: its type, its making, its steps -/
namespace Cmb
open PySem PySem.Spec
open Sem (wp)
theorem mro_c : mroOf (.type "itertools.combinations") = pure [.type "itertools.combinations", .type "object"] := by rw [mroOf_type]; kernel_rfl
theorem lookup_new : typeLookup (.type "itertools.combinations") "__new__" = pure (some (.builtin "itertools.combinations.__new__")) := by rw [typeLookup_type, builtinLookup_eq_fast]; kernel_rfl
theorem sub_c : isSubtype (.type "itertools.combinations") (.type "itertools.combinations") = pure true := by rw [isSubtype_type]; kernel_rfl
theorem slot_init : Slot "itertools.combinations" "__init__" "object.__init__" :=
  .of (owner := "object") (n := "__init__") (by rw [typeLookup_type, builtinLookup_eq_fast]; kernel_rfl) (by decide +kernel) (by decide +kernel) (by decide +kernel) (by first | exact .inl (by decide +kernel) | exact .inr (by decide +kernel)) (by rw [isSubtype_type]; kernel_rfl)
theorem called_c : TypeCalled "itertools.combinations" "itertools.combinations.__new__" "object.__init__" :=
  ⟨by decide +kernel, by decide +kernel, ⟨_, _, mro_c⟩, madeBy_type mro_c lookup_new (by decide +kernel), by decide +kernel, sub_c, slot_init⟩
theorem typeCall_2 (a b : Value) : checkTypeCall "itertools.combinations" ⟨[a, b], []⟩ = pure () := by kernel_rfl
theorem newCall_2 (a b : Value) : checkBuiltinCall "itertools.combinations.__new__" ⟨[.type "itertools.combinations", a, b], []⟩ = pure () := by kernel_rfl
theorem entry_new : entryFor table "itertools.combinations.__new__" = some Builtin.«itertools.combinations.__new__» := entryFor_of_tree (by kernel_rfl)
theorem plain_new : plainId "itertools.combinations.__new__" = true := by decide +kernel
theorem slot_iter : Slot "itertools.combinations" "__iter__" "itertools.combinations.__iter__" :=
  .of (owner := "itertools.combinations") (n := "__iter__") (by rw [typeLookup_type, builtinLookup_eq_fast]; kernel_rfl) (by decide +kernel) (by decide +kernel) (by decide +kernel) (by first | exact .inl (by decide +kernel) | exact .inr (by decide +kernel)) sub_c
theorem slot_next : Slot "itertools.combinations" "__next__" "itertools.combinations.__next__" :=
  .of (owner := "itertools.combinations") (n := "__next__") (by rw [typeLookup_type, builtinLookup_eq_fast]; kernel_rfl) (by decide +kernel) (by decide +kernel) (by decide +kernel) (by first | exact .inl (by decide +kernel) | exact .inr (by decide +kernel)) sub_c
theorem entry_iter : entryFor table "itertools.combinations.__iter__" = some Builtin.«dict_keyiterator.__iter__» :=
  entryFor_alias (id' := "dict_keyiterator.__iter__") (by kernel_rfl) (by first | rfl | decide +kernel | (unfold String.splitOn; simp +decide [String.splitOnAux])) (by decide +kernel) (by kernel_rfl)
theorem entry_next : entryFor table "itertools.combinations.__next__" = some Builtin.«itertools.combinations.__next__» := entryFor_of_tree (by kernel_rfl)
theorem owner_c : Manifest.owners.lookup (String.ofList ['s', 'n', 'o', 'i', 't', 'a', 'n', 'i', 'b', 'm', 'o', 'c', '.', 's', 'l', 'o', 'o', 't', 'r', 'e', 't', 'i'].reverse) = some Manifest.sig_itertools_combinations := by kernel_rfl
theorem args_iter (a : Value) : argsOk "itertools.combinations.__iter__" ⟨[a], []⟩ := by
  unfold argsOk; rw [signature?_of (id := "itertools.combinations.__iter__") (n := ['_', '_', 'r', 'e', 't', 'i', '_', '_']) (o := ['s', 'n', 'o', 'i', 't', 'a', 'n', 'i', 'b', 'm', 'o', 'c', '.', 's', 'l', 'o', 'o', 't', 'r', 'e', 't', 'i']) (by kernel_rfl) owner_c]; kernel_rfl
theorem args_next (a : Value) : argsOk "itertools.combinations.__next__" ⟨[a], []⟩ := by
  unfold argsOk; rw [signature?_of (id := "itertools.combinations.__next__") (n := ['_', '_', 't', 'x', 'e', 'n', '_', '_']) (o := ['s', 'n', 'o', 'i', 't', 'a', 'n', 'i', 'b', 'm', 'o', 'c', '.', 's', 'l', 'o', 'o', 't', 'r', 'e', 't', 'i']) (by kernel_rfl) owner_c]; kernel_rfl
theorem noDict_c : typeHasDict (.type "itertools.combinations") = false := by decide +kernel
end Cmb

set_option maxHeartbeats 4000000
/-! itertools.combinations: what making one, going on with one does to the heap -/
namespace Cmb
open PySem PySem.Spec
open Sem (wp)
/-- the object: its pool, how far it is (0 new, 1 going, 2 ended), what it gave last, the places -/
abbrev IsC (h : Heap) (it P : Addr) (mode : Int) (bef : Value) (ix : List Nat) : Prop :=
  h.get? it = some { cls := .type "itertools.combinations", dict := none, data := .fields ([.ref P, rawInt mode, bef] ++ ix.map fun i : Nat => rawInt i).toArray, slots := #[] }
abbrev IsP (h : Heap) (P : Addr) (its : List Value) : Prop := h.get? P = some { cls := .type "tuple", data := .seq its.toArray }
section
variable {prog : Program} {w : World} {A : Around} {E : Value → Shared → Prop} {s : Shared}
theorem code_new {x : Value} {r : Nat} {t : Tok} {Q : Value → Shared → Prop} (hr : r ≤ 1000)
    (Pc : List Value → Prop) (hcol : ∀ (A : Around) (E : Value → Shared → Prop) (Q : List Value → Shared → Prop), A.handled = none → (∀ (h' : Heap) (tk : Nat) (its : List Value), (∀ b o, s.heap.get? b = some o → h'.get? b = some o) → its.length ≤ 1000 → Pc its → Q its { s with heap := h', toks := tk }) → wpAny (model prog w) A (collect x) Q E s) (hh : A.handled = none)
    (h : ∀ (h1 h2 : Heap) (tk : Nat) (its : List Value), (∀ b o, s.heap.get? b = some o → h1.get? b = some o) → (∀ b o, h1.get? b = some o → h2.get? b = some o) → its.length ≤ 1000 → Pc its → IsP h2 h1.objs.size its → IsC h2 (h1.objs.size + 1) h1.objs.size (if r > its.length then 2 else 0) .none (List.range r) → Q (.ref (h1.objs.size + 1)) { s with heap := h2, toks := tk }) :
    codeAny (model prog w) A (.call (.builtin "itertools.combinations.__new__") ⟨[.type "itertools.combinations", x, .int (r : Nat) t], []⟩) (wants Q E) s := by
  refine codeAny_of_tree ?_
  show wpAny _ A.in1 (do checkBuiltinCall "itertools.combinations.__new__" _; again (.builtin "itertools.combinations.__new__" _)) _ _ s
  refine wpAny_bind (wpAny_of_eq (newCall_2 _ _) (wpAny_pure ⟨plainId_quiet plain_new _, codeAny_builtin entry_new ?_⟩))
  rw [Around.under_plainId plain_new _]
  have hsub := sub_c
  have hd := noDict_c
  have hs2 : isSubtype (Value.type "itertools.combinations") (Value.type ("itertools." ++ "combinations")) = pure true := by
    rw [show ("itertools." ++ "combinations" : String) = "itertools.combinations" from by decide +kernel]
    exact sub_c
  wp_walk
  have hn : ¬ ((decide ((r : Int) < -2 ^ 63) || decide ((r : Int) ≥ 2 ^ 63)) = true) := by
    have a : decide ((r : Int) < -2 ^ 63) = false := decide_eq_false (by omega)
    have b : decide ((r : Int) ≥ 2 ^ 63) = false := decide_eq_false (by omega)
    rw [a, b]
    decide
  have h0 : ¬ ((r : Int) < 0) := by omega
  have hm : ¬ (Builtin.Itertools.itTooMany (r : Int) = true) := by
    unfold Builtin.Itertools.itTooMany
    rw [decide_eq_true_iff]
    omega
  rw [if_neg hn]
  refine wpAny_pure ?_
  refine wpAny_bind (hcol _ _ _ hh fun h' tk its kp hl hc => ?_)
  rw [if_neg h0]
  rw [if_neg hm]
  show wpAny _ _ (newTuple its >>= _) _ _ _
  refine wpAny_bind (wpAny_newTuple ?_ (by rw [sizeLine_eq]; omega))
  refine wpAny_pure ?_
  show wpAny _ _ (Builtin.Itertools.itNewRecord (Value.type "itertools.combinations") _ >>= _) _ _ _
  refine wpAny_bind ?_
  unfold Builtin.Itertools.itNewRecord
  rw [if_pos (by rw [hd]; rfl)]
  have e : (h'.push { cls := Value.type "tuple", data := Data.seq its.toArray }).objs.size = h'.objs.size + 1 := by simp [Heap.push]
  refine wpAny_newObj_type ?_ ?_
  · refine wpAny_pure ?_
    show Q (.ref (h'.push { cls := Value.type "tuple", data := Data.seq its.toArray }).objs.size) _
    rw [e]
    refine h h' _ tk its kp (fun b o e => Heap.get?_push_of_some _ (Heap.get?_push_of_some _ e)) hl hc (Heap.get?_push_of_some _ (Heap.get?_push_size _ rfl)) ?_
    rw [← e]
    exact Heap.get?_push_size _ rfl
  · simp only [sizeOk, List.size_toArray, List.length_append, List.length_cons, List.length_nil, List.length_map, List.length_range, sizeLine_eq, Int.toNat_natCast]
    omega
end
end Cmb

set_option maxHeartbeats 4000000
/-! a call of combinations, its iterator, its next one -/
namespace Cmb
open PySem PySem.Spec
open Sem (wp)
section
variable {prog : Program} {w : World} {A : Around} {E : Value → Shared → Prop} {s : Shared}
theorem call_c {x : Value} {r : Nat} {t : Tok} {Q : Value → Shared → Prop} (hr : r ≤ 1000)
    (Pc : List Value → Prop) (hcol : ∀ (A : Around) (E : Value → Shared → Prop) (Q : List Value → Shared → Prop), A.handled = none → (∀ (h' : Heap) (tk : Nat) (its : List Value), (∀ b o, s.heap.get? b = some o → h'.get? b = some o) → its.length ≤ 1000 → Pc its → Q its { s with heap := h', toks := tk }) → wpAny (model prog w) A (collect x) Q E s) (hh : A.handled = none)
    (h : ∀ (h1 h2 : Heap) (tk : Nat) (its : List Value), (∀ b o, s.heap.get? b = some o → h1.get? b = some o) → (∀ b o, h1.get? b = some o → h2.get? b = some o) → its.length ≤ 1000 → Pc its → IsP h2 h1.objs.size its → IsC h2 (h1.objs.size + 1) h1.objs.size (if r > its.length then 2 else 0) .none (List.range r) → Q (.ref (h1.objs.size + 1)) { s with heap := h2, toks := tk }) :
    wpAny (model prog w) A (call (.type "itertools.combinations") [x, .int (r : Nat) t]) Q E s := by
  refine callType_codes (Q₁ := fun obj s₁ => s₁.TypeIs obj "itertools.combinations" ∧ Q obj s₁) called_c (typeCall_2 _ _) F.entry_object_init (code_new (A := A.in1) hr Pc hcol hh fun h1 h2 tk its k1 k2 hl hc hp hi => ⟨⟨_, hi, rfl⟩, h h1 h2 tk its k1 k2 hl hc hp hi⟩) fun obj s₁ h₁ => ?_
  exact ⟨h₁.1, F.args_object_init_3 obj _ _, object_init_meets called_c.init.lookup called_c.made (by decide) prog w A.in1 _ s₁ ⟨h₁.1, rfl, h₁.2⟩⟩
theorem iter_c {it P : Addr} {m : Int} {b : Value} {ix : List Nat} {Q : Value → Shared → Prop} (hit : IsC s.heap it P m b ix) (h : Q (.ref it) s) : wpAny (model prog w) A (pyIter (.ref it)) Q E s := by
  have hT : s.TypeIs (.ref it) "itertools.combinations" := ⟨_, hit, rfl⟩
  refine wpAny_pyIter_slot hT slot_iter (wpAny_call_entry slot_iter hT entry_iter ?_ (args_iter _))
  show wpAny _ _ (ret (.ref it)) _ _ s
  exact wpAny_pure ⟨_, rfl, "itertools.combinations", _, hT, slot_next.lookup, h⟩
theorem nums_c {it P : Addr} {m : Int} {b : Value} {ix : List Nat} {Q : List Nat → Shared → Prop} (hit : IsC s.heap it P m b ix) (h : Q ix s) : wpAny (model prog w) A (Builtin.Itertools.itNumbersFrom (.ref it) 3) Q E s := by
  unfold Builtin.Itertools.itNumbersFrom
  dsimp only
  refine wpAny_bind (wpAny_load hit ?_)
  dsimp only
  refine wpAny_pure ?_
  refine Eq.subst (motive := fun z => Q z s) (Eq.symm ?_) h
  show List.map _ (ix.map fun i : Nat => rawInt i) = ix
  clear hit h
  induction ix with
  | nil => rfl
  | cons i ix ih => exact congrArg (List.cons i) ih
theorem pick_c {P : Addr} {its : List Value} {ix : List Nat} {Q : Value → Shared → Prop} (hp : IsP s.heap P its) (hx : ix.length ≤ 1000) (h : Q (.ref s.heap.objs.size) { s with heap := s.heap.push { cls := .type "tuple", data := .seq (ix.map fun i => its.getD i .none).toArray } }) :
    wpAny (model prog w) A (Builtin.Itertools.itPoolItems (.ref P) >>= fun items => newTuple (ix.map fun i => items.getD i .none)) Q E s := by
  refine wpAny_bind ?_
  unfold Builtin.Itertools.itPoolItems seqItems?
  dsimp only
  refine wpAny_bind (wpAny_bind (wpAny_load hp ?_))
  dsimp only
  refine wpAny_pure ?_
  dsimp only
  refine wpAny_pure ?_
  refine wpAny_newTuple ?_ (by rw [List.length_map, sizeLine_eq]; omega)
  refine Eq.subst (motive := fun z => Q (.ref s.heap.objs.size) { s with heap := s.heap.push { cls := .type "tuple", data := .seq z } }) ?_ h
  congr 1
  refine List.map_congr_left fun i _ => ?_
  simp [Array.getD_eq_getD_getElem?]
theorem int_c {it P : Addr} {m : Int} {b : Value} {ix : List Nat} {Q : Int → Shared → Prop} (hit : IsC s.heap it P m b ix) (h : Q m s) : wpAny (model prog w) A (Builtin.Itertools.itIntField (.ref it) 1) Q E s := by
  unfold Builtin.Itertools.itIntField
  refine wpAny_bind (wpAny_field hit rfl (x := rawInt m) (by rfl) ?_)
  exact wpAny_pure h
/-- handing out -/
theorem hand_c {it P : Addr} {b : Value} {m : Int} {ix : List Nat} {its : List Value} {Q : Fin → Shared → Prop} (hit : IsC s.heap it P m b ix) (hp : IsP s.heap P its) (ne : P ≠ it) (hx : ix.length ≤ 1000)
    (hQ : ∀ h', (∀ a o, a ≠ it → s.heap.get? a = some o → h'.get? a = some o) → h'.get? s.heap.objs.size = some { cls := .type "tuple", data := .seq (ix.map fun i => its.getD i .none).toArray } → IsC h' it P m (.ref s.heap.objs.size) ix → Q (.done (.ret (.ref s.heap.objs.size))) { s with heap := h' }) :
    wpAny (model prog w) A ((Builtin.Itertools.itPoolItems (.ref P) >>= fun items => newTuple (ix.map fun i => items.getD i .none)) >>= fun result => field (.ref it) 2 >>= fun before => setField (.ref it) 2 result >>= fun _ => letGo [before] [result] >>= fun _ => ret result) Q E s := by
  refine wpAny_bind (pick_c hp hx ?_)
  have hit2 : IsC (s.heap.push { cls := .type "tuple", data := .seq (ix.map fun i => its.getD i .none).toArray }) it P m b ix := Heap.get?_push_of_some _ hit
  have lt : it < s.heap.objs.size := Heap.lt_size hit
  refine wpAny_bind (wpAny_field hit2 rfl (x := b) (by rfl) ?_)
  refine wpAny_bind (wpAny_setField hit2 rfl (by simp) ?_)
  refine wpAny_bind (wpAny_letGo ?_)
  refine wpAny_pure ?_
  refine hQ _ (fun a o na e => ?_) ?_ ?_
  · exact (Heap.get?_update_other _ _ (Ne.symm na)).trans (Heap.get?_push_of_some _ e)
  · exact (Heap.get?_update_other _ _ (Nat.ne_of_lt lt)).trans (Heap.get?_push_size _ rfl)
  · refine (Heap.get?_update_self _ hit2 rfl).trans ?_
    simp [Obj.mapFields]
end
end Cmb

set_option maxHeartbeats 4000000
/-! lots of so many, in their order: as maths -/
namespace Cmb
/-- all lots of r of some things, in the order of the things -/
def cmb {α : Type} : List α → Nat → List (List α)
  | _, 0 => [[]]
  | [], _ + 1 => []
  | x :: xs, r + 1 => (cmb xs r).map (x :: ·) ++ cmb xs (r + 1)
theorem cmb_map {α β : Type} (f : α → β) : ∀ (xs : List α) (r : Nat), cmb (xs.map f) r = (cmb xs r).map (·.map f)
  | xs, 0 => by cases xs <;> rfl
  | [], _ + 1 => rfl
  | x :: xs, r + 1 => by
    rw [List.map_cons]
    unfold cmb
    rw [cmb_map f xs r, cmb_map f xs (r + 1), List.map_append, List.map_map, List.map_map]
    rfl
theorem cmb_len {α : Type} : ∀ (xs : List α) (r : Nat), ∀ c ∈ cmb xs r, c.length = r
  | xs, 0, c, h => by cases xs <;> (unfold cmb at h; rw [List.mem_singleton.mp h]; rfl)
  | [], _ + 1, c, h => by cases h
  | x :: xs, r + 1, c, h => by
    unfold cmb at h
    rcases List.mem_append.mp h with z | z
    · obtain ⟨d, hd, rfl⟩ := List.mem_map.mp z
      rw [List.length_cons, cmb_len xs r d hd]
    · exact cmb_len xs (r + 1) c z
theorem cmb_none {α : Type} : ∀ (xs : List α) (r : Nat), xs.length < r → cmb xs r = []
  | _, 0, h => by omega
  | [], _ + 1, _ => rfl
  | x :: xs, r + 1, h => by
    rw [List.length_cons] at h
    unfold cmb
    rw [cmb_none xs r (by omega), cmb_none xs (r + 1) (by omega)]
    rfl
/-- the places' next, if there is one -/
def nxt (n : Nat) (ix : List Nat) : Option (List Nat) :=
  Option.map (fun i => ix.take i ++ (List.range (ix.length - i)).map fun j => ix.getD i 0 + 1 + j) (List.find? (fun i => ix.getD i 0 != i + n - ix.length) (List.range ix.length).reverse)
theorem rev_succ (r : Nat) : (List.range (r + 1)).reverse = (List.range r).reverse.map (· + 1) ++ [0] := by
  rw [List.range_succ_eq_map, List.reverse_cons, List.map_reverse]
theorem nxt_nil (n : Nat) : nxt n [] = none := rfl
theorem nxt_cons (n x : Nat) (t : List Nat) (h : t.length + 1 ≤ n) : nxt n (x :: t) = match nxt n t with
    | some t' => some (x :: t')
    | none => if x = n - (t.length + 1) then none else some ((List.range (t.length + 1)).map fun j => x + 1 + j) := by
  have e : (List.range (x :: t).length).reverse.find? (fun i => (x :: t).getD i 0 != i + n - (x :: t).length) = match (List.range t.length).reverse.find? (fun i => t.getD i 0 != i + n - t.length) with
      | some i => some (i + 1)
      | none => if x = n - (t.length + 1) then none else some 0 := by
    rw [List.length_cons, rev_succ, List.find?_append, List.find?_map]
    have e2 : ((fun i => (x :: t).getD i 0 != i + n - (t.length + 1)) ∘ fun x => x + 1) = fun i => t.getD i 0 != i + n - t.length := by
      funext i
      show ((x :: t).getD (i + 1) 0 != i + 1 + n - (t.length + 1)) = _
      rw [List.getD_cons_succ, show i + 1 + n - (t.length + 1) = i + n - t.length by omega]
    rw [e2]
    cases (List.range t.length).reverse.find? (fun i => t.getD i 0 != i + n - t.length) with
    | some i => rfl
    | none =>
      rw [Option.map_none, Option.none_or, List.find?_cons]
      show (match (x != 0 + n - (t.length + 1)) with | true => some 0 | false => List.find? _ []) = _
      by_cases z : x = n - (t.length + 1)
      · rw [if_pos z, show (x != 0 + n - (t.length + 1)) = false by simp; omega]
        rfl
      · rw [if_neg z, show (x != 0 + n - (t.length + 1)) = true by simp; omega]
  unfold nxt
  rw [e]
  cases (List.range t.length).reverse.find? (fun i => t.getD i 0 != i + n - t.length) with
  | some i =>
    rw [Option.map_some, Option.map_some]
    dsimp only
    rw [List.take_succ_cons, List.length_cons, show t.length + 1 - (i + 1) = t.length - i by omega, List.getD_cons_succ]
    rfl
  | none =>
    show Option.map _ (if x = n - (t.length + 1) then none else some 0) = if x = n - (t.length + 1) then none else _
    by_cases z : x = n - (t.length + 1)
    · rw [if_pos z, if_pos z]; rfl
    · rw [if_neg z, if_neg z]
      rfl
/-- from one to the next, and from the last to none -/
inductive Chn (n : Nat) : List (List Nat) → Prop
  | one {c : List Nat} : nxt n c = none → Chn n [c]
  | on {c d : List Nat} {L : List (List Nat)} : nxt n c = some d → Chn n (d :: L) → Chn n (c :: d :: L)
theorem Chn.pre {n x r : Nat} {L : List (List Nat)} (h : Chn n L) (hl : ∀ c ∈ L, c.length = r) (hr : r + 1 ≤ n) (M : List (List Nat)) (hM : (x = n - (r + 1) ∧ M = []) ∨ (∃ M', M = ((List.range (r + 1)).map fun j => x + 1 + j) :: M' ∧ Chn n M ∧ x ≠ n - (r + 1))) : Chn n (L.map (x :: ·) ++ M) := by
  induction h with
  | one e =>
    rename_i c
    have hc := hl c (by simp)
    have k := nxt_cons n x c (by omega)
    rw [e, hc] at k
    rcases hM with ⟨z, rfl⟩ | ⟨M', rfl, ch, z⟩
    · have k : nxt n (x :: c) = if x = n - (r + 1) then none else some ((List.range (r + 1)).map fun j => x + 1 + j) := k
      rw [if_pos z] at k
      exact .one k
    · have k : nxt n (x :: c) = if x = n - (r + 1) then none else some ((List.range (r + 1)).map fun j => x + 1 + j) := k
      rw [if_neg z] at k
      exact .on k ch
  | on e _ ih =>
    rename_i c d L _
    have hc := hl c (by simp)
    have k := nxt_cons n x c (by omega)
    rw [e] at k
    exact .on k (ih fun c hc => hl c (List.mem_cons_of_mem _ hc))
/-- the lots of the numbers from a on -/
theorem cmb_chn : ∀ (m a r : Nat), r ≤ m → Chn (a + m) (cmb (List.range' a m) r) ∧ ∃ M', cmb (List.range' a m) r = ((List.range r).map fun j => a + j) :: M'
  | m, a, 0, _ => by
    have e : cmb (List.range' a m) 0 = [[]] := by cases m <;> rfl
    rw [e]
    exact ⟨.one (nxt_nil _), [], rfl⟩
  | 0, _, r + 1, h => by omega
  | m + 1, a, r + 1, h => by
    obtain ⟨c1, M1, e1⟩ := cmb_chn m (a + 1) r (by omega)
    have ea : a + (m + 1) = a + 1 + m := by omega
    rw [List.range'_succ]
    unfold cmb
    rw [ea]
    refine ⟨c1.pre (cmb_len _ _) (by omega) _ ?_, ?_⟩
    · by_cases z : r + 1 ≤ m
      · obtain ⟨c2, M2, e2⟩ := cmb_chn m (a + 1) (r + 1) z
        exact .inr ⟨M2, e2, c2, by omega⟩
      · exact .inl ⟨by omega, cmb_none _ _ (by rw [List.length_range']; omega)⟩
    · rw [e1]
      refine ⟨M1.map (a :: ·) ++ cmb (List.range' (a + 1) m) (r + 1), ?_⟩
      rw [List.map_cons, List.cons_append, List.range_succ_eq_map, List.map_cons, List.map_map]
      congr 2
      refine List.map_congr_left fun j _ => ?_
      show a + 1 + j = a + (j + 1)
      omega
/-- the lots of all numbers below n -/
theorem cmb_all {n r : Nat} (h : r ≤ n) : Chn n (cmb (List.range n) r) ∧ ∃ M', cmb (List.range n) r = List.range r :: M' := by
  obtain ⟨c, M, e⟩ := cmb_chn n 0 r h
  rw [← List.range_eq_range', Nat.zero_add] at c
  rw [← List.range_eq_range'] at e
  refine ⟨c, M, e.trans ?_⟩
  congr 1
  simp
theorem Chn.at {n : Nat} {L : List (List Nat)} (h : Chn n L) : ∀ (i : Nat) (hi : i < L.length), nxt n L[i] = L[i + 1]? := by
  induction h with
  | one e =>
    intro i hi
    obtain rfl : i = 0 := by simpa using hi
    exact e
  | on e _ ih =>
    intro i hi
    cases i with
    | zero => exact e
    | succ i => exact ih i (by simpa using hi)
end Cmb

set_option maxHeartbeats 4000000
/-! going on with combinations -/
namespace Cmb
open PySem PySem.Spec
open Sem (wp)
section
variable {prog : Program} {w : World} {A : Around} {E : Value → Shared → Prop} {s : Shared} {it P : Addr} {b : Value} {ix : List Nat} {its : List Value}
theorem isC_set {h : Heap} {m m' : Int} (hit : IsC h it P m b ix) : IsC (h.update it (Obj.mapFields fun x => x.setIfInBounds 1 (rawInt m'))) it P m' b ix := by
  refine (Heap.get?_update_self _ hit rfl).trans ?_
  simp [Obj.mapFields]
theorem isC_nums {h : Heap} {m : Int} {jx : List Nat} (hit : IsC h it P m b ix) : IsC (h.update it (Obj.mapFields fun fs => fs.extract 0 3 ++ (jx.map fun (n : Nat) => rawInt n).toArray)) it P m b jx := by
  refine (Heap.get?_update_self _ hit rfl).trans ?_
  simp [Obj.mapFields]
/-- the first one -/
theorem pn_new {Q : Option Value → Shared → Prop} (hit : IsC s.heap it P 0 b ix) (hp : IsP s.heap P its) (ne : P ≠ it) (hx : ix.length ≤ 1000)
    (hQ : ∀ h', (∀ a o, a ≠ it → s.heap.get? a = some o → h'.get? a = some o) → h'.get? s.heap.objs.size = some { cls := .type "tuple", data := .seq (ix.map fun i => its.getD i .none).toArray } → IsC h' it P 1 (.ref s.heap.objs.size) ix → Q (some (.ref s.heap.objs.size)) { s with heap := h' }) : wpAny (model prog w) A (pyNext (.ref it)) Q E s := by
  have hT : s.TypeIs (.ref it) "itertools.combinations" := ⟨_, hit, rfl⟩
  unfold pyNext
  refine wpAny_bind (wpAny_attempt (wpAny_callSpecial?_slot (name := Str.ofString "__next__") hT slot_next (wpAny_call_entry slot_next hT entry_next ?_ (args_next _))))
  show wpAny _ _ (field (.ref it) 0 >>= _) _ _ s
  refine wpAny_bind (wpAny_field hit rfl (x := .ref P) (by rfl) ?_)
  show wpAny _ _ (Builtin.Itertools.itNumbersFrom (.ref it) 3 >>= _) _ _ s
  refine wpAny_bind (nums_c hit ?_)
  refine wpAny_bind (int_c hit ?_)
  show wpAny _ _ (setField (.ref it) 1 (rawInt 1) >>= _) _ _ s
  refine wpAny_bind (wpAny_setField hit rfl (by simp) ?_)
  have hit2 : IsC (s.heap.update it (Obj.mapFields fun x => x.setIfInBounds 1 (rawInt 1))) it P 1 b ix := isC_set hit
  have hp2 : IsP (s.heap.update it (Obj.mapFields fun x => x.setIfInBounds 1 (rawInt 1))) P its := (Heap.get?_update_other _ _ (Ne.symm ne)).trans hp
  have sz : (s.heap.update it (Obj.mapFields fun x => x.setIfInBounds 1 (rawInt 1))).objs.size = s.heap.objs.size := by simp [Heap.update]
  refine hand_c (s := { s with heap := s.heap.update it (Obj.mapFields fun x => x.setIfInBounds 1 (rawInt 1)) }) hit2 hp2 ne hx fun h' kp ht hi => ?_
  dsimp only at ht hi ⊢
  rw [sz] at ht hi ⊢
  exact ⟨_, rfl, wpAny_pure (hQ h' (fun a o na e => kp a o na ((Heap.get?_update_other _ _ (Ne.symm na)).trans e)) ht hi)⟩
/-- one more -/
theorem pn_on {Q : Option Value → Shared → Prop} {jx : List Nat} (hit : IsC s.heap it P 1 b ix) (hp : IsP s.heap P its) (ne : P ≠ it) (hj : nxt its.length ix = some jx) (hx : jx.length ≤ 1000)
    (hQ : ∀ h', (∀ a o, a ≠ it → s.heap.get? a = some o → h'.get? a = some o) → h'.get? s.heap.objs.size = some { cls := .type "tuple", data := .seq (jx.map fun i => its.getD i .none).toArray } → IsC h' it P 1 (.ref s.heap.objs.size) jx → Q (some (.ref s.heap.objs.size)) { s with heap := h' }) : wpAny (model prog w) A (pyNext (.ref it)) Q E s := by
  have hT : s.TypeIs (.ref it) "itertools.combinations" := ⟨_, hit, rfl⟩
  unfold pyNext
  refine wpAny_bind (wpAny_attempt (wpAny_callSpecial?_slot (name := Str.ofString "__next__") hT slot_next (wpAny_call_entry slot_next hT entry_next ?_ (args_next _))))
  show wpAny _ _ (field (.ref it) 0 >>= _) _ _ s
  refine wpAny_bind (wpAny_field hit rfl (x := .ref P) (by rfl) ?_)
  show wpAny _ _ (Builtin.Itertools.itNumbersFrom (.ref it) 3 >>= _) _ _ s
  refine wpAny_bind (nums_c hit ?_)
  refine wpAny_bind (int_c hit ?_)
  show wpAny _ _ (Builtin.Itertools.itPoolItems (.ref P) >>= _) _ _ s
  refine wpAny_bind ?_
  unfold Builtin.Itertools.itPoolItems seqItems?
  dsimp only
  refine wpAny_bind (wpAny_bind (wpAny_load hp ?_))
  dsimp only
  refine wpAny_pure ?_
  dsimp only
  refine wpAny_pure ?_
  split
  · rename_i jy heq
    have e : some jy = nxt its.length ix := by
      rw [← heq, nxt]
      show (match List.find? (fun i => ix.getD i 0 != i + its.toArray.size - ix.length) (List.range ix.length).reverse with | none => none | some i => some (ix.take i ++ (List.range (ix.length - i)).map fun j => ix.getD i 0 + 1 + j)) = _
      rw [List.size_toArray]
      cases List.find? (fun i => ix.getD i 0 != i + its.length - ix.length) (List.range ix.length).reverse <;> rfl
    rw [hj] at e
    cases e
    show wpAny _ _ (Builtin.Itertools.itSetNumbersFrom (.ref it) 3 jx >>= _) _ _ s
    refine wpAny_bind ?_
    unfold Builtin.Itertools.itSetNumbersFrom
    dsimp only
    refine wpAny_updateFields hit rfl ?_ (by simp [sizeLine_eq]; omega)
    have hit2 : IsC (s.heap.update it (Obj.mapFields fun fs => fs.extract 0 3 ++ (jx.map fun (n : Nat) => rawInt n).toArray)) it P 1 b jx := isC_nums hit
    have hp2 : IsP (s.heap.update it (Obj.mapFields fun fs => fs.extract 0 3 ++ (jx.map fun (n : Nat) => rawInt n).toArray)) P its := (Heap.get?_update_other _ _ (Ne.symm ne)).trans hp
    have sz : (s.heap.update it (Obj.mapFields fun fs => fs.extract 0 3 ++ (jx.map fun (n : Nat) => rawInt n).toArray)).objs.size = s.heap.objs.size := by simp [Heap.update]
    refine hand_c (s := { s with heap := s.heap.update it (Obj.mapFields fun fs => fs.extract 0 3 ++ (jx.map fun (n : Nat) => rawInt n).toArray) }) hit2 hp2 ne hx fun h' kp ht hi => ?_
    dsimp only at ht hi ⊢
    rw [sz] at ht hi ⊢
    exact ⟨_, rfl, wpAny_pure (hQ h' (fun a o na e => kp a o na ((Heap.get?_update_other _ _ (Ne.symm na)).trans e)) ht hi)⟩
  · rename_i heq
    exfalso
    have e : none = nxt its.length ix := by
      rw [← heq, nxt]
      show (match List.find? (fun i => ix.getD i 0 != i + its.toArray.size - ix.length) (List.range ix.length).reverse with | none => none | some i => some (ix.take i ++ (List.range (ix.length - i)).map fun j => ix.getD i 0 + 1 + j)) = _
      rw [List.size_toArray]
      cases List.find? (fun i => ix.getD i 0 != i + its.length - ix.length) (List.range ix.length).reverse <;> rfl
    rw [hj] at e
    cases e
/-- StopIteration -/
theorem stop_c {Q : Option Value → Shared → Prop} (hh : A.handled = none) (hQ : ∀ h', Heap.ExtBut it s.heap h' → Q none { s with heap := h' }) :
    wpAny (model prog w) A.in1 (Builtin.Itertools.itStop : Sem Fin) (fun fin s' => ∃ v, fin = Fin.done (Flow.ret v) ∧ wpAny (model prog w) A (pure (some v)) Q E s') (fun e s' => wpAny (model prog w) A (do if ← isInstance e (.type "StopIteration") then pure none else throw e) Q E s') s := by
  unfold Builtin.Itertools.itStop
  refine wpAny_bind ?_
  simp only [newExc, newTuple]
  refine wpAny_bind (wpAny_newObj_type ?_ (by size_fits)); refine wpAny_bind (m := firstArgMember _ _) (wpAny_of_eq (a := Value.none) (by first | rfl | (simp only [firstArgMember]; rfl)) ?_)
  refine wpAny_newObj_type ?_ (by size_fits); simp only [raiseNew]
  refine wpAny_bind (wpAny_handled ?_); first | rw [show A.in1.handled = none from hh] | rw [hh]
  refine wpAny_bind (wpAny_pure (wpAny_throw ?_)); refine wpAny_bind (wpAny_isInstance (T := "StopIteration") (b := true) ⟨_, Heap.get?_push_size _ rfl, rfl⟩ isSubtype_stop ?_)
  exact wpAny_pure (hQ _ (((Heap.ExtBut.refl it s.heap).push _).push _))
/-- the end -/
theorem pn_end {Q : Option Value → Shared → Prop} (hh : A.handled = none) (hit : IsC s.heap it P 1 b ix) (hp : IsP s.heap P its) (hj : nxt its.length ix = none)
    (hQ : ∀ h', Heap.ExtBut it s.heap h' → Q none { s with heap := h' }) : wpAny (model prog w) A (pyNext (.ref it)) Q E s := by
  have hT : s.TypeIs (.ref it) "itertools.combinations" := ⟨_, hit, rfl⟩
  unfold pyNext
  refine wpAny_bind (wpAny_attempt (wpAny_callSpecial?_slot (name := Str.ofString "__next__") hT slot_next (wpAny_call_entry slot_next hT entry_next ?_ (args_next _))))
  show wpAny _ _ (field (.ref it) 0 >>= _) _ _ s
  refine wpAny_bind (wpAny_field hit rfl (x := .ref P) (by rfl) ?_)
  show wpAny _ _ (Builtin.Itertools.itNumbersFrom (.ref it) 3 >>= _) _ _ s
  refine wpAny_bind (nums_c hit ?_)
  refine wpAny_bind (int_c hit ?_)
  show wpAny _ _ (Builtin.Itertools.itPoolItems (.ref P) >>= _) _ _ s
  refine wpAny_bind ?_
  unfold Builtin.Itertools.itPoolItems seqItems?
  dsimp only
  refine wpAny_bind (wpAny_bind (wpAny_load hp ?_))
  dsimp only
  refine wpAny_pure ?_
  dsimp only
  refine wpAny_pure ?_
  split
  · rename_i jy heq
    exfalso
    have e : some jy = nxt its.length ix := by
      rw [← heq, nxt]
      show (match List.find? (fun i => ix.getD i 0 != i + its.toArray.size - ix.length) (List.range ix.length).reverse with | none => none | some i => some (ix.take i ++ (List.range (ix.length - i)).map fun j => ix.getD i 0 + 1 + j)) = _
      rw [List.size_toArray]
      cases List.find? (fun i => ix.getD i 0 != i + its.length - ix.length) (List.range ix.length).reverse <;> rfl
    rw [hj] at e
    cases e
  · refine wpAny_bind (wpAny_setField hit rfl (by simp) ?_)
    exact stop_c (s := { s with heap := s.heap.update it (Obj.mapFields fun x => x.setIfInBounds 1 (rawInt 2)) }) hh fun h' x => hQ h' ((Heap.SameBut.update ..).extBut.trans x)
theorem pn_over {Q : Option Value → Shared → Prop} (hh : A.handled = none) (hit : IsC s.heap it P 2 b ix)
    (hQ : ∀ h', Heap.ExtBut it s.heap h' → Q none { s with heap := h' }) : wpAny (model prog w) A (pyNext (.ref it)) Q E s := by
  have hT : s.TypeIs (.ref it) "itertools.combinations" := ⟨_, hit, rfl⟩
  unfold pyNext
  refine wpAny_bind (wpAny_attempt (wpAny_callSpecial?_slot (name := Str.ofString "__next__") hT slot_next (wpAny_call_entry slot_next hT entry_next ?_ (args_next _))))
  show wpAny _ _ (field (.ref it) 0 >>= _) _ _ s
  refine wpAny_bind (wpAny_field hit rfl (x := .ref P) (by rfl) ?_)
  show wpAny _ _ (Builtin.Itertools.itNumbersFrom (.ref it) 3 >>= _) _ _ s
  refine wpAny_bind (nums_c hit ?_)
  refine wpAny_bind (int_c hit ?_)
  show wpAny _ _ (rule "itertools.combinations.ended" >>= _) _ _ s
  refine wpAny_bind (wpAny_rule ?_)
  exact stop_c hh hQ
end
end Cmb

set_option maxHeartbeats 4000000
/-! combinations in the layer -/
namespace Cmb
open PySem PySem.Spec PyProof.Rows L2
/-- the lots, one behind another, each a new tuple -/
def ItC (L : List (List V)) : It := ⟨fun i _ => i < L.length, fun i H x H' => ∃ T xs, L[i]? = some xs ∧ x = .ref T ∧ H T = none ∧ H' = upd H T (.tup xs), fun i _ => L.length ≤ i⟩
theorem cmb_sub {α : Type} : ∀ (xs : List α) (r : Nat), ∀ c ∈ cmb xs r, ∀ x ∈ c, x ∈ xs
  | xs, 0, c, h, x, hx => by cases xs <;> (unfold cmb at h; rw [List.mem_singleton.mp h] at hx; cases hx)
  | [], _ + 1, c, h, x, hx => by cases h
  | y :: xs, r + 1, c, h, x, hx => by
    unfold cmb at h
    rcases List.mem_append.mp h with z | z
    · obtain ⟨d, hd, rfl⟩ := List.mem_map.mp z
      rcases List.mem_cons.mp hx with rfl | hx
      · exact List.mem_cons_self
      · exact List.mem_cons_of_mem _ (cmb_sub xs r d hd x hx)
    · exact List.mem_cons_of_mem _ (cmb_sub xs (r + 1) c z x hx)
theorem range_get {α : Type} (z : α) (xs : List α) : (List.range xs.length).map (fun i => xs.getD i z) = xs := by
  refine List.ext_getElem (by simp) fun i h1 h2 => ?_
  rw [List.getElem_map, List.getElem_range, List.getD_eq_getElem?_getD, List.getElem?_eq_getElem h2]
  rfl
theorem cmb_ix {α : Type} (z : α) (xs : List α) (r : Nat) : cmb xs r = (cmb (List.range xs.length) r).map (·.map fun i => xs.getD i z) := by
  rw [← cmb_map, range_get]
theorem vals_ix {pool : List V} {its : List Value} (h : Vals pool its) : ∀ ix : List Nat, (∀ i ∈ ix, i < pool.length) → Vals (ix.map fun i => pool.getD i .non) (ix.map fun i => its.getD i .none)
  | [], _ => .nil
  | i :: ix, hx => by
    have hi := hx i List.mem_cons_self
    obtain ⟨u, hu, ru⟩ := h.get (List.getElem?_eq_getElem hi)
    refine .cons ?_ (vals_ix h ix fun j hj => hx j (List.mem_cons_of_mem _ hj))
    show RelV (pool.getD i .non) (its.getD i .none)
    rw [List.getD_eq_getElem?_getD, List.getD_eq_getElem?_getD, List.getElem?_eq_getElem hi, hu]
    exact ru
/-- how it stands ahead of turn i -/
def TnC (it P : Addr) (its : List Value) (r : Nat) (i : Nat) (h : Heap) : Prop :=
  IsP h P its ∧ ((i = 0 ∧ IsC h it P (if r > its.length then 2 else 0) .none (List.range r)) ∨ ∃ j b ix, i = j + 1 ∧ (cmb (List.range its.length) r)[j]? = some ix ∧ IsC h it P 1 b ix)
theorem turn_c {Pr : Program} {w : World} {K : PySem.W.Frag} {tg : Expr} {it P : Addr} {its : List Value} {pool : List V} {r : Nat} (ne : P ≠ it) (hv : Vals pool its) (hr : r ≤ 1000) :
    Turn Pr w K tg (ItC (cmb pool r)) [it, P] it (TnC it P its r) where
  mem := by simp
  obj := fun i h st b hb => by
    obtain ⟨hp, st⟩ := st
    have e : b = it ∨ b = P := by simpa using hb
    rcases e with rfl | rfl
    · rcases st with ⟨_, hi⟩ | ⟨_, _, _, _, _, hi⟩
      · exact ⟨_, hi, fun v z => nomatch z⟩
      · exact ⟨_, hi, fun v z => nomatch z⟩
    · exact ⟨_, hp, fun v z => nomatch z⟩
  keep := fun i h h' st k => by
    obtain ⟨hp, st⟩ := st
    refine ⟨k P (by simp) _ hp, ?_⟩
    rcases st with ⟨e, hi⟩ | ⟨j, b, ix, e, e2, hi⟩
    · exact .inl ⟨e, k it (by simp) _ hi⟩
    · exact .inr ⟨j, b, ix, e, e2, k it (by simp) _ hi⟩
  item := by
    intro X hP hw hK hc i pins s σ H E I hf st hg
    subst hP hw hK
    obtain ⟨hp, st⟩ := st
    have lv := hv.length
    have ec := cmb_ix V.non pool r
    have hg' : i < (cmb (List.range its.length) r).length := by
      have : i < (cmb pool r).length := hg
      rw [ec, List.length_map, lv] at this
      exact this
    have hrn : r ≤ its.length := by
      refine Nat.le_of_not_lt fun z => ?_
      rw [cmb_none _ _ (by rw [List.length_range]; exact z)] at hg'
      cases hg'
    obtain ⟨chn, M, eM⟩ := cmb_all hrn
    have hil : it < s.heap.objs.size := by
      rcases st with ⟨_, hi⟩ | ⟨_, _, _, _, _, hi⟩
      · exact Heap.lt_size hi
      · exact Heap.lt_size hi
    have hPl : P < s.heap.objs.size := Heap.lt_size hp
    obtain ⟨jx, hjx⟩ : ∃ jx, (cmb (List.range its.length) r)[i]? = some jx := ⟨_, List.getElem?_eq_getElem hg'⟩
    have hjm := List.mem_of_getElem? hjx
    have hjl : jx.length = r := cmb_len _ _ _ hjm
    have fin : ∀ (h' : Heap), (∀ a o, a ≠ it → s.heap.get? a = some o → h'.get? a = some o) → h'.get? s.heap.objs.size = some { cls := .type "tuple", data := .seq (jx.map fun i => its.getD i .none).toArray } → IsC h' it P 1 (.ref s.heap.objs.size) jx →
        ∃ u, some (Value.ref s.heap.objs.size) = some u ∧ wpAny (model X.prog X.w) X.A (letOwnedTupleGo tg (.ref it) u) (fun _ s2 => ∃ x H', Inv X pins σ H' s2 ∧ RelV x u ∧ (ItC (cmb pool r)).yld i H x H' ∧ TnC it P its r (i + 1) s2.heap ∧ ∀ b ∈ [it, P], H' b = none) E { s with heap := h' } := by
      intro h' kp ht hi
      refine ⟨_, rfl, go_of (s := { s with heap := h' }) hi rfl rfl (by decide) ?_⟩
      have rv : Vals (jx.map fun i => pool.getD i .non) (jx.map fun i => its.getD i .none) := vals_ix hv jx fun i hi => by
        have := cmb_sub _ _ _ hjm i hi
        rw [lv]
        exact List.mem_range.mp this
      have new : ObjOk X.prog X.w (upd H s.heap.objs.size (.tup (jx.map fun i => pool.getD i .non))) h' s.heap.objs.size (.tup (jx.map fun i => pool.getD i .non)) :=
        ⟨by rw [List.length_map, hjl, sizeLine_eq]; omega, _, rv, ⟨_, ht, rfl, _, rfl⟩⟩
      have I1 : Inv X pins σ (upd H s.heap.objs.size (.tup (jx.map fun i => pool.getD i .non))) { s with heap := h', toks := s.toks } :=
        I.turnedNew (ch := [it, P]) (fun b ob hb q => kp b ob (fun z => hb (by simp [z])) q) hf (Nat.le_refl _) new
      refine ⟨.ref s.heap.objs.size, _, I1, rfl, ⟨_, _, ?_, rfl, I.hok.fresh (Nat.le_refl _), rfl⟩, ⟨kp P _ ne hp, .inr ⟨i, _, jx, rfl, hjx, hi⟩⟩, fun b hb => ?_⟩
      · rw [ec, List.getElem?_map, lv, hjx]
        rfl
      · have e : b = it ∨ b = P := by simpa using hb
        have hbl : b < s.heap.objs.size := by rcases e with z | z <;> (rw [z]; assumption)
        rw [upd_ne (Nat.ne_of_lt hbl)]
        exact (hf b hb).1
    rcases st with ⟨rfl, hi⟩ | ⟨j, b, ix, rfl, e2, hi⟩
    · rw [if_neg (by omega)] at hi
      have e0 : jx = List.range r := by
        rw [eM] at hjx
        exact (Option.some.inj hjx).symm
      subst e0
      exact pn_new hi hp ne (by rw [List.length_range]; exact hr) fun h' kp ht hi2 => fin h' kp ht hi2
    · obtain ⟨hj, rfl⟩ := List.getElem?_eq_some_iff.mp e2
      exact pn_on hi hp ne ((chn.at j hj).trans hjx) (by omega) fun h' kp ht hi2 => fin h' kp ht hi2
  done := by
    intro X hP hw hK hc i pins s σ H E I hf st hg
    subst hP hw hK
    obtain ⟨hp, st⟩ := st
    have lv := hv.length
    have hg' : (cmb (List.range its.length) r).length ≤ i := by
      have : (cmb pool r).length ≤ i := hg
      rw [cmb_ix V.non pool r, List.length_map, lv] at this
      exact this
    have fin : ∀ h', Heap.ExtBut it s.heap h' → (none : Option Value) = none ∧ Inv X pins σ H { s with heap := h' } := fun h' eb => by
      obtain ⟨f0, f1, f2, f3, f4, f5⟩ := hf it (by simp)
      exact ⟨rfl, I.turned (t' := s.toks) (fun b o hb q => eb b o hb q) f0 f1 f3 f4 f5⟩
    rcases st with ⟨rfl, hi⟩ | ⟨j, b, ix, rfl, e2, hi⟩
    · have hrn : r > its.length := by
        refine Nat.lt_of_not_le fun z => ?_
        obtain ⟨_, M, eM⟩ := cmb_all z
        rw [eM, List.length_cons] at hg'
        omega
      rw [if_pos hrn] at hi
      exact pn_over (I.ok.hd hc) hi fin
    · obtain ⟨hj, rfl⟩ := List.getElem?_eq_some_iff.mp e2
      have hrn : r ≤ its.length := by
        refine Nat.le_of_not_lt fun z => ?_
        rw [cmb_none _ _ (by rw [List.length_range]; exact z)] at hj
        cases hj
      obtain ⟨chn, _⟩ := cmb_all hrn
      exact pn_end (I.ok.hd hc) hi hp ((chn.at j hj).trans (List.getElem?_eq_none hg')) fin
  self := fun A i s Q E st h => by
    rcases st.2 with ⟨_, hi⟩ | ⟨_, _, _, _, _, hi⟩
    · exact iter_c hi h
    · exact iter_c hi h
end Cmb

set_option maxHeartbeats 4000000
/-! for x in combinations(e, r) in the layer -/
namespace Cmb
open PySem PySem.Spec PyProof.Rows L2
section
variable {X : Cx} {pins : List (Addr × Obj)} {s : Shared} {σ : L2.St} {H : Hp} {tg : Expr} {R : It → Hp → Prop}
theorem comb_pie (hc : X.calm = true) (I : Inv X pins σ H s) {x : Value} {r : Nat} {t : Tok} {pool : List V} (hr : r ≤ 1000)
    (hcol : ∀ (A : Around) (E : Value → Shared → Prop) (Q : List Value → Shared → Prop), A.handled = none → (∀ (h' : Heap) (tk : Nat) (its : List Value), (∀ b o, s.heap.get? b = some o → h'.get? b = some o) → its.length ≤ 1000 → Vals pool its → Q its { s with heap := h', toks := tk }) → wpAny (model X.prog X.w) A (collect x) Q E s)
    (hR : R (ItC (cmb pool r)) H) : wpAny (model X.prog X.w) X.A (call (.type "itertools.combinations") [x, .int (r : Nat) t]) (fun v s1 => wpAny (model X.prog X.w) X.A (pyIter v) (PIE X pins σ tg R) X.xe s1) X.xe s := by
  refine call_c hr (Vals pool) hcol (I.ok.hd hc) fun h1 h2 tk its k1 k2 hl hv hp hi => ?_
  refine iter_c hi ?_
  have I1 : Inv X pins σ H { s with heap := h1, toks := tk } := I.kept k1
  have I2 : Inv X pins σ H { s with heap := h2, toks := tk } := I.kept fun b o e => k2 b o (k1 b o e)
  refine ⟨h1.objs.size + 1, [h1.objs.size + 1, h1.objs.size], _, _, H, rfl, I2, turn_c (Nat.ne_of_lt (Nat.lt_succ_self _)) hv hr, ⟨hp, .inl ⟨rfl, hi⟩⟩, fun b hb => ?_, hR⟩
  have le : h1.objs.size ≤ b := by
    have e : b = h1.objs.size + 1 ∨ b = h1.objs.size := by simpa using hb
    rcases e with z | z <;> rw [z]
    · exact Nat.le_succ _
    · exact Nat.le_refl _
  exact I1.fpOk le (I1.hok.fresh le)
/-- range(n) as a thing of its own -/
theorem cr_range1 : CallR X (.type "range") (fun vs H Q => ∃ j, vs = [V.int j] ∧ ∀ p, H p = none → Q (.ref p) (upd H p (.rng 0 j))) := by
  rintro pins s σ H vs us Q I r ⟨j, rfl, q⟩
  obtain ⟨u, rfl, e⟩ := vals1 r
  obtain ⟨t, rfl⟩ := (show ∃ t, u = Value.int j t from e)
  refine call_range_1 ⟨.ref s.heap.objs.size, upd H s.heap.objs.size (.rng 0 j), I.laid (t' := s.toks + 1 + 1) (fun b o e => Heap.get?_push_of_some _ e) (Nat.le_refl _) ?_, rfl, q _ (I.hok.fresh (Nat.le_refl _))⟩
  exact ⟨_, _, _, Heap.get?_push_size _ rfl⟩
theorem col_list {a : Addr} {its : List Value} (hl : s.heap.IsList a its.toArray) (hz : its.length ≤ 1000) {pool : List V} (hv : Vals pool its) {prog : Program} {w : World} : ∀ (A : Around) (E : Value → Shared → Prop) (Q : List Value → Shared → Prop), A.handled = none → (∀ (h' : Heap) (tk : Nat) (its : List Value), (∀ b o, s.heap.get? b = some o → h'.get? b = some o) → its.length ≤ 1000 → Vals pool its → Q its { s with heap := h', toks := tk }) → wpAny (model prog w) A (collect (.ref a)) Q E s := by
  intro A E Q _ k
  refine collect_list hl (k _ s.toks its (fun b o e => ?_) hz hv) (by rw [sizeLine_eq]; omega)
  exact (Heap.get?_update_other _ _ (fun z => Nat.ne_of_lt (Heap.lt_size e) z.symm)).trans (Heap.get?_push_of_some _ e)
theorem col_range {a : Addr} {lo hi : Int} {t u v : Tok} (hr : IsRange s.heap a lo hi 1 t u v) (ok : RgOk lo hi) (hz : (hi - lo).toNat ≤ 1000) {prog : Program} {w : World} : ∀ (A : Around) (E : Value → Shared → Prop) (Q : List Value → Shared → Prop), A.handled = none → (∀ (h' : Heap) (tk : Nat) (its : List Value), (∀ b o, s.heap.get? b = some o → h'.get? b = some o) → its.length ≤ 1000 → Vals (rgV lo hi) its → Q its { s with heap := h', toks := tk }) → wpAny (model prog w) A (collect (.ref a)) Q E s := by
  intro A E Q hh k
  obtain ⟨b1, b2, b3, b4, b5⟩ := ok
  refine collect_range (n := (hi - lo).toNat) hh hr (small_one b1 b2 b3 b4) (rangeSize_nat lo hi) b5 fun h' tk acc hk hi => k h' tk acc.toList hk ?_ (vals_rg hi)
  rw [Array.length_toList, hi.1]
  exact hz
def iComb (K : PySem.W.Frag) (ta : TA) : TI := fun σ H R => ta σ H fun vs H1 => ∃ (x : V) (r : Nat) (pool : List V), vs = [x, .int r] ∧ r ≤ 1000 ∧ pool.length ≤ 1000 ∧ ((∃ a, x = .ref a ∧ SqL K H1 a pool) ∨ ∃ a lo hi, x = .ref a ∧ H1 a = some (.rng lo hi) ∧ RgOk lo hi ∧ pool = rgV lo hi) ∧ R (ItC (cmb pool r)) H1
theorem pi_comb {K : PySem.W.Frag} {e : Expr} {es : List Expr} {ta : TA} {nm : Str} {p pos : Pos} (hK : X.K = K) (hc : X.calm = true) (hg : Gl X nm) (hm : X.mg nm = some (.type "itertools.combinations")) (ha : PA X (e :: es) ta) (hdb : (nm == ("__debug__" : Str)) = false := by decide)
    (he : starEach (e :: es) X.env = (false, eval e X.env) :: starEach es X.env := by rfl) (hpl : (backTo pos (starEach es X.env)).any (·.1) = false := by rfl) : PI X tg (.Call (.Name nm p) (e :: es) [] pos) (iComb K ta) := by
  subst hK
  refine ⟨fun pins s σ H R I h => ?_⟩
  refine wpAny_Call_Name_kw (ld_glob I hg hm ?_ hdb)
  refine PyProof.Rows.callWith_type1 (thn (ha.run pos pins s σ H _ I h) fun us s1 ⟨vs, H1, I1, r1, q1⟩ => ?_) he hpl
  obtain ⟨x, r, pool, rfl, hr, hp, hx, q⟩ := q1
  obtain ⟨u1, u2, rfl, rx, ri⟩ := vals2 r1
  obtain ⟨t, rfl⟩ := (show ∃ t, u2 = Value.int r t from ri)
  rcases hx with ⟨a, rfl, hq⟩ | ⟨a, lo, hi, rfl, hq, ok, rfl⟩
  · obtain rfl : u1 = .ref a := rx
    obtain ⟨its, rv, pl, hz⟩ := I1.list hq
    exact comb_pie hc I1 hr (col_list pl.isList (by rw [← rv.length]; exact hp) rv) q
  · obtain rfl : u1 = .ref a := rx
    obtain ⟨t1, t2, t3, hr2⟩ := (show ∃ t u v, s1.heap.get? a = some { cls := .type "range", data := .fields #[.int lo t, .int hi u, .int 1 v] } from I1.hok a _ hq)
    exact comb_pie hc I1 hr (col_range hr2 ok (by rw [rgV_length] at hp; exact hp)) q
end
end Cmb

set_option maxHeartbeats 4000000
/-! for x in combinations(range(n), r), combinations(list, r) -/
namespace Pl
open PySem PySem.Spec PyProof.Rows L2 Hn Cmb
open PySem.W (Frag keepIn)
def combW (ds : List D) (r : Nat) : Wk := ⟨(cmb ds r).map D.tup, none⟩
def mItCombR (ma mb : Env → Sto → R (List D)) (ρ : Env) (st : Sto) : R Wk := (ma ρ st).bind fun a st1 => match a with
  | [.int n] => guardR (0 ≤ n ∧ n ≤ 1000) ((mb ρ st1).bind fun b st2 => match b with
    | [.int r] => guardR (0 ≤ r ∧ r ≤ 1000) (.ok (combW (rngD 0 n.toNat) r.toNat) st2)
    | _ => .no)
  | _ => .no
section
variable {g : G} {W : WX} {X : Cx} {μ μ1 : Mu} {H H1 : Hp} {st st1 : Sto} {σ : L2.St} {ρ : Env} {tg a b : Expr} {ma mb : Env → Sto → R (List D)} {nm : Str} {p p2 pos pos2 : Pos}
theorem rvs_ix {ds : List D} {vs : List V} (h : RVs g μ H ds vs) : ∀ ix : List Nat, (∀ i ∈ ix, i < ds.length) → RVs g μ H (ix.map fun i => ds.getD i .non) (ix.map fun i => vs.getD i .non)
  | [], _ => rfl
  | i :: ix, hx => by
    have hi := hx i List.mem_cons_self
    obtain ⟨v, hv, r⟩ := h.at (List.getElem?_eq_getElem hi)
    refine .cons ?_ (rvs_ix h ix fun j hj => hx j (List.mem_cons_of_mem _ hj))
    show RV g μ H (ds.getD i .non) (vs.getD i .non)
    rw [List.getD_eq_getElem?_getD, List.getD_eq_getElem?_getD, List.getElem?_eq_getElem hi, hv]
    exact r
theorem rit_c {ds : List D} {vs : List V} {r : Nat} (h : RVs g μ H ds vs) : RIt g μ H (combW ds r) (ItC (cmb vs r)) := by
  intro i μ2 H2 st2 t S y
  have h2 := t.rv _ _ h
  have hl := h2.length
  have e1 := cmb_ix D.non ds r
  have e2 := cmb_ix V.non vs r
  rw [hl] at e2
  refine ⟨fun z => ?_, fun d hd => ?_⟩
  · show (cmb vs r).length ≤ i
    have : (Wk.items (combW ds r)).length ≤ i := z
    rw [show (combW ds r).items = (cmb ds r).map D.tup from rfl, List.length_map, e1, List.length_map] at this
    rw [e2, List.length_map]
    exact this
  · rw [show (combW ds r).items = (cmb ds r).map D.tup from rfl, e1, List.map_map, List.getElem?_map] at hd
    obtain ⟨ix, h3, rfl⟩ := Option.map_eq_some_iff.mp hd
    have h4 : (cmb vs r)[i]? = some (ix.map fun i => vs.getD i .non) := by
      rw [e2, List.getElem?_map, h3]
      rfl
    refine ⟨(List.getElem?_eq_some_iff.mp h4).1, fun x H' hy => ?_⟩
    obtain ⟨T, xs, h5, rfl, nT, rfl⟩ := hy
    rw [h4] at h5
    cases h5
    have rv := rvs_ix h2 ix fun i hi => List.mem_range.mp (cmb_sub _ _ _ (List.mem_of_getElem? h3) i hi)
    exact ⟨Go.side S nT, S.side nT, T, _, rfl, ⟨S.off nT, upd_same⟩, rv.go (Go.side S nT)⟩
theorem pmi_combR (hK : X.K = g.K) (hc : X.calm = true) (hg : Gl X nm) (hm : X.mg nm = some (.type "itertools.combinations")) (hg2 : Gl X "range") (hm2 : X.mg "range" = none) (ha : PMA g W X [a] ma) (hb : PMA g W X [b] mb) (hdb : (nm == ("__debug__" : Str)) = false := by decide)
    (he : starEach [.Call (.Name "range" p2) [a] [] pos2, b] X.env = (false, eval (.Call (.Name "range" p2) [a] [] pos2) X.env) :: starEach [b] X.env := by rfl) (hpl : (backTo pos (starEach [b] X.env)).any (·.1) = false := by rfl)
    (he2 : starEach [a] X.env = (false, eval a X.env) :: starEach [] X.env := by rfl) : PMI g W X tg (.Call (.Name nm p) [.Call (.Name "range" p2) [a] [] pos2, b] [] pos) (mItCombR ma mb) :=
  (pi_comb (K := g.K) hK hc hg hm (pa_cons (pe_callTy cr_range1 hg2 hm2 boot_range ha (he := he2)) hb he) hdb he hpl).imp fun σ H Q ⟨μ, ρ, st, rel, p⟩ => by
    refine tG_bind rel p fun μ1 as st1 xs H1 go1 rel1 rv1 p1 => ?_
    split at p1
    · rename_i n
      obtain ⟨v, rfl, hv⟩ := one_at rv1
      obtain rfl : v = .int n := hv
      obtain ⟨⟨h0, h1⟩, p1⟩ := post_guard p1
      refine ⟨n, rfl, fun q hq => ?_⟩
      have goq : Go μ1 H1 μ1 (upd H1 q (.rng 0 n)) := Go.side rel1.sto hq
      have relq : Rel g μ1 σ (upd H1 q (.rng 0 n)) ρ st1 := rel1.go goq (rel1.sto.side hq)
      refine tG_bind relq (PostG.base goq p1) fun μ2 bs st2 ys H2 go2 rel2 rv2 p2 => ?_
      split at p2
      · rename_i r
        obtain ⟨v2, rfl, hv2⟩ := one_at rv2
        obtain rfl : v2 = .int r := hv2
        obtain ⟨⟨h2, h3⟩, p2⟩ := post_guard p2
        have hqq : H2 q = some (.rng 0 n) := go2.keep q _ (rel1.sto.off hq).1 upd_same
        obtain ⟨r', rfl⟩ : ∃ k : Nat, r = (k : Int) := ⟨r.toNat, by omega⟩
        refine ⟨.ref q, r', rgV 0 n, rfl, by omega, by rw [rgV_length]; omega, .inr ⟨q, 0, n, rfl, hqq, RgOk.of_le (by omega) (by omega) (by omega) (by omega), rfl⟩, ?_⟩
        rw [Int.toNat_natCast] at p2
        have rr : RVs g μ2 H2 (rngD 0 n.toNat) (rgV 0 n) := by
          have := rvs_rg (g := g) (a := 0) (b := n) (μ := μ2) (H := H2)
          rw [Int.sub_zero] at this
          exact this
        exact PostG.now p2 rel2.sto (rit_c rr)
      · exact p2.elim
    · exact p1.elim
end
end Pl

set_option maxHeartbeats 4000000
/-! a def that calls itself: so many deep; where it stops nothing is promised -/
namespace Pl
open PySem PySem.Spec PyProof.Rows L2 Hn
open PySem.W (Frag keepIn)
theorem _root_.Hn.Dfn.keptNo {P : Program} {w : World} {K : Frag} {mg : Str → Option Value} {base : Heap} {x : Str} {st : Stmt} {N ps : List Str} {k : Nat} {h0 : Hp} (D : Dfn K mg x st ps) (S : FnScope N ps (defScope st)) :
    KeptM ⟨P, w, K, mg, none, h0⟩ base (k + 1) x ps (fun _ _ => .no) := by
  refine D.keptX S (fun vs H Q E h => ?_) (fun f cdv A ou s H vs Q E hr h => ?_)
  · obtain ⟨μ, st, ds, S, r, p⟩ := h
    exact p.elim
  · obtain ⟨μ, st, ds, S, r, p⟩ := h
    exact p.elim
end Pl

set_option maxHeartbeats 4000000
/-! [x] * n, to be written into -/
namespace Pl
open PySem PySem.Spec PyProof.Rows L2 Hn
section
variable {g : G} {W : WX} {X : Cx} {a b : Expr} {ma mb : Env → Sto → R D} {pos : Pos}
end
end Pl

set_option maxHeartbeats 4000000
/-! sorted(t), t a tuple of ints -/
namespace SrtT
open PySem PyProof.Rows Srt
section
variable {pr : Program} {wo : World} {Ar : Around} {Er : Value → Shared → Prop} {sh : Shared} {t : Addr} {xs : List Value}
end
end SrtT
namespace Pl
open PySem PySem.Spec PyProof.Rows L2 Hn
open PySem.W (Frag keepIn)
section
variable {g : G} {X : Cx}
end
end Pl

set_option maxHeartbeats 4000000
/-! min(xs, default=None), xs ints -/
namespace Pl
open PySem PySem.Spec PyProof.Rows L2 Hn
open PySem.W (Frag keepIn)
section
variable {g : G} {W : WX} {X : Cx} {μ μ1 : Mu} {H H1 : Hp} {st st1 : Sto} {σ : L2.St} {ρ : Env} {e : Expr} {ms : Env → Sto → R (List D)} {p p2 p3 pos : Pos}
end
section
variable {g : G} {W : WX} {X : Cx} {μ μ1 : Mu} {H H1 : Hp} {st st1 : Sto} {σ : L2.St} {ρ : Env} {e : Expr} {ms : Env → Sto → R (List D)} {p p2 p3 pos : Pos}
end
end Pl

set_option maxHeartbeats 4000000
/-! a, b, c = a list of as many, made on the spot -/
namespace Pl
open PySem PySem.Spec PyProof.Rows L2 Hn
def lstX : D → Option (List D)
  | .lst xs => some xs
  | _ => none
@[simp] def mAsgL (ps : List Pat) (m : Env → Sto → R D) (ρ : Env) (st : Sto) : O := O.of (m ρ st) ρ fun d st1 => ofOptO (lstX d) fun xs => ofOptO (setAll ps xs ρ) fun ρ' => .nx ρ' st1
section
variable {g : G} {W : WX} {X : Cx} {es : List Expr} {e : Expr} {pos : Pos} {m : Env → Sto → R D}
end
end Pl

set_option maxHeartbeats 4000000
/-! texts: join, str, f'..'; count and index of a list; defs that stand in a list -/
namespace Pl
open PySem PySem.Spec PyProof.Rows L2 Hn
open PySem.W (Frag keepIn)
theorem hu65s {A B : Around} {k : Nat} (hr : Room k A) (e : B.units = A.units := by rfl) : B.units + 65 < cLine := by rw [e]; exact hu65 hr
def strsD : List D → Option (List Str)
  | [] => some []
  | .str s :: ds => (strsD ds).map (s :: ·)
  | _ :: _ => none
theorem strs_eq : ∀ {ds : List D} {ys : List Str}, strsD ds = some ys → ds = ys.map D.str
  | [], ys, e => by cases e; rfl
  | .str s :: ds, ys, e => by
    unfold strsD at e
    obtain ⟨zs, e1, rfl⟩ := Option.map_eq_some_iff.mp e
    rw [strs_eq e1]
    rfl
  | .non :: _, _, e => by cases e
  | .bl _ :: _, _, e => by cases e
  | .int _ :: _, _, e => by cases e
  | .tup _ :: _, _, e => by cases e
  | .lst _ :: _, _, e => by cases e
  | .rol _ :: _, _, e => by cases e
  | .dct _ _ :: _, _, e => by cases e
  | .loc _ :: _, _, e => by cases e
  | .nam _ :: _, _, e => by cases e
  | .err _ _ :: _, _, e => by cases e
theorem strs_map : ∀ ys : List Str, strsD (ys.map D.str) = some ys
  | [] => rfl
  | y :: ys => by
    rw [List.map_cons]
    unfold strsD
    rw [strs_map ys]
    rfl
def strD (ds : List D) (st : Sto) : R D := match ds with
  | [.int i] => guardR (i.natAbs.log2 < 1920) (.ok (.str (toString i)) st)
  | [.str s] => .ok (.str s) st
  | _ => .no
def rStr : List V → Hp → VK → Prop := fun xs H Q => (∃ a, xs = [V.str a] ∧ Q (.str a) H) ∨ ∃ i : Int, xs = [V.int i] ∧ i.natAbs.log2 < 1920 ∧ Q (.str (toString i)) H
theorem call_strA {X : Cx} : CallR X (.type "str") rStr := by
  intro pins s σ H vs us Q I r h
  rcases h with h | h
  · exact SkE.call_str_str pins s σ H vs us Q I r h
  · exact call_str_int pins s σ H vs us Q I r h
/-- sep.join(xs) -/
def joinD (a b : D) (st : Sto) : R D := match a with
  | .str s => ofOpt (itemsS st b) fun xs => ofOpt (strsD xs) fun ys => guardR ((ys.map (·.length)).sum + ys.length * s.length ≤ 16777216) (.ok (.str (Txt.join s ys)) st)
  | _ => .no
/-- o.m(e), o a text -/
def mStrM (f : D → D → Sto → R D) (ma mb : Env → Sto → R D) (ρ : Env) (st : Sto) : R D := (ma ρ st).bind fun a st1 => match a with
  | .str s => (mb ρ st1).bind fun b st2 => f (.str s) b st2
  | _ => .no
/-- a text's part -/
def fmtD (a : D) (st : Sto) : R D := match a with
  | .str y => guardR (y.length ≤ sizeLine) (.ok (.str y) st)
  | .int i => guardR (i.natAbs.log2 < 1920) (.ok (.str (toString i)) st)
  | _ => .no
def mJs : List (Env → Sto → R D) → Str → Env → Sto → R D
  | [], acc, _, st => .ok (.str acc) st
  | m :: ms, acc, ρ, st => (m ρ st).bind fun d st1 => match d with
    | .str y => guardR ((acc ++ y).length ≤ sizeLine) (mJs ms (acc ++ y) ρ st1)
    | _ => .no
def mFStr (ms : List (Env → Sto → R D)) (ρ : Env) (st : Sto) : R D := mJs ms Str.empty ρ st
/-- xs.count(d), xs.index(d) -/
def cntD (x : D) (ds : List D) (st : Sto) : R D := match ds with
  | [d] => ofOpt (itemsL st x) fun xs => ofOpt (toQ st d) fun p => ofOpt (toPs xs) fun ps => guardR (SeqAt.shaped p = true ∧ SeqAt.shaped (.list ps) = true) (.ok (.int ((ps.countP fun y => PyData.eqv y p : Nat) : Int)) st)
  | _ => .no
def idxD (x : D) (ds : List D) (st : Sto) : R D := match ds with
  | [d] => ofOpt (itemsL st x) fun xs => ofOpt (toQ st d) fun p => ofOpt (toPs xs) fun ps => guardR (SeqAt.shaped p = true ∧ SeqAt.shaped (.list ps) = true) (ofOpt (ps.findIdx? fun y => PyData.eqv y p) fun j => .ok (.int (j : Nat)) st)
  | _ => .no
/-- a call of what an expression tells, one of some defs -/
def mCallN (tab : List (Str × (List D → Sto → R D))) (mf : Env → Sto → R D) (ms : Env → Sto → R (List D)) (ρ : Env) (st : Sto) : R D := (mf ρ st).bind fun d st1 => match d with
  | .nam x => (match tab.lookup x with
    | some f => (ms ρ st1).bind fun ds st2 => f ds st2
    | none => .no)
  | _ => .no
section
variable {g : G} {W : WX} {X : Cx} {μ μ1 μ2 : Mu} {H H1 H2 : Hp} {st st1 : Sto} {σ : L2.St} {ρ : Env} {o e : Expr} {es : List Expr} {ma mb mf : Env → Sto → R D} {ms : Env → Sto → R (List D)} {pos apos p : Pos}
theorem cm_str : CM g rStr strD := by
  intro W σ μ H st vs ds Q S rv p
  unfold strD at p
  split at p
  · obtain ⟨v, rfl, h⟩ := one_at rv
    obtain ⟨hg, q⟩ := post_guard p
    exact .inr ⟨_, by rw [show v = _ from h], hg, PostG.now q S rfl⟩
  · obtain ⟨v, rfl, h⟩ := one_at rv
    exact .inl ⟨_, by rw [show v = _ from h], PostG.now p S rfl⟩
  · exact p.elim
theorem pm_join (hK : X.K = g.K) (ho : PM g W X o ma) (he : PM g W X e mb) (hs : starEach [e] X.env = [(false, eval e X.env)] := by rfl) (hbase : attributeBase o "join" X.env (eval o X.env) = eval o X.env := by rfl) (hline : (apos.endLine == pos.line) = true := by rfl) :
    PM g W X (.Call (.Attribute o "join" apos) [e] [] pos) (mStrM joinD ma mb) :=
  (pe_join ho he hs hbase hline).imp fun σ H Q ⟨μ, ρ, st, rel, p⟩ => tG_bind rel p fun μ1 a st1 x H1 go1 rel1 rv1 p1 => by
    cases a with
    | str s =>
      refine ⟨⟨s, rv1⟩, tG_bind rel1 p1 fun μ2 b st2 y H2 go2 rel2 rv2 p2 => ?_⟩
      unfold joinD at p2
      simp only at p2
      obtain ⟨xs, e1, p3⟩ := post_opt p2
      obtain ⟨ys, e2, p4⟩ := post_opt p3
      obtain ⟨hg, p5⟩ := post_guard p4
      obtain ⟨l, vs, rfl, hl, r⟩ := itemsS_at rel2.sto rv2 e1
      obtain rfl := strs_eq e2
      obtain rfl := r.strs
      rw [hK]
      exact ⟨s, l, ys, rv1, rfl, hl.symm, hg, PostG.now p5 rel2.sto rfl⟩
    | _ => exact p1.elim
theorem pm_fmt (he : PM g W X e ma) : PM g W X (.FormattedValue e (-1) none pos) (mUn fmtD ma) :=
  (pe_fmt he).imp fun σ H Q ⟨μ, ρ, st, rel, p⟩ => tG_bind rel p fun μ1 d st1 x H1 go1 rel1 rv1 p1 => by
    cases d with
    | str y =>
      obtain ⟨hg, q⟩ := post_guard p1
      exact .inl ⟨y, rv1, hg, PostG.now q rel1.sto rfl⟩
    | int i =>
      obtain ⟨hg, q⟩ := post_guard p1
      exact .inr ⟨i, rv1, hg, PostG.now q rel1.sto rfl⟩
    | _ => exact p1.elim
inductive PMJ (g : G) (W : WX) (X : Cx) : List Expr → List (Env → Sto → R D) → Prop where
  | nil : PMJ g W X [] []
  | cons {e : Expr} {m : Env → Sto → R D} {es : List Expr} {ms : List (Env → Sto → R D)} (h : PM g W X e m) (r : PMJ g W X es ms) : PMJ g W X (e :: es) (m :: ms)
theorem PMJ.pj {es : List Expr} {ms : List (Env → Sto → R D)} (h : PMJ g W X es ms) : PJ X es (ms.map (tOf g W)) := by
  induction h with
  | nil => exact .nil
  | cons h _ ih => exact .cons h ih
theorem js_ok : ∀ {ms : List (Env → Sto → R D)} {acc : Str} {ρ : Env} {st : Sto} {σ : L2.St} {μ : Mu} {H : Hp} {Q : VK}, Rel g μ σ H ρ st → PostG g W σ μ H (RV g) (mJs ms acc ρ st) Q → tJs (ms.map (tOf g W)) acc σ H fun out H1 => Q (.str out) H1
  | [], acc, ρ, st, σ, μ, H, Q, rel, p => PostG.now p rel.sto rfl
  | m :: ms, acc, ρ, st, σ, μ, H, Q, rel, p => tG_bind rel p fun μ1 d st1 x H1 go1 rel1 rv1 p1 => by
    cases d with
    | str y =>
      obtain ⟨hg, q⟩ := post_guard p1
      exact ⟨y, rv1, hg, js_ok rel1 q⟩
    | _ => exact p1.elim
theorem pm_fstr {v1 v2 : Expr} {rest : List Expr} {ms : List (Env → Sto → R D)} (h : PMJ g W X (v1 :: v2 :: rest) ms) : PM g W X (.JoinedStr (v1 :: v2 :: rest) pos) (mFStr ms) :=
  (pe_joined h.pj).imp fun σ H Q ⟨μ, ρ, st, rel, p⟩ => js_ok rel p
theorem mt_cntD {K : Frag} (e : X.K = K) (hu : X.A.units + 65 < cLine) : MtM X "list.count" (fun x xs H Q => ∃ (a : Addr) (vs : List V) (y : V) (d : PyData) (ds : List PyData), x = .ref a ∧ xs = [y] ∧ H a = some (.lst vs) ∧ DpAll K H vs ds ∧ Dp K H y d ∧ SeqAt.shaped d = true ∧ SeqAt.shaped (.list ds) = true ∧ Q (.int ((ds.countP fun z => PyData.eqv z d : Nat) : Int)) H) := by
  subst e
  rintro pins s σ H x xs v us Q I rx rxs ⟨a, vs, y, d, ds, rfl, rfl, hH, ha, hy, sd, sl, q⟩
  cases rx
  obtain ⟨u, rfl, ru⟩ := rxs.one
  obtain ⟨z, its, n, r, hl, e⟩ := I.lstM hH
  obtain ⟨bs, r1⟩ := Dp.reads I d y u hy ru
  obtain ⟨as, r2⟩ := Dp.readsAll I ds _ its ha r
  refine SeqAt.count_list_data (vs := its.toArray) (xs := ds) (d := d) (as := as) (bs := bs) ⟨_, e, rfl, n, rfl⟩ r2 r1 (PyData.plainAll_of_canLay0 ds (SeqAt.canLay_of_shaped sl)) (PyData.plain_of_canLay0 d (SeqAt.canLay_of_shaped sd)) (room_in_shaped sd hu) ?_
  exact ⟨.int _, H, I.tok _, ⟨_, rfl⟩, q⟩
theorem mm_cnt : MM g (fun x xs H Q => ∃ (a : Addr) (vs : List V) (y : V) (d : PyData) (ds : List PyData), x = .ref a ∧ xs = [y] ∧ H a = some (.lst vs) ∧ DpAll g.K H vs ds ∧ Dp g.K H y d ∧ SeqAt.shaped d = true ∧ SeqAt.shaped (.list ds) = true ∧ Q (.int ((ds.countP fun z => PyData.eqv z d : Nat) : Int)) H) cntD := by
  intro W σ μ H st x vs dx ds Q S rx rs p
  unfold cntD at p
  split at p
  · obtain ⟨v, rfl, h⟩ := one_at rs
    obtain ⟨xs, e, p1⟩ := post_opt p
    obtain ⟨pd, e1, p1⟩ := post_opt p1
    obtain ⟨ps, e2, p1⟩ := post_opt p1
    obtain ⟨hg, p1⟩ := post_guard p1
    obtain ⟨a, ws, rfl, k, r⟩ := itemsL_at S rx e
    exact ⟨a, ws, v, pd, ps, rfl, rfl, k, toPs_dp r e2, toQ_dp S h e1, hg.1, hg.2, PostG.now p1 S rfl⟩
  · exact p.elim
theorem mm_idx : MM g (rIndexD g.K) idxD := by
  intro W σ μ H st x vs dx ds Q S rx rs p
  unfold idxD at p
  split at p
  · obtain ⟨v, rfl, h⟩ := one_at rs
    obtain ⟨xs, e, p1⟩ := post_opt p
    obtain ⟨pd, e1, p1⟩ := post_opt p1
    obtain ⟨ps, e2, p1⟩ := post_opt p1
    obtain ⟨hg, p1⟩ := post_guard p1
    obtain ⟨j, e3, p1⟩ := post_opt p1
    obtain ⟨a, ws, rfl, k, r⟩ := itemsL_at S rx e
    obtain ⟨hj, h1, h2⟩ := List.findIdx?_eq_some_iff_getElem.mp e3
    refine ⟨a, v, pd, ps, j, ps[j], rfl, rfl, .lst (SqL.of k) (toPs_dp r e2), toQ_dp S h e1, hg.2, hg.1, List.getElem?_eq_getElem hj, h1, fun m z' hm hz => ?_, PostG.now p1 S rfl⟩
    obtain ⟨hl, rfl⟩ := List.getElem?_eq_some_iff.mp hz
    have := h2 m hm
    simpa using this
  · exact p.elim
theorem mt_idxD {K : Frag} (e : X.K = K) (hu : X.A.units + 65 < cLine) : MtM X "list.index" (rIndexD K) := by
  subst e
  exact mt_indexD hu
variable {k : Nat} {x : Str} {ps : List Str} {f : List D → Sto → R D} {base : Heap} {fe : Expr}
/-- a def's name as a value -/
theorem pm_nam (Gf : KeptM g base k x ps f) (hm : X.mg = g.mg) (hg : Gl X x) (hdb : (x == ("__debug__" : Str)) = false := by decide) : PM g W X (.Name x p) (mC (.nam x)) := by
  obtain ⟨a, fd, gm, _⟩ := Gf
  exact pm_c (.nam x) (pe_glob (v := V.ref a) hg (by rw [hm]; exact gm) rfl hdb) fun μ H => ⟨a, rfl, gm⟩
/-- the defs that may be called so -/
def TabOk (g : G) (X : Cx) (base : Heap) (tab : List (Str × (List D → Sto → R D))) : Prop := ∀ x f, tab.lookup x = some f → ∃ k ps, KeptM g base k x ps f ∧ Room k X.A
theorem tab_nil : TabOk g X base [] := fun _ _ h => by cases h
theorem tab_cons {tab : List (Str × (List D → Sto → R D))} (Gf : KeptM g base k x ps f) (hr : Room k X.A) (h : TabOk g X base tab) : TabOk g X base ((x, f) :: tab) := fun y f' e => by
  rw [List.lookup_cons] at e
  split at e
  · rename_i q
    have q := eq_of_beq q
    subst q
    cases e
    exact ⟨k, ps, Gf, hr⟩
  · exact h y f' e
theorem pm_callN {tab : List (Str × (List D → Sto → R D))} (hT : TabOk g X base tab) (hP : X.prog = g.P) (hw : X.w = g.w) (hK : X.K = g.K) (hm : X.mg = g.mg) (hb : X.base = base) (hx : ∀ σ, PassesAt (L2.CX X.prog X.w) X σ (WE W σ)) (hf : PM g W X fe mf) (ha : PMA g W X (e :: es) ms)
    (hev : eval (.Call fe (e :: es) [] pos) X.env = (do callWith pos (← eval fe X.env) [] (backTo pos (starEach (e :: es) X.env)) (backToKw pos (keywordEach [] X.env))) := by rfl)
    (he : starEach (e :: es) X.env = (false, eval e X.env) :: starEach es X.env := by rfl) (hpl : (backTo pos (starEach es X.env)).any (·.1) = false := by rfl) : PM g W X (.Call fe (e :: es) [] pos) (mCallN tab mf ms) := by
  refine ⟨fun pins s σ H Q I ⟨μ, ρ, st, rel, p⟩ => ?_⟩
  rw [hev]
  refine wpAny_bind (thn (hf.run pins s σ H (fun v H1 => ∃ (a : Addr) (nm : Str) (f : List D → Sto → R D), v = .ref a ∧ g.mg nm = some (.ref a) ∧ tab.lookup nm = some f ∧ tAOf g W ms σ H1 fun vs H2 => spM g f vs H2 Q (WE W σ)) I (tG_bind rel p fun μ1 d st1 x H1 go1 rel1 rv1 p1 => ?_)) fun v s1 hv => ?_)
  · cases d with
    | nam nm =>
      obtain ⟨a, rfl, gm⟩ := rv1
      simp only at p1
      cases e1 : tab.lookup nm with
      | none => rw [e1] at p1; exact p1.elim
      | some f =>
        rw [e1] at p1
        exact ⟨a, nm, f, rfl, gm, e1, tG_bind rel1 p1 fun μ2 ds st2 vs H2 go2 rel2 rv2 p2 => ⟨μ2, st2, ds, rel2.sto, rv2, R.post_mono p2 (fun _ _ q => q) fun _ _ q => q⟩⟩
    | _ => exact p1.elim
  · obtain ⟨x, H1, I1, r1, a, nm, f, rfl, gm, e1, ht⟩ := hv
    cases r1
    obtain ⟨k, ps, Gf, hr⟩ := hT nm f e1
    obtain ⟨fa, fd, gm2, kp, b, F⟩ : KeptX X.prog X.w X.K X.mg X.base k nm ps (spM g f) := by rw [hP, hw, hK, hm, hb]; exact Gf
    rw [hm, gm] at gm2
    cases gm2
    refine PySem.W.callWith_K (h₀ := X.base) I1.ok.mod.kin kp (thn (ha.run pos pins s1 σ H1 _ I1 ht) fun us s2 ⟨vs, H2, I2, r, q⟩ => ⟨I2.kIn, ?_⟩) he hpl
    exact run_fnS F hr b (hx σ) I2 r q
end
end Pl

set_option maxHeartbeats 4000000
namespace Pl
open PySem PySem.Spec PyProof.Rows L2 Hn
/-- is_integer(thing) -/
noncomputable def M_is_integer : List D → Sto → R D := mDef 1 1
    (mRet (mAndV (mUn (isiD "int") (mV 0)) (mNotV (mUn (isiD "bool") (mV 0)))))
/-- is_between(thing, least, most) -/
noncomputable def M_is_between : List D → Sto → R D := mDef 3 3
    (mRet (mAndV (mCall M_is_integer (mCons (mV 0) mNil)) (mChain (cmpI fun i j => decide (i ≤ j)) (cmpI fun i j => decide (i ≤ j)) (mV 1) (mV 0) (mV 2))))
/-- is_person(thing, many) -/
noncomputable def M_is_person : List D → Sto → R D := mDef 2 2
    (mRet (mCall M_is_between (mCons (mV 0) (mCons (mC (.int 0)) (mCons (mBin subD (mV 1) (mC (.int 1))) mNil)))))
/-- is_ascending(row) -/
noncomputable def M_is_ascending : List D → Sto → R D := mDef 1 2
    (mRet (mCall allD (mCons (mComp (mItA rng1R (mCons (mBin subD (mCall lenD (mCons (mV 0) mNil)) (mC (.int 1))) mNil)) [1] (.nm 1) mYes (mBin ltD (mBin ixD (mV 0) (mV 1)) (mBin ixD (mV 0) (mBin addD (mV 1) (mC (.int 1)))))) mNil)))
/-- is_pocket(thing, u, many) -/
noncomputable def M_is_pocket : List D → Sto → R D := mDef 3 4
    (mSeq (mIfS (mNot (mTru (mUn (isiD "tuple") (mV 0)))) (mRet (mC (.bl false))) mNext)
    (mRet (mAndV (mCall allD (mCons (mComp (mIt (mV 0)) [3] (.nm 3) mYes (mAndV (mCall M_is_person (mCons (mV 3) (mCons (mV 2) mNil))) (mBin neD (mV 3) (mV 1)))) mNil)) (mCall M_is_ascending (mCons (mV 0) mNil)))))
/-- is_web(thing) -/
noncomputable def M_is_web : List D → Sto → R D := mDef 1 2
    (mSeq (mIfS (mOr (mNot (mTru (mUn (isiD "tuple") (mV 0)))) (mNot (mTst (mChain (cmpI fun i j => decide (i ≤ j)) (cmpI fun i j => decide (i ≤ j)) (mC (.int 1)) (mCall lenD (mCons (mV 0) mNil)) (mC (.int 9)))))) (mRet (mC (.bl false))) mNext)
    (mRet (mCall allD (mCons (mComp (mItA rng1R (mCons (mCall lenD (mCons (mV 0) mNil)) mNil)) [1] (.nm 1) mYes (mCall M_is_pocket (mCons (mBin ixD (mV 0) (mV 1)) (mCons (mV 1) (mCons (mCall lenD (mCons (mV 0) mNil)) mNil))))) mNil))))
/-- check_web(thing) -/
noncomputable def M_check_web : List D → Sto → R D := mDef 1 1
    (mIfS (mNot (mTru (mCall M_is_web (mCons (mV 0) mNil)))) (mRaise0 "NoWeb") mNext)
/-- steps_from(pockets, start) -/
noncomputable def M_steps_from : List D → Sto → R D := mDef 2 7
    (mSeq (mSet 2 (mDispM [((mV 1), (mC (.int 0)))]))
    (mSeq (mSet 3 (mLst (mCons (mV 1) mNil)))
    (mSeq (mWhile (mTru (mV 3)) (mSeq (mSet 4 (mLstM mNil))
    (mSeq (mFor (mIt (mV 3)) (.nm 5) (mFor (mIt (mBin ixD (mV 0) (mV 5))) (.nm 6) (mIfS (mTst (mBin (inD true) (mV 6) (mV 2))) (mSeq (mPut (mV 2) (mV 6) (mBin addD (mBin ixD (mV 2) (mV 5)) (mC (.int 1))))
    (mExpr (mMeth appD (mV 4) (mCons (mV 6) mNil)))) mNext)))
    (mSet 3 (mV 4)))))
    (mRet (mV 2)))))
/-- found_from(pockets, start) -/
noncomputable def M_found_from : List D → Sto → R D := mDef 2 2
    (mRet (mCall tupleD (mCons (mCall sortedD (mCons (mCall M_steps_from (mCons (mV 0) (mCons (mV 1) mNil))) mNil)) mNil)))
/-- all_found(pockets) -/
noncomputable def M_all_found : List D → Sto → R D := mDef 1 2
    (mRet (mCall tupleD (mCons (mComp (mItA rng1R (mCons (mCall lenD (mCons (mV 0) mNil)) mNil)) [1] (.nm 1) mYes (mCall M_found_from (mCons (mV 0) (mCons (mV 1) mNil)))) mNil)))
/-- without(pockets, gone) -/
noncomputable def M_without : List D → Sto → R D := mDef 2 5
    (mRet (mCall tupleD (mCons (mComp (mItA enumR (mCons (mV 0) mNil)) [3, 4] (.tp [(.nm 3), (.nm 4)]) mYes (mIf (mTst (mBin (inD false) (mV 3) (mV 1))) (mTup mNil) (mCall tupleD (mCons (mComp (mIt (mV 4)) [2] (.nm 2) (mTst (mBin (inD true) (mV 2) (mV 1))) (mV 2)) mNil)))) mNil)))
/-- is_whole(web, gone) -/
noncomputable def M_is_whole : List D → Sto → R D := mDef 2 6
    (mSeq (mSet 2 (mCall M_without (mCons (mCall M_all_found (mCons (mCall M_without (mCons (mV 0) (mCons (mV 1) mNil))) mNil)) (mCons (mV 1) mNil))))
    (mSeq (mSet 3 (mBin subD (mCall lenD (mCons (mV 0) mNil)) (mCall lenD (mCons (mV 1) mNil))))
    (mRet (mCall allD (mCons (mComp (mItA enumR (mCons (mV 2) mNil)) [4, 5] (.tp [(.nm 4), (.nm 5)]) (mTst (mBin (inD true) (mV 4) (mV 1))) (mBin eqD (mCall lenD (mCons (mV 5) mNil)) (mV 3))) mNil)))))
/-- weak_lot(web, most) -/
noncomputable def M_weak_lot : List D → Sto → R D := mDef 2 4
    (mSeq (mFor (mItA rng1R (mCons (mBin addD (mCall min2D (mCons (mV 1) (mCons (mCall lenD (mCons (mV 0) mNil)) mNil))) (mC (.int 1))) mNil)) (.nm 2) (mFor (mItCombR (mCons (mCall lenD (mCons (mV 0) mNil)) mNil) (mCons (mV 2) mNil)) (.nm 3) (mIfS (mNot (mTru (mCall M_is_whole (mCons (mV 0) (mCons (mV 3) mNil))))) (mRet (mV 3)) mNext)))
    (mRet (mC .non)))
/-- weak(web, k) -/
noncomputable def M_weak : List D → Sto → R D := mDef 2 2
    (mSeq (mExpr (mCall M_check_web (mCons (mV 0) mNil)))
    (mSeq (mIfS (mNot (mTru (mCall M_is_between (mCons (mV 1) (mCons (mC (.int 0)) (mCons (mC (.int 9)) mNil)))))) (mRaise0 "NoNumber") mNext)
    (mRet (mCall M_weak_lot (mCons (mV 0) (mCons (mV 1) mNil))))))
/-- firm(web, k) -/
noncomputable def M_firm : List D → Sto → R D := mDef 2 2
    (mRet (mBin (isD false) (mCall M_weak (mCons (mV 0) (mCons (mV 1) mNil))) (mC .non)))
/-- greatest_firm(web) -/
noncomputable def M_greatest_firm : List D → Sto → R D := mDef 1 2
    (mSeq (mExpr (mCall M_check_web (mCons (mV 0) mNil)))
    (mSeq (mSet 1 (mCall M_weak_lot (mCons (mV 0) (mCons (mCall lenD (mCons (mV 0) mNil)) mNil))))
    (mRet (mIf (mTst (mBin (isD false) (mV 1) (mC .non))) (mCall lenD (mCons (mV 0) mNil)) (mBin subD (mCall lenD (mCons (mV 1) mNil)) (mC (.int 1)))))))
/-- person_line(u, pocket) -/
noncomputable def M_person_line : List D → Sto → R D := mDef 2 3
    (mRet (mStrM joinD (mC (.str " ")) (mLst (mCons (mFStr [(mUn fmtD (mV 0)), (mC (.str ":"))]) (mStar (mComp (mIt (mV 1)) [2] (.nm 2) mYes (mCall strD (mCons (mV 2) mNil))) mNil)))))
/-- web_text(web) -/
noncomputable def M_web_text : List D → Sto → R D := mDef 1 3
    (mSeq (mExpr (mCall M_check_web (mCons (mV 0) mNil)))
    (mRet (mStrM joinD (mC (.str "\n")) (mComp (mItA enumR (mCons (mV 0) mNil)) [1, 2] (.tp [(.nm 1), (.nm 2)]) mYes (mCall M_person_line (mCons (mV 1) (mCons (mV 2) mNil)))))))
/-- _law_hand(script) -/
noncomputable def M__law_hand : List D → Sto → R D := mDef 1 3
    (mSeq (mSet 1 (mComp (mIt (mSl (mV 0) mNoPart (mPart (mC (.int 63))))) [2] (.nm 2) mYes (mCall absD (mCons (mCall intD (mCons (mV 2) mNil)) mNil))))
    (mRet (mLstM (mCons (mV 1) (mCons (mC (.int 0)) (mCons (mC (.int 0)) (mCons (mBin addD (mC (.int 1)) (mCall lenD (mCons (mV 1) mNil))) (mCons (mC (.int 0)) mNil))))))))
/-- _law_draw(hand, many) -/
noncomputable def M__law_draw : List D → Sto → R D := mDef 2 5
    (mSeq (mIfS (mAnd (mTst (mBin eqD (mBin ixD (mV 0) (mC (.int 2))) (mC (.int 0)))) (mTst (mBin ltD (mBin ixD (mV 0) (mC (.int 1))) (mCall lenD (mCons (mBin ixD (mV 0) (mC (.int 0))) mNil))))) (mSeq (mSet 2 (mBin ixD (mBin ixD (mV 0) (mC (.int 0))) (mBin ixD (mV 0) (mC (.int 1)))))
    (mSeq (mPut (mV 0) (mC (.int 1)) (mBin addD (mBin ixD (mV 0) (mC (.int 1))) (mC (.int 1))))
    (mSeq (mPut (mV 0) (mC (.int 3)) (mBin modD (mCall intD (mCons (mBin addD (mBin addD (mBin mulD (mBin ixD (mV 0) (mC (.int 3))) (mC (.int 69621))) (mV 2)) (mC (.int 11))) mNil)) (mC (.int 2147483629))))
    (mIfS (mTst (mBin (cmpI fun i j => decide (j ≤ i)) (mV 2) (mBin powD (mC (.int 10)) (mC (.int 18))))) (mPut (mV 0) (mC (.int 2)) (mV 2)) mNext)))) mNext)
    (mSeq (mIfS (mTst (mBin (cmpI fun i j => decide (j < i)) (mBin ixD (mV 0) (mC (.int 2))) (mC (.int 0)))) (mSeq (mSet 3 (mBin modD (mCall intD (mCons (mBin ixD (mV 0) (mC (.int 2))) mNil)) (mV 1)))
    (mSeq (mPut (mV 0) (mC (.int 2)) (mBin fdivD (mBin ixD (mV 0) (mC (.int 2))) (mV 1)))
    (mRet (mV 3)))) mNext)
    (mSeq (mPut (mV 0) (mC (.int 4)) (mBin addD (mBin ixD (mV 0) (mC (.int 4))) (mC (.int 1))))
    (mSeq (mSet 4 (mBin modD (mCall intD (mCons (mBin mulD (mCall intD (mCons (mBin addD (mBin ixD (mV 0) (mC (.int 3))) (mBin mulD (mC (.int 7919)) (mBin ixD (mV 0) (mC (.int 4))))) mNil)) (mC (.int 48271))) mNil)) (mC (.int 2147483647))))
    (mSeq (mSet 4 (mBin modD (mCall intD (mCons (mBin mulD (mV 4) (mBin addD (mBin fdivD (mV 4) (mC (.int 1009))) (mC (.int 69621)))) mNil)) (mC (.int 2147483647))))
    (mSeq (mSet 4 (mBin modD (mCall intD (mCons (mBin mulD (mV 4) (mBin addD (mBin fdivD (mV 4) (mC (.int 2003))) (mC (.int 40692)))) mNil)) (mC (.int 2147483399))))
    (mRet (mBin modD (mCall intD (mCons (mBin fdivD (mV 4) (mC (.int 16))) mNil)) (mV 1)))))))))
/-- _law_some(hand, things) -/
noncomputable def M__law_some : List D → Sto → R D := mDef 2 2
    (mRet (mBin ixD (mV 1) (mCall M__law_draw (mCons (mV 0) (mCons (mCall lenD (mCons (mV 1) mNil)) mNil)))))
/-- _law_deep(kind) -/
noncomputable def M__law_deep : List D → Sto → R D := mDef 1 3
    (mSeq (mSet 1 (mC .non))
    (mSeq (mFor (mItA rng1R (mCons (mC (.int 28)) mNil)) (.nm 2) (mSet 1 (mIf (mTst (mBin eqD (mV 0) (mC (.int 0)))) (mLst (mCons (mV 1) mNil)) (mTup (mCons (mV 1) mNil)))))
    (mRet (mV 1))))
/-- _law_web(hand, many, share) -/
noncomputable def M__law_web : List D → Sto → R D := mDef 3 6
    (mSeq (mSet 3 (mLstM mNil))
    (mSeq (mFor (mItA rng1R (mCons (mV 1) mNil)) (.nm 4) (mExpr (mMeth appD (mV 3) (mCons (mCall tupleD (mCons (mComp (mItA rng1R (mCons (mV 1) mNil)) [5] (.nm 5) (mAnd (mTst (mBin neD (mV 5) (mV 4))) (mTst (mBin ltD (mCall M__law_draw (mCons (mV 0) (mCons (mC (.int 12)) mNil))) (mV 2)))) (mV 5)) mNil)) mNil))))
    (mRet (mCall tupleD (mCons (mV 3) mNil)))))
/-- _law_is_person(thing, many) -/
noncomputable def M__law_is_person : List D → Sto → R D := mDef 2 2
    (mRet (mAndV (mUn (isiD "int") (mV 0)) (mAndV (mNotV (mUn (isiD "bool") (mV 0))) (mChain (cmpI fun i j => decide (i ≤ j)) ltD (mC (.int 0)) (mV 0) (mV 1)))))
/-- _law_is_web(thing) -/
noncomputable def M__law_is_web : List D → Sto → R D := mDef 1 4
    (mSeq (mIfS (mOr (mNot (mTru (mUn (isiD "tuple") (mV 0)))) (mNot (mTst (mChain (cmpI fun i j => decide (i ≤ j)) (cmpI fun i j => decide (i ≤ j)) (mC (.int 1)) (mCall lenD (mCons (mV 0) mNil)) (mC (.int 9)))))) (mRet (mC (.bl false))) mNext)
    (mSeq (mFor (mItA enumR (mCons (mV 0) mNil)) (.tp [(.nm 1), (.nm 2)]) (mSeq (mIfS (mOr (mNot (mTru (mUn (isiD "tuple") (mV 2)))) (mNot (mTru (mCall allD (mCons (mComp (mIt (mV 2)) [3] (.nm 3) mYes (mCall M__law_is_person (mCons (mV 3) (mCons (mCall lenD (mCons (mV 0) mNil)) mNil)))) mNil))))) (mRet (mC (.bl false))) mNext)
    (mIfS (mOr (mTst (mBin (inD false) (mV 1) (mV 2))) (mTst (mBin neD (mCall listD (mCons (mV 2) mNil)) (mUn sortSetD (mV 2))))) (mRet (mC (.bl false))) mNext)))
    (mRet (mC (.bl true)))))
/-- _law_bent_web(hand, web) -/
noncomputable def M__law_bent_web : List D → Sto → R D := mDef 2 6
    (mSeq (mSet 2 (mCall M__law_draw (mCons (mV 0) (mCons (mCall lenD (mCons (mV 1) mNil)) mNil))))
    (mSeq (mSet 3 (mBin ixD (mV 1) (mV 2)))
    (mSeq (mSet 4 (mLst (mCons (mBin addD (mV 3) (mTup (mCons (mV 2) mNil))) (mCons (mBin addD (mV 3) (mTup (mCons (mCall lenD (mCons (mV 1) mNil)) mNil))) (mCons (mBin addD (mV 3) (mSl (mV 3) mNoPart (mPart (mC (.int 1))))) (mCons (mUn revD (mV 3)) (mCons (mCall listD (mCons (mV 3) mNil)) (mCons (mC .non) (mCons (mC (.int 0)) (mCons (mC (.str "")) (mCons (mTup (mCons (mC .non) mNil)) (mCons (mTup (mCons (mUn negD (mC (.int 1))) mNil)) mNil))))))))))))
    (mSeq (mSet 4 (mBin addD (mV 4) (mLst (mCons (mTup (mCons (mC (.bl true)) mNil)) (mCons (mTup (mCons (mC (.bl false)) mNil)) (mCons (mTup (mCons (mC (.str "0")) mNil)) (mCons (mTup (mCons (mTup (mCons (mC (.int 0)) mNil)) mNil)) (mCons (mBin addD (mV 3) (mTup (mCons (mBin powD (mC (.int 10)) (mC (.int 30))) mNil))) (mCons (mCall M__law_deep (mCons (mC (.int 1)) mNil)) (mCons mDct0 (mCons (mTup (mCons (mC (.int 0)) (mCons (mC (.int 1)) mNil))) (mCons (mTup (mCons (mC (.int 1)) (mCons (mC (.int 0)) mNil))) mNil))))))))))))
    (mSeq (mSet 5 (mBin addD (mBin mulD (mLst (mCons (mBin addD (mBin addD (mSl (mV 1) mNoPart (mPart (mV 2))) (mTup (mCons (mCall M__law_some (mCons (mV 0) (mCons (mV 4) mNil))) mNil))) (mSl (mV 1) (mPart (mBin addD (mV 2) (mC (.int 1)))) mNoPart)) mNil)) (mC (.int 6))) (mLst (mCons (mCall listD (mCons (mV 1) mNil)) (mCons (mBin addD (mV 1) (mTup (mCons (mTup mNil) mNil))) (mCons (mSl (mV 1) mNoPart (mPart (mUn negD (mC (.int 1))))) (mCons (mTup mNil) (mCons (mC .non) (mCons (mC (.int 3)) mNil)))))))))
    (mRet (mCall M__law_some (mCons (mV 0) (mCons (mBin addD (mV 5) (mLst (mCons (mC (.str "web")) (mCons mDct0 (mCons (mC (.bl true)) (mCons (mCall M__law_deep (mCons (mC (.int 0)) mNil)) (mCons (mCall M__law_deep (mCons (mC (.int 1)) mNil)) (mCons (mBin mulD (mTup (mCons (mTup mNil) mNil)) (mC (.int 10))) (mCons (mBin mulD (mTup (mCons (mTup mNil) mNil)) (mC (.int 9))) (mCons (mTup (mCons (mV 1) mNil)) (mCons (mV 1) mNil))))))))))) mNil)))))))))
/-- _law_call(which, web, number) -/
noncomputable def M__law_call : List D → Sto → R D := mDef 3 3
    (mSeq (mIfS (mTst (mBin ltD (mV 0) (mC (.int 2)))) (mRet (mCallN [("firm", M_firm), ("weak", M_weak)] (mBin ixD (mLst (mCons (mC (.nam "firm")) (mCons (mC (.nam "weak")) mNil))) (mV 0)) (mCons (mV 1) (mCons (mV 2) mNil)))) mNext)
    (mRet (mCallN [("greatest_firm", M_greatest_firm), ("web_text", M_web_text)] (mBin ixD (mLst (mCons (mC (.nam "greatest_firm")) (mCons (mC (.nam "web_text")) mNil))) (mBin subD (mV 0) (mC (.int 2)))) (mCons (mV 1) mNil))))
/-- _law_told(which, web, number) -/
noncomputable def M__law_told : List D → Sto → R D := mDef 3 6
    (mSeq (mSet 3 (mC (.str "other")))
    (mSeq (mTry (mSeq (mExpr (mCall M__law_call (mCons (mV 0) (mCons (mV 1) (mCons (mV 2) mNil)))))
    (mSet 3 (mC (.str "let")))) [⟨[("NoNumber", true), ("NoWeb", true)], some 4, fun er => (mSeq (mSet 5 (mLst (mCons (mErrIs er [("NoNumber", false), ("NoWeb", true)] 4) (mCons (mErrIs er [("NoNumber", true), ("NoWeb", false)] 4) mNil))))
    (mIfS (mAnd (mTst (mBin eqD (mMeth cntD (mV 5) (mCons (mC (.bl true)) mNil)) (mC (.int 1)))) (mTru (mErrIs er [("NoNumber", true), ("NoWeb", true)] 4))) (mSet 3 (mBin ixD (mLst (mCons (mC (.str "web")) (mCons (mC (.str "number")) mNil))) (mMeth idxD (mV 5) (mCons (mC (.bl true)) mNil)))) mNext))⟩])
    (mRet (mV 3))))
/-- law(script) -/
noncomputable def M_law : List D → Sto → R D := mDef 1 12
    (mSeq (mSet 1 (mCall M__law_hand (mCons (mV 0) mNil)))
    (mSeq (mFor (mItA rng1R (mCons (mC (.int 3)) mNil)) (.nm 2) (mSeq (mSet 3 (mCall M__law_web (mCons (mV 1) (mCons (mBin addD (mC (.int 1)) (mCall M__law_draw (mCons (mV 1) (mCons (mC (.int 5)) mNil)))) (mCons (mCall M__law_some (mCons (mV 1) (mCons (mLst (mCons (mC (.int 4)) (mCons (mC (.int 8)) (mCons (mC (.int 12)) mNil)))) mNil))) mNil)))))
    (mFor (mItA rng1R (mCons (mC (.int 4)) mNil)) (.nm 4) (mSeq (mSet 5 (mCall M__law_bent_web (mCons (mV 1) (mCons (mV 3) mNil))))
    (mSeq (mSet 6 (mLst (mCons (mUn negD (mC (.int 1))) (mCons (mC (.int 10)) (mCons (mC (.bl true)) (mCons (mC (.bl false)) (mCons (mC .non) (mCons (mC (.str "1")) (mCons (mTup (mCons (mC (.int 1)) mNil)) (mCons (mLst (mCons (mC (.int 1)) mNil)) (mCons (mBin powD (mC (.int 10)) (mC (.int 30))) (mCons mDct0 (mCons (mCall M__law_deep (mCons (mC (.int 0)) mNil)) (mCons (mC (.int 0)) (mCons (mC (.int 9)) mNil)))))))))))))))
    (mSeq (mSet 7 (mCall M__law_some (mCons (mV 1) (mCons (mV 6) mNil))))
    (mFor (mIt (mLst (mCons (mV 5) (mCons (mV 3) mNil)))) (.nm 8) (mSeq (mFor (mIt (mLst (mCons (mV 7) (mCons (mCall M__law_draw (mCons (mV 1) (mCons (mC (.int 10)) mNil))) mNil)))) (.nm 9) (mSeq (mSet 10 (mIf (mTru (mCall M__law_is_person (mCons (mV 9) (mCons (mC (.int 10)) mNil)))) (mC (.str "let")) (mC (.str "number"))))
    (mSeq (mSet 10 (mIf (mTru (mCall M__law_is_web (mCons (mV 8) mNil))) (mV 10) (mC (.str "web"))))
    (mIfS (mTst (mBin neD (mComp (mItA rng1R (mCons (mC (.int 2)) mNil)) [11] (.nm 11) mYes (mCall M__law_told (mCons (mV 11) (mCons (mV 8) (mCons (mV 9) mNil))))) (mLst (mCons (mV 10) (mCons (mV 10) mNil))))) (mRet (mC (.bl false))) mNext))))
    (mSeq (mSet 10 (mIf (mTru (mCall M__law_is_web (mCons (mV 8) mNil))) (mC (.str "let")) (mC (.str "web"))))
    (mIfS (mTst (mBin neD (mComp (mIt (mLst (mCons (mC (.int 2)) (mCons (mC (.int 3)) mNil)))) [11] (.nm 11) mYes (mCall M__law_told (mCons (mV 11) (mCons (mV 8) (mCons (mC .non) mNil))))) (mLst (mCons (mV 10) (mCons (mV 10) mNil))))) (mRet (mC (.bl false))) mNext))))))))))
    (mRet (mC (.bl true)))))
end Pl

set_option maxHeartbeats 4000000
namespace Lw
open PySem PySem.Spec PyProof.Rows L2 EF Hn Pl
open PySem.W (Frag keepIn)
def top (i : Nat) : Stmt := PySem.Challenge.pw_stillfound_k47_vanishing_and_texts_refus.main.body.getD i (.Pass ⟨0, 0, 0, 0⟩)
abbrev sis_integer : Stmt := top 6
abbrev Nis_integer : List Str := ["thing"]
theorem scis_integer : FnScope Nis_integer ["thing"] (defScope sis_integer) := ⟨rfl, rfl, rfl, by decide +kernel, rfl, by decide +kernel, by decide +kernel⟩
abbrev sis_between : Stmt := top 7
abbrev Nis_between : List Str := ["thing", "least", "most"]
theorem scis_between : FnScope Nis_between ["thing", "least", "most"] (defScope sis_between) := ⟨rfl, rfl, rfl, by decide +kernel, rfl, by decide +kernel, by decide +kernel⟩
abbrev sis_person : Stmt := top 8
abbrev Nis_person : List Str := ["thing", "many"]
theorem scis_person : FnScope Nis_person ["thing", "many"] (defScope sis_person) := ⟨rfl, rfl, rfl, by decide +kernel, rfl, by decide +kernel, by decide +kernel⟩
abbrev sis_ascending : Stmt := top 9
abbrev Nis_ascending : List Str := ["row", "k"]
theorem scis_ascending : FnScope Nis_ascending ["row"] (defScope sis_ascending) := ⟨rfl, rfl, rfl, by decide +kernel, rfl, by decide +kernel, by decide +kernel⟩
abbrev sis_pocket : Stmt := top 13
abbrev Nis_pocket : List Str := ["thing", "u", "many", "w"]
theorem scis_pocket : FnScope Nis_pocket ["thing", "u", "many"] (defScope sis_pocket) := ⟨rfl, rfl, rfl, by decide +kernel, rfl, by decide +kernel, by decide +kernel⟩
abbrev sis_web : Stmt := top 12
abbrev Nis_web : List Str := ["thing", "u"]
theorem scis_web : FnScope Nis_web ["thing"] (defScope sis_web) := ⟨rfl, rfl, rfl, by decide +kernel, rfl, by decide +kernel, by decide +kernel⟩
abbrev scheck_web : Stmt := top 14
abbrev Ncheck_web : List Str := ["thing"]
theorem sccheck_web : FnScope Ncheck_web ["thing"] (defScope scheck_web) := ⟨rfl, rfl, rfl, by decide +kernel, rfl, by decide +kernel, by decide +kernel⟩
abbrev ssteps_from : Stmt := top 15
abbrev Nsteps_from : List Str := ["pockets", "start", "steps", "last", "further", "u", "w"]
theorem scsteps_from : FnScope Nsteps_from ["pockets", "start"] (defScope ssteps_from) := ⟨rfl, rfl, rfl, by decide +kernel, rfl, by decide +kernel, by decide +kernel⟩
abbrev sfound_from : Stmt := top 16
abbrev Nfound_from : List Str := ["pockets", "start"]
theorem scfound_from : FnScope Nfound_from ["pockets", "start"] (defScope sfound_from) := ⟨rfl, rfl, rfl, by decide +kernel, rfl, by decide +kernel, by decide +kernel⟩
abbrev sall_found : Stmt := top 17
abbrev Nall_found : List Str := ["pockets", "u"]
theorem scall_found : FnScope Nall_found ["pockets"] (defScope sall_found) := ⟨rfl, rfl, rfl, by decide +kernel, rfl, by decide +kernel, by decide +kernel⟩
abbrev swithout : Stmt := top 18
abbrev Nwithout : List Str := ["pockets", "gone", "w", "u", "pocket"]
theorem scwithout : FnScope Nwithout ["pockets", "gone"] (defScope swithout) := ⟨rfl, rfl, rfl, by decide +kernel, rfl, by decide +kernel, by decide +kernel⟩
abbrev sis_whole : Stmt := top 24
abbrev Nis_whole : List Str := ["web", "gone", "found", "left", "u", "row"]
theorem scis_whole : FnScope Nis_whole ["web", "gone"] (defScope sis_whole) := ⟨rfl, rfl, rfl, by decide +kernel, rfl, by decide +kernel, by decide +kernel⟩
abbrev sweak_lot : Stmt := top 23
abbrev Nweak_lot : List Str := ["web", "most", "size", "lot"]
theorem scweak_lot : FnScope Nweak_lot ["web", "most"] (defScope sweak_lot) := ⟨rfl, rfl, rfl, by decide +kernel, rfl, by decide +kernel, by decide +kernel⟩
abbrev sweak : Stmt := top 21
abbrev Nweak : List Str := ["web", "k"]
theorem scweak : FnScope Nweak ["web", "k"] (defScope sweak) := ⟨rfl, rfl, rfl, by decide +kernel, rfl, by decide +kernel, by decide +kernel⟩
abbrev sfirm : Stmt := top 20
abbrev Nfirm : List Str := ["web", "k"]
theorem scfirm : FnScope Nfirm ["web", "k"] (defScope sfirm) := ⟨rfl, rfl, rfl, by decide +kernel, rfl, by decide +kernel, by decide +kernel⟩
abbrev sgreatest_firm : Stmt := top 22
abbrev Ngreatest_firm : List Str := ["web", "lot"]
theorem scgreatest_firm : FnScope Ngreatest_firm ["web"] (defScope sgreatest_firm) := ⟨rfl, rfl, rfl, by decide +kernel, rfl, by decide +kernel, by decide +kernel⟩
abbrev sperson_line : Stmt := top 27
abbrev Nperson_line : List Str := ["u", "pocket", "w"]
theorem scperson_line : FnScope Nperson_line ["u", "pocket"] (defScope sperson_line) := ⟨rfl, rfl, rfl, by decide +kernel, rfl, by decide +kernel, by decide +kernel⟩
abbrev sweb_text : Stmt := top 26
abbrev Nweb_text : List Str := ["web", "u", "pocket"]
theorem scweb_text : FnScope Nweb_text ["web"] (defScope sweb_text) := ⟨rfl, rfl, rfl, by decide +kernel, rfl, by decide +kernel, by decide +kernel⟩
abbrev s_law_hand : Stmt := top 29
abbrev N_law_hand : List Str := ["script", "cells", "cell"]
theorem sc_law_hand : FnScope N_law_hand ["script"] (defScope s_law_hand) := ⟨rfl, rfl, rfl, by decide +kernel, rfl, by decide +kernel, by decide +kernel⟩
abbrev s_law_draw : Stmt := top 30
abbrev N_law_draw : List Str := ["hand", "many", "cell", "digit", "number"]
theorem sc_law_draw : FnScope N_law_draw ["hand", "many"] (defScope s_law_draw) := ⟨rfl, rfl, rfl, by decide +kernel, rfl, by decide +kernel, by decide +kernel⟩
abbrev s_law_some : Stmt := top 31
abbrev N_law_some : List Str := ["hand", "things"]
theorem sc_law_some : FnScope N_law_some ["hand", "things"] (defScope s_law_some) := ⟨rfl, rfl, rfl, by decide +kernel, rfl, by decide +kernel, by decide +kernel⟩
abbrev s_law_deep : Stmt := top 32
abbrev N_law_deep : List Str := ["kind", "found", "turn"]
theorem sc_law_deep : FnScope N_law_deep ["kind"] (defScope s_law_deep) := ⟨rfl, rfl, rfl, by decide +kernel, rfl, by decide +kernel, by decide +kernel⟩
abbrev s_law_web : Stmt := top 33
abbrev N_law_web : List Str := ["hand", "many", "share", "found", "person", "other"]
theorem sc_law_web : FnScope N_law_web ["hand", "many", "share"] (defScope s_law_web) := ⟨rfl, rfl, rfl, by decide +kernel, rfl, by decide +kernel, by decide +kernel⟩
abbrev s_law_is_person : Stmt := top 34
abbrev N_law_is_person : List Str := ["thing", "many"]
theorem sc_law_is_person : FnScope N_law_is_person ["thing", "many"] (defScope s_law_is_person) := ⟨rfl, rfl, rfl, by decide +kernel, rfl, by decide +kernel, by decide +kernel⟩
abbrev s_law_is_web : Stmt := top 35
abbrev N_law_is_web : List Str := ["thing", "person", "cards", "card"]
theorem sc_law_is_web : FnScope N_law_is_web ["thing"] (defScope s_law_is_web) := ⟨rfl, rfl, rfl, by decide +kernel, rfl, by decide +kernel, by decide +kernel⟩
abbrev s_law_bent_web : Stmt := top 36
abbrev N_law_bent_web : List Str := ["hand", "web", "at", "cards", "odd", "things"]
theorem sc_law_bent_web : FnScope N_law_bent_web ["hand", "web"] (defScope s_law_bent_web) := ⟨rfl, rfl, rfl, by decide +kernel, rfl, by decide +kernel, by decide +kernel⟩
abbrev s_law_call : Stmt := top 37
abbrev N_law_call : List Str := ["which", "web", "number"]
theorem sc_law_call : FnScope N_law_call ["which", "web", "number"] (defScope s_law_call) := ⟨rfl, rfl, rfl, by decide +kernel, rfl, by decide +kernel, by decide +kernel⟩
abbrev s_law_told : Stmt := top 38
abbrev N_law_told : List Str := ["which", "web", "number", "word", "e", "flags"]
theorem sc_law_told : FnScope N_law_told ["which", "web", "number"] (defScope s_law_told) := ⟨rfl, rfl, rfl, by decide +kernel, rfl, by decide +kernel, by decide +kernel⟩
abbrev slaw : Stmt := top 39
abbrev Nlaw : List Str := ["script", "hand", "turn", "web", "again", "thing", "odd", "number", "some", "value", "due", "which"]
theorem sclaw : FnScope Nlaw ["script"] (defScope slaw) := ⟨rfl, rfl, rfl, by decide +kernel, rfl, by decide +kernel, by decide +kernel⟩
abbrev KM (P : Program) (w : World) (K : Frag) (mg : Str → Option Value) (base : Heap) (k : Nat) (x : Str) (ps : List Str) (f : List D → Sto → R D) : Prop := ∀ h0 : Hp, KeptM ⟨P, w, K, mg, none, h0⟩ base k x ps f
section
variable {P : Program} {w : World} {K : Frag} {mg : Str → Option Value} {base : Heap}
theorem K_is_integer (B : Bl mg) (B2 : Bl2 mg) (D : Dfn K mg "is_integer" sis_integer ["thing"]) : KM P w K mg base 1 "is_integer" ["thing"] M_is_integer := fun h0 =>
  Dfn.keptM (N := Nis_integer) (k := 0) (h0 := h0) D scis_integer fun f cdv A ou s H E hr => by
    have tk := takes_of (X := cxOf (L2.CX P w) P w K mg base Nis_integer "is_integer" (defScope sis_integer) f cdv A ou s H E) (E := E) rfl rfl rfl rfl
    have hx := passAt tk
    exact (pms_one (pms_ret (pm_and (pm_isi rfl (by rfl) B.b_isinstance (by decide +kernel) (pm_v (pv 0)) (pe_bltn (v := .ty "int") (by rfl) B.b_int (by decide +kernel) rfl)) (pm_one (pm_not (pm_isi rfl (by rfl) B.b_isinstance (by decide +kernel) (pm_v (pv 0)) (pe_bltn (v := .ty "bool") (by rfl) B.b_bool (by decide +kernel) rfl)))))))
theorem K_is_between (B : Bl mg) (B2 : Bl2 mg) (D : Dfn K mg "is_between" sis_between ["thing", "least", "most"]) (Gis_integer : KM P w K mg base 1 "is_integer" ["thing"] M_is_integer) : KM P w K mg base 2 "is_between" ["thing", "least", "most"] M_is_between := fun h0 =>
  Dfn.keptM (N := Nis_between) (k := 1) (h0 := h0) D scis_between fun f cdv A ou s H E hr => by
    have tk := takes_of (X := cxOf (L2.CX P w) P w K mg base Nis_between "is_between" (defScope sis_between) f cdv A ou s H E) (E := E) rfl rfl rfl rfl
    have hx := passAt tk
    exact (pms_one (pms_ret (pm_and (pm_call (Gis_integer H) rfl rfl rfl rfl rfl (hr.mono (by decide)) (by rfl) hx (pma_cons (pm_v (pv 0)) pma_nil)) (pm_one (pm_chain op_le (om_cmpI _) op_le (om_cmpI _) (pm_v (pv 1)) (pm_v (pv 0)) (pm_v (pv 2)))))))
theorem K_is_person (B : Bl mg) (B2 : Bl2 mg) (D : Dfn K mg "is_person" sis_person ["thing", "many"]) (Gis_between : KM P w K mg base 2 "is_between" ["thing", "least", "most"] M_is_between) : KM P w K mg base 3 "is_person" ["thing", "many"] M_is_person := fun h0 =>
  Dfn.keptM (N := Nis_person) (k := 2) (h0 := h0) D scis_person fun f cdv A ou s H E hr => by
    have tk := takes_of (X := cxOf (L2.CX P w) P w K mg base Nis_person "is_person" (defScope sis_person) f cdv A ou s H E) (E := E) rfl rfl rfl rfl
    have hx := passAt tk
    exact (pms_one (pms_ret (pm_call (Gis_between H) rfl rfl rfl rfl rfl (hr.mono (by decide)) (by rfl) hx (pma_cons (pm_v (pv 0)) (pma_cons (pm_c (.int 0) pe_int (fun _ _ => rfl)) (pma_cons (pm_sub (pm_v (pv 1)) (pm_c (.int 1) pe_int (fun _ _ => rfl))) pma_nil))))))
theorem K_is_ascending (B : Bl mg) (B2 : Bl2 mg) (D : Dfn K mg "is_ascending" sis_ascending ["row"]) : KM P w K mg base 1 "is_ascending" ["row"] M_is_ascending := fun h0 =>
  Dfn.keptM (N := Nis_ascending) (k := 0) (h0 := h0) D scis_ascending fun f cdv A ou s H E hr => by
    have tk := takes_of (X := cxOf (L2.CX P w) P w K mg base Nis_ascending "is_ascending" (defScope sis_ascending) f cdv A ou s H E) (E := E) rfl rfl rfl rfl
    have hx := passAt tk
    exact (pms_one (pms_ret (pm_callB (allK rfl rfl) cm_all (by rfl) B.b_all (by decide +kernel) (pma_cons (pm_lc (own := [("k", 1)]) (by rfl) scis_ascending.nd (pmi_range1 (by rfl) B.b_range (pma_cons (pm_sub (pm_callB (call_lenA rfl) cm_len (by rfl) B.b_len PySem.boot_len (pma_cons (pm_v (pv 0)) pma_nil)) (pm_c (.int 1) pe_int (fun _ _ => rfl))) pma_nil)) (blkOk_by (own := [("k", 1)]) (N := Nis_ascending) (sc := defScope sis_ascending) (by decide +kernel)) (by decide) (fun _ _ _ _ _ => (pg_nm (pg_name (i := 1) scis_ascending.nd rfl (Or.inl rfl)))) (fun _ _ _ _ _ => pts_none) (fun _ _ _ _ _ => (pm_cmp (op_ltA rfl (hr.units0)) om_lt (pm_ix rfl (hu65 hr) (pm_v (pv 0)) (pm_v (pv 1)) (fun _ _ => rfl) (fun _ _ => rfl)) (pm_ix rfl (hu65 hr) (pm_v (pv 0)) (pm_add rfl (pm_v (pv 1)) (pm_c (.int 1) pe_int (fun _ _ => rfl))) (fun _ _ => rfl) (fun _ _ => rfl)) (nomark _)))) pma_nil))))
theorem K_is_pocket (B : Bl mg) (B2 : Bl2 mg) (D : Dfn K mg "is_pocket" sis_pocket ["thing", "u", "many"]) (Gis_person : KM P w K mg base 3 "is_person" ["thing", "many"] M_is_person) (Gis_ascending : KM P w K mg base 1 "is_ascending" ["row"] M_is_ascending) : KM P w K mg base 4 "is_pocket" ["thing", "u", "many"] M_is_pocket := fun h0 =>
  Dfn.keptM (N := Nis_pocket) (k := 3) (h0 := h0) D scis_pocket fun f cdv A ou s H E hr => by
    have tk := takes_of (X := cxOf (L2.CX P w) P w K mg base Nis_pocket "is_pocket" (defScope sis_pocket) f cdv A ou s H E) (E := E) rfl rfl rfl rfl
    have hx := passAt tk
    exact (pms_cons (pms_if (pmt_not (pmt_truth rfl (pm_isi rfl (by rfl) B.b_isinstance (by decide +kernel) (pm_v (pv 0)) (pe_bltn (v := .ty "tuple") (by rfl) B.b_tuple (by decide +kernel) rfl)) (by intro _; rfl))) (pms_one (pms_ret (pm_c (.bl false) pe_bl (fun _ _ => rfl)))) pms_nil)
      (pms_one (pms_ret (pm_and (pm_callB (allK rfl rfl) cm_all (by rfl) B.b_all (by decide +kernel) (pma_cons (pm_lc (own := [("w", 3)]) (by rfl) scis_pocket.nd (pmi_seq rfl (pm_v (pv 0))) (blkOk_by (own := [("w", 3)]) (N := Nis_pocket) (sc := defScope sis_pocket) (by decide +kernel)) (by decide) (fun _ _ _ _ _ => (pg_nm (pg_name (i := 3) scis_pocket.nd rfl (Or.inl rfl)))) (fun _ _ _ _ _ => pts_none) (fun _ _ _ _ _ => (pm_and (pm_call (Gis_person H) rfl rfl rfl rfl rfl (hr.mono (by decide)) (by rfl) passNo (pma_cons (pm_v (pv 3)) (pma_cons (pm_v (pv 2)) pma_nil))) (pm_one (pm_cmp (op_neA rfl (hu65 hr)) om_ne (pm_v (pv 3)) (pm_v (pv 1)) (nomark _)))))) pma_nil)) (pm_one (pm_call (Gis_ascending H) rfl rfl rfl rfl rfl (hr.mono (by decide)) (by rfl) hx (pma_cons (pm_v (pv 0)) pma_nil)))))))
theorem K_is_web (B : Bl mg) (B2 : Bl2 mg) (D : Dfn K mg "is_web" sis_web ["thing"]) (Gis_pocket : KM P w K mg base 4 "is_pocket" ["thing", "u", "many"] M_is_pocket) {tkMOST_PEOPLE : Tok} (cMOST_PEOPLE : mg "MOST_PEOPLE" = some (.int 9 tkMOST_PEOPLE)) : KM P w K mg base 5 "is_web" ["thing"] M_is_web := fun h0 =>
  Dfn.keptM (N := Nis_web) (k := 4) (h0 := h0) D scis_web fun f cdv A ou s H E hr => by
    have tk := takes_of (X := cxOf (L2.CX P w) P w K mg base Nis_web "is_web" (defScope sis_web) f cdv A ou s H E) (E := E) rfl rfl rfl rfl
    have hx := passAt tk
    exact (pms_cons (pms_if (pmt_w (pmw_or (pmt_not (pmt_truth rfl (pm_isi rfl (by rfl) B.b_isinstance (by decide +kernel) (pm_v (pv 0)) (pe_bltn (v := .ty "tuple") (by rfl) B.b_tuple (by decide +kernel) rfl)) (by intro _; rfl))) (pmw_or1 (pmt_not (pmt_chain op_le (om_cmpI _) op_le (om_cmpI _) (pm_c (.int 1) pe_int (fun _ _ => rfl)) (pm_callB (call_lenA rfl) cm_len (by rfl) B.b_len PySem.boot_len (pma_cons (pm_v (pv 0)) pma_nil)) (pm_c (.int 9) (pe_glob (v := (.int 9)) (by rfl) cMOST_PEOPLE ⟨_, rfl⟩) (fun _ _ => rfl))))))) (pms_one (pms_ret (pm_c (.bl false) pe_bl (fun _ _ => rfl)))) pms_nil)
      (pms_one (pms_ret (pm_callB (allK rfl rfl) cm_all (by rfl) B.b_all (by decide +kernel) (pma_cons (pm_lc (own := [("u", 1)]) (by rfl) scis_web.nd (pmi_range1 (by rfl) B.b_range (pma_cons (pm_callB (call_lenA rfl) cm_len (by rfl) B.b_len PySem.boot_len (pma_cons (pm_v (pv 0)) pma_nil)) pma_nil)) (blkOk_by (own := [("u", 1)]) (N := Nis_web) (sc := defScope sis_web) (by decide +kernel)) (by decide) (fun _ _ _ _ _ => (pg_nm (pg_name (i := 1) scis_web.nd rfl (Or.inl rfl)))) (fun _ _ _ _ _ => pts_none) (fun _ _ _ _ _ => (pm_call (Gis_pocket H) rfl rfl rfl rfl rfl (hr.mono (by decide)) (by rfl) passNo (pma_cons (pm_ix rfl (hu65 hr) (pm_v (pv 0)) (pm_v (pv 1)) (fun _ _ => rfl) (fun _ _ => rfl)) (pma_cons (pm_v (pv 1)) (pma_cons (pm_callB (call_lenA rfl) cm_len (by rfl) B.b_len PySem.boot_len (pma_cons (pm_v (pv 0)) pma_nil)) pma_nil)))))) pma_nil)))))
theorem K_check_web (B : Bl mg) (B2 : Bl2 mg) (D : Dfn K mg "check_web" scheck_web ["thing"]) (Gis_web : KM P w K mg base 5 "is_web" ["thing"] M_is_web) {CNoWeb : Addr} (ENoWeb : Err K mg "NoWeb" CNoWeb) : KM P w K mg base 6 "check_web" ["thing"] M_check_web := fun h0 =>
  Dfn.keptM (N := Ncheck_web) (k := 5) (h0 := h0) D sccheck_web fun f cdv A ou s H E hr => by
    have tk := takes_of (X := cxOf (L2.CX P w) P w K mg base Ncheck_web "check_web" (defScope scheck_web) f cdv A ou s H E) (E := E) rfl rfl rfl rfl
    have hx := passAt tk
    exact (pms_one (pms_if (pmt_not (pmt_truth rfl (pm_call (Gis_web H) rfl rfl rfl rfl rfl (hr.mono (by decide)) (by rfl) hx (pma_cons (pm_v (pv 0)) pma_nil)) (by intro _; rfl))) (pms_one (pms_raise0 ENoWeb rfl rfl tk (by rfl))) pms_nil))
theorem K_steps_from (B : Bl mg) (B2 : Bl2 mg) (D : Dfn K mg "steps_from" ssteps_from ["pockets", "start"]) : KM P w K mg base 1 "steps_from" ["pockets", "start"] M_steps_from := fun h0 =>
  Dfn.keptM (N := Nsteps_from) (k := 0) (h0 := h0) D scsteps_from fun f cdv A ou s H E hr => by
    have tk := takes_of (X := cxOf (L2.CX P w) P w K mg base Nsteps_from "steps_from" (defScope ssteps_from) f cdv A ou s H E) (E := E) rfl rfl rfl rfl
    have hx := passAt tk
    exact (pms_cons (pms_set (i := 2) scsteps_from.nd rfl (Or.inl rfl) (pm_dispM (ps := [((mV 1), (mC (.int 0)))]) (pps_cons (pm_v (pv 1)) (pm_c (.int 0) pe_int (fun _ _ => rfl)) pps_nil) (by rfl) (by rfl) (fun z => by cases z) (by decide)))
      (pms_cons (pms_set (i := 3) scsteps_from.nd rfl (Or.inl rfl) (pm_lst (pma_cons (pm_v (pv 1)) pma_nil)))
      (pms_cons (pms_while (passes_of rfl) (pmt_truth rfl (pm_v (pv 3)) (by intro _; rfl)) (pms_cons (pms_set (i := 4) scsteps_from.nd rfl (Or.inl rfl) (pm_lstM pma_nil))
      (pms_cons (pms_for (passes_of rfl) rfl (pmi_seq rfl (pm_v (pv 3))) (pg_nm (pg_name (i := 5) scsteps_from.nd rfl (Or.inl rfl))) (pms_one (pms_for (passes_of rfl) rfl (pmi_seq rfl (pm_ix rfl (hu65 hr) (pm_v (pv 0)) (pm_v (pv 5)) (fun _ _ => rfl) (fun _ _ => rfl))) (pg_nm (pg_name (i := 6) scsteps_from.nd rfl (Or.inl rfl))) (pms_one (pms_if (pmt_cmp (op_ninA rfl (hu65 hr)) (om_in true) (pm_v (pv 6)) (pm_v (pv 2)) (by rfl)) (pms_cons (pms_put (hu65 hr) (pm_v (pv 2)) (pm_v (pv 6)) (pm_add rfl (pm_ix rfl (hu65 hr) (pm_v (pv 2)) (pm_v (pv 5)) (fun _ _ => rfl) (fun _ _ => rfl)) (pm_c (.int 1) pe_int (fun _ _ => rfl))))
      (pms_one (pms_expr (pm_bm rfl PySem.F.plainAttrs_list PySem.F.slot_list_append PySem.F.type_list_append mt_append mm_app (pm_v (pv 4)) (pma_cons (pm_v (pv 6)) pma_nil))))) pms_nil)))))
      (pms_one (pms_set (i := 3) scsteps_from.nd rfl (Or.inl rfl) (pm_v (pv 4)))))))
      (pms_one (pms_ret (pm_v (pv 2)))))))
theorem K_found_from (B : Bl mg) (B2 : Bl2 mg) (D : Dfn K mg "found_from" sfound_from ["pockets", "start"]) (Gsteps_from : KM P w K mg base 1 "steps_from" ["pockets", "start"] M_steps_from) : KM P w K mg base 2 "found_from" ["pockets", "start"] M_found_from := fun h0 =>
  Dfn.keptM (N := Nfound_from) (k := 1) (h0 := h0) D scfound_from fun f cdv A ou s H E hr => by
    have tk := takes_of (X := cxOf (L2.CX P w) P w K mg base Nfound_from "found_from" (defScope sfound_from) f cdv A ou s H E) (E := E) rfl rfl rfl rfl
    have hx := passAt tk
    exact (pms_one (pms_ret (pm_callTy (tupleK rfl) cm_tuple (by rfl) B.b_tuple (by decide +kernel) (pma_cons (pm_callB (call_sortedA rfl rfl (hu65 hr)) cm_sorted (by rfl) B.b_sorted (by decide +kernel) (pma_cons (pm_call (Gsteps_from H) rfl rfl rfl rfl rfl (hr.mono (by decide)) (by rfl) hx (pma_cons (pm_v (pv 0)) (pma_cons (pm_v (pv 1)) pma_nil))) pma_nil)) pma_nil))))
theorem K_all_found (B : Bl mg) (B2 : Bl2 mg) (D : Dfn K mg "all_found" sall_found ["pockets"]) (Gfound_from : KM P w K mg base 2 "found_from" ["pockets", "start"] M_found_from) : KM P w K mg base 3 "all_found" ["pockets"] M_all_found := fun h0 =>
  Dfn.keptM (N := Nall_found) (k := 2) (h0 := h0) D scall_found fun f cdv A ou s H E hr => by
    have tk := takes_of (X := cxOf (L2.CX P w) P w K mg base Nall_found "all_found" (defScope sall_found) f cdv A ou s H E) (E := E) rfl rfl rfl rfl
    have hx := passAt tk
    exact (pms_one (pms_ret (pm_callTy (tupleK rfl) cm_tuple (by rfl) B.b_tuple (by decide +kernel) (pma_cons (pm_lc (own := [("u", 1)]) (by rfl) scall_found.nd (pmi_range1 (by rfl) B.b_range (pma_cons (pm_callB (call_lenA rfl) cm_len (by rfl) B.b_len PySem.boot_len (pma_cons (pm_v (pv 0)) pma_nil)) pma_nil)) (blkOk_by (own := [("u", 1)]) (N := Nall_found) (sc := defScope sall_found) (by decide +kernel)) (by decide) (fun _ _ _ _ _ => (pg_nm (pg_name (i := 1) scall_found.nd rfl (Or.inl rfl)))) (fun _ _ _ _ _ => pts_none) (fun _ _ _ _ _ => (pm_call (Gfound_from H) rfl rfl rfl rfl rfl (hr.mono (by decide)) (by rfl) passNo (pma_cons (pm_v (pv 0)) (pma_cons (pm_v (pv 1)) pma_nil))))) pma_nil))))
theorem K_without (B : Bl mg) (B2 : Bl2 mg) (D : Dfn K mg "without" swithout ["pockets", "gone"]) : KM P w K mg base 1 "without" ["pockets", "gone"] M_without := fun h0 =>
  Dfn.keptM (N := Nwithout) (k := 0) (h0 := h0) D scwithout fun f cdv A ou s H E hr => by
    have tk := takes_of (X := cxOf (L2.CX P w) P w K mg base Nwithout "without" (defScope swithout) f cdv A ou s H E) (E := E) rfl rfl rfl rfl
    have hx := passAt tk
    exact (pms_one (pms_ret (pm_callTy (tupleK rfl) cm_tuple (by rfl) B.b_tuple (by decide +kernel) (pma_cons (pm_lc (own := [("u", 3), ("pocket", 4)]) (by rfl) scwithout.nd (pmi_enum rfl (by rfl) B.b_enumerate (pma_cons (pm_v (pv 0)) pma_nil)) (blkOk_by (own := [("u", 3), ("pocket", 4)]) (N := Nwithout) (sc := defScope swithout) (by decide +kernel)) (by decide) (fun _ _ _ _ _ => (pg_tp rfl rfl (pgs_more (pg_nm (pg_name (i := 3) scwithout.nd rfl (Or.inl rfl))) (pgs_more (pg_nm (pg_name (i := 4) scwithout.nd rfl (Or.inl rfl))) pgs_none)))) (fun _ _ _ _ _ => pts_none) (fun _ _ _ _ _ => (pm_if (pmt_cmp (op_inA rfl (hu65 hr)) (om_in false) (pm_v (pv 3)) (pm_v (pv 1)) (by rfl)) (pm_tup pma_nil) (pm_callTy (tupleK rfl) cm_tuple (by rfl) B.b_tuple (by decide +kernel) (pma_cons (pm_lc (own := [("w", 2)]) (by rfl) scwithout.nd (pmi_seq rfl (pm_v (pv 4))) (blkOk_by (own := [("w", 2)]) (N := Nwithout) (by dsimp only [Cx.blk, compEnvC, relabel, cxOf, Cx.nox, envOfC, Env.kindOf]; first | rfl | decide +kernel)) (by decide) (fun _ _ _ _ _ => (pg_nm (pg_name (i := 2) scwithout.nd rfl (Or.inl rfl)))) (fun _ _ _ _ _ => (pts_some (pmt_cmp (op_ninA rfl (hu65 hr)) (om_in true) (pm_v (pv 2)) (pm_v (pv 1)) (by rfl)))) (fun _ _ _ _ _ => (pm_v (pv 2)))) pma_nil))))) pma_nil))))
theorem K_is_whole (B : Bl mg) (B2 : Bl2 mg) (D : Dfn K mg "is_whole" sis_whole ["web", "gone"]) (Gall_found : KM P w K mg base 3 "all_found" ["pockets"] M_all_found) (Gwithout : KM P w K mg base 1 "without" ["pockets", "gone"] M_without) : KM P w K mg base 4 "is_whole" ["web", "gone"] M_is_whole := fun h0 =>
  Dfn.keptM (N := Nis_whole) (k := 3) (h0 := h0) D scis_whole fun f cdv A ou s H E hr => by
    have tk := takes_of (X := cxOf (L2.CX P w) P w K mg base Nis_whole "is_whole" (defScope sis_whole) f cdv A ou s H E) (E := E) rfl rfl rfl rfl
    have hx := passAt tk
    exact (pms_cons (pms_set (i := 2) scis_whole.nd rfl (Or.inl rfl) (pm_call (Gwithout H) rfl rfl rfl rfl rfl (hr.mono (by decide)) (by rfl) hx (pma_cons (pm_call (Gall_found H) rfl rfl rfl rfl rfl (hr.mono (by decide)) (by rfl) hx (pma_cons (pm_call (Gwithout H) rfl rfl rfl rfl rfl (hr.mono (by decide)) (by rfl) hx (pma_cons (pm_v (pv 0)) (pma_cons (pm_v (pv 1)) pma_nil))) pma_nil)) (pma_cons (pm_v (pv 1)) pma_nil))))
      (pms_cons (pms_set (i := 3) scis_whole.nd rfl (Or.inr rfl) (pm_sub (pm_callB (call_lenA rfl) cm_len (by rfl) B.b_len PySem.boot_len (pma_cons (pm_v (pv 0)) pma_nil)) (pm_callB (call_lenA rfl) cm_len (by rfl) B.b_len PySem.boot_len (pma_cons (pm_v (pv 1)) pma_nil))))
      (pms_one (pms_ret (pm_callB (allK rfl rfl) cm_all (by rfl) B.b_all (by decide +kernel) (pma_cons (pm_lc (own := [("u", 4), ("row", 5)]) (by rfl) scis_whole.nd (pmi_enum rfl (by rfl) B.b_enumerate (pma_cons (pm_v (pv 2)) pma_nil)) (blkOk_by (own := [("u", 4), ("row", 5)]) (N := Nis_whole) (sc := defScope sis_whole) (by decide +kernel)) (by decide) (fun _ _ _ _ _ => (pg_tp rfl rfl (pgs_more (pg_nm (pg_name (i := 4) scis_whole.nd rfl (Or.inl rfl))) (pgs_more (pg_nm (pg_name (i := 5) scis_whole.nd rfl (Or.inl rfl))) pgs_none)))) (fun _ _ _ _ _ => (pts_some (pmt_cmp (op_ninA rfl (hu65 hr)) (om_in true) (pm_v (pv 4)) (pm_v (pv 1)) (by rfl)))) (fun _ _ _ _ _ => (pm_cmp (op_eqA rfl (hu65 hr)) om_eq (pm_callB (call_lenA rfl) cm_len (by rfl) B.b_len PySem.boot_len (pma_cons (pm_v (pv 5)) pma_nil)) (pm_v (pv 3)) (nomark _)))) pma_nil))))))
theorem K_weak_lot (B : Bl mg) (B2 : Bl2 mg) (D : Dfn K mg "weak_lot" sweak_lot ["web", "most"]) (Gis_whole : KM P w K mg base 4 "is_whole" ["web", "gone"] M_is_whole) (ccombinations : mg "combinations" = some (.type "itertools.combinations")) : KM P w K mg base 5 "weak_lot" ["web", "most"] M_weak_lot := fun h0 =>
  Dfn.keptM (N := Nweak_lot) (k := 4) (h0 := h0) D scweak_lot fun f cdv A ou s H E hr => by
    have tk := takes_of (X := cxOf (L2.CX P w) P w K mg base Nweak_lot "weak_lot" (defScope sweak_lot) f cdv A ou s H E) (E := E) rfl rfl rfl rfl
    have hx := passAt tk
    exact (pms_cons (pms_for (passes_of rfl) rfl (pmi_range1 (by rfl) B.b_range (pma_cons (pm_add rfl (pm_callB (call_min2 rfl) cm_min2 (by rfl) B2.b_min (by decide +kernel) (pma_cons (pm_v (pv 1)) (pma_cons (pm_callB (call_lenA rfl) cm_len (by rfl) B.b_len PySem.boot_len (pma_cons (pm_v (pv 0)) pma_nil)) pma_nil))) (pm_c (.int 1) pe_int (fun _ _ => rfl))) pma_nil)) (pg_nm (pg_name (i := 2) scweak_lot.nd rfl (Or.inl rfl))) (pms_one (pms_for (passes_of rfl) rfl (pmi_combR rfl rfl (by rfl) ccombinations (by rfl) B.b_range (pma_cons (pm_callB (call_lenA rfl) cm_len (by rfl) B.b_len PySem.boot_len (pma_cons (pm_v (pv 0)) pma_nil)) pma_nil) (pma_cons (pm_v (pv 2)) pma_nil)) (pg_nm (pg_name (i := 3) scweak_lot.nd rfl (Or.inl rfl))) (pms_one (pms_if (pmt_not (pmt_truth rfl (pm_call (Gis_whole H) rfl rfl rfl rfl rfl (hr.mono (by decide)) (by rfl) hx (pma_cons (pm_v (pv 0)) (pma_cons (pm_v (pv 3)) pma_nil))) (by intro _; rfl))) (pms_one (pms_ret (pm_v (pv 3)))) pms_nil)))))
      (pms_one (pms_ret (pm_c .non pe_non (fun _ _ => rfl)))))
theorem K_weak (B : Bl mg) (B2 : Bl2 mg) (D : Dfn K mg "weak" sweak ["web", "k"]) (Gis_between : KM P w K mg base 2 "is_between" ["thing", "least", "most"] M_is_between) (Gcheck_web : KM P w K mg base 6 "check_web" ["thing"] M_check_web) (Gweak_lot : KM P w K mg base 5 "weak_lot" ["web", "most"] M_weak_lot) {tkMOST_PEOPLE : Tok} (cMOST_PEOPLE : mg "MOST_PEOPLE" = some (.int 9 tkMOST_PEOPLE)) {CNoNumber : Addr} (ENoNumber : Err K mg "NoNumber" CNoNumber) : KM P w K mg base 7 "weak" ["web", "k"] M_weak := fun h0 =>
  Dfn.keptM (N := Nweak) (k := 6) (h0 := h0) D scweak fun f cdv A ou s H E hr => by
    have tk := takes_of (X := cxOf (L2.CX P w) P w K mg base Nweak "weak" (defScope sweak) f cdv A ou s H E) (E := E) rfl rfl rfl rfl
    have hx := passAt tk
    exact (pms_cons (pms_expr (pm_call (Gcheck_web H) rfl rfl rfl rfl rfl (hr.mono (by decide)) (by rfl) hx (pma_cons (pm_v (pv 0)) pma_nil)))
      (pms_cons (pms_if (pmt_not (pmt_truth rfl (pm_call (Gis_between H) rfl rfl rfl rfl rfl (hr.mono (by decide)) (by rfl) hx (pma_cons (pm_v (pv 1)) (pma_cons (pm_c (.int 0) pe_int (fun _ _ => rfl)) (pma_cons (pm_c (.int 9) (pe_glob (v := (.int 9)) (by rfl) cMOST_PEOPLE ⟨_, rfl⟩) (fun _ _ => rfl)) pma_nil)))) (by intro _; rfl))) (pms_one (pms_raise0 ENoNumber rfl rfl tk (by rfl))) pms_nil)
      (pms_one (pms_ret (pm_call (Gweak_lot H) rfl rfl rfl rfl rfl (hr.mono (by decide)) (by rfl) hx (pma_cons (pm_v (pv 0)) (pma_cons (pm_v (pv 1)) pma_nil)))))))
theorem K_firm (B : Bl mg) (B2 : Bl2 mg) (D : Dfn K mg "firm" sfirm ["web", "k"]) (Gweak : KM P w K mg base 7 "weak" ["web", "k"] M_weak) : KM P w K mg base 8 "firm" ["web", "k"] M_firm := fun h0 =>
  Dfn.keptM (N := Nfirm) (k := 7) (h0 := h0) D scfirm fun f cdv A ou s H E hr => by
    have tk := takes_of (X := cxOf (L2.CX P w) P w K mg base Nfirm "firm" (defScope sfirm) f cdv A ou s H E) (E := E) rfl rfl rfl rfl
    have hx := passAt tk
    exact (pms_one (pms_ret (pm_cmp op_isN om_is (pm_call (Gweak H) rfl rfl rfl rfl rfl (hr.mono (by decide)) (by rfl) hx (pma_cons (pm_v (pv 0)) (pma_cons (pm_v (pv 1)) pma_nil))) (pm_c .non pe_non (fun _ _ => rfl)) (nomark _))))
theorem K_greatest_firm (B : Bl mg) (B2 : Bl2 mg) (D : Dfn K mg "greatest_firm" sgreatest_firm ["web"]) (Gcheck_web : KM P w K mg base 6 "check_web" ["thing"] M_check_web) (Gweak_lot : KM P w K mg base 5 "weak_lot" ["web", "most"] M_weak_lot) : KM P w K mg base 7 "greatest_firm" ["web"] M_greatest_firm := fun h0 =>
  Dfn.keptM (N := Ngreatest_firm) (k := 6) (h0 := h0) D scgreatest_firm fun f cdv A ou s H E hr => by
    have tk := takes_of (X := cxOf (L2.CX P w) P w K mg base Ngreatest_firm "greatest_firm" (defScope sgreatest_firm) f cdv A ou s H E) (E := E) rfl rfl rfl rfl
    have hx := passAt tk
    exact (pms_cons (pms_expr (pm_call (Gcheck_web H) rfl rfl rfl rfl rfl (hr.mono (by decide)) (by rfl) hx (pma_cons (pm_v (pv 0)) pma_nil)))
      (pms_cons (pms_set (i := 1) scgreatest_firm.nd rfl (Or.inl rfl) (pm_call (Gweak_lot H) rfl rfl rfl rfl rfl (hr.mono (by decide)) (by rfl) hx (pma_cons (pm_v (pv 0)) (pma_cons (pm_callB (call_lenA rfl) cm_len (by rfl) B.b_len PySem.boot_len (pma_cons (pm_v (pv 0)) pma_nil)) pma_nil))))
      (pms_one (pms_ret (pm_if (pmt_cmp op_isN om_is (pm_v (pv 1)) (pm_c .non pe_non (fun _ _ => rfl)) (nomark _)) (pm_callB (call_lenA rfl) cm_len (by rfl) B.b_len PySem.boot_len (pma_cons (pm_v (pv 0)) pma_nil)) (pm_sub (pm_callB (call_lenA rfl) cm_len (by rfl) B.b_len PySem.boot_len (pma_cons (pm_v (pv 1)) pma_nil)) (pm_c (.int 1) pe_int (fun _ _ => rfl))))))))
theorem K_person_line (B : Bl mg) (B2 : Bl2 mg) (D : Dfn K mg "person_line" sperson_line ["u", "pocket"]) : KM P w K mg base 1 "person_line" ["u", "pocket"] M_person_line := fun h0 =>
  Dfn.keptM (N := Nperson_line) (k := 0) (h0 := h0) D scperson_line fun f cdv A ou s H E hr => by
    have tk := takes_of (X := cxOf (L2.CX P w) P w K mg base Nperson_line "person_line" (defScope sperson_line) f cdv A ou s H E) (E := E) rfl rfl rfl rfl
    have hx := passAt tk
    exact (pms_one (pms_ret (pm_join rfl (pm_c (.str " ") pe_str (fun _ _ => rfl)) (pm_lst (pma_cons (pm_fstr (.cons (pm_fmt (pm_v (pv 0))) (.cons (pm_c (.str ":") pe_str (fun _ _ => rfl)) .nil))) (pma_star rfl (pm_lc (own := [("w", 2)]) (by rfl) scperson_line.nd (pmi_seq rfl (pm_v (pv 1))) (blkOk_by (own := [("w", 2)]) (N := Nperson_line) (sc := defScope sperson_line) (by decide +kernel)) (by decide) (fun _ _ _ _ _ => (pg_nm (pg_name (i := 2) scperson_line.nd rfl (Or.inl rfl)))) (fun _ _ _ _ _ => pts_none) (fun _ _ _ _ _ => (pm_callTy call_strA cm_str (by rfl) B2.b_str (by decide +kernel) (pma_cons (pm_v (pv 2)) pma_nil)))) pma_nil))))))
theorem K_web_text (B : Bl mg) (B2 : Bl2 mg) (D : Dfn K mg "web_text" sweb_text ["web"]) (Gcheck_web : KM P w K mg base 6 "check_web" ["thing"] M_check_web) (Gperson_line : KM P w K mg base 1 "person_line" ["u", "pocket"] M_person_line) : KM P w K mg base 7 "web_text" ["web"] M_web_text := fun h0 =>
  Dfn.keptM (N := Nweb_text) (k := 6) (h0 := h0) D scweb_text fun f cdv A ou s H E hr => by
    have tk := takes_of (X := cxOf (L2.CX P w) P w K mg base Nweb_text "web_text" (defScope sweb_text) f cdv A ou s H E) (E := E) rfl rfl rfl rfl
    have hx := passAt tk
    exact (pms_cons (pms_expr (pm_call (Gcheck_web H) rfl rfl rfl rfl rfl (hr.mono (by decide)) (by rfl) hx (pma_cons (pm_v (pv 0)) pma_nil)))
      (pms_one (pms_ret (pm_join rfl (pm_c (.str "\n") pe_str (fun _ _ => rfl)) (pm_lc (own := [("u", 1), ("pocket", 2)]) (by rfl) scweb_text.nd (pmi_enum rfl (by rfl) B.b_enumerate (pma_cons (pm_v (pv 0)) pma_nil)) (blkOk_by (own := [("u", 1), ("pocket", 2)]) (N := Nweb_text) (sc := defScope sweb_text) (by decide +kernel)) (by decide) (fun _ _ _ _ _ => (pg_tp rfl rfl (pgs_more (pg_nm (pg_name (i := 1) scweb_text.nd rfl (Or.inl rfl))) (pgs_more (pg_nm (pg_name (i := 2) scweb_text.nd rfl (Or.inl rfl))) pgs_none)))) (fun _ _ _ _ _ => pts_none) (fun _ _ _ _ _ => (pm_call (Gperson_line H) rfl rfl rfl rfl rfl (hr.mono (by decide)) (by rfl) passNo (pma_cons (pm_v (pv 1)) (pma_cons (pm_v (pv 2)) pma_nil)))))))))
theorem K__law_hand (B : Bl mg) (B2 : Bl2 mg) (D : Dfn K mg "_law_hand" s_law_hand ["script"]) : KM P w K mg base 1 "_law_hand" ["script"] M__law_hand := fun h0 =>
  Dfn.keptM (N := N_law_hand) (k := 0) (h0 := h0) D sc_law_hand fun f cdv A ou s H E hr => by
    have tk := takes_of (X := cxOf (L2.CX P w) P w K mg base N_law_hand "_law_hand" (defScope s_law_hand) f cdv A ou s H E) (E := E) rfl rfl rfl rfl
    have hx := passAt tk
    exact (pms_cons (pms_setLc (i := 1) (own := [("cell", 2)]) (by rfl) sc_law_hand.nd (pmi_seq rfl (pm_slice rfl (pm_v (pv 0)) pmo_none (pmo_some (pm_c (.int 63) pe_int (fun _ _ => rfl))))) (blkOk_by (own := [("cell", 2)]) (N := N_law_hand) (sc := defScope s_law_hand) (by decide +kernel)) (by decide) (fun _ _ _ _ _ => (pg_nm (pg_name (i := 2) sc_law_hand.nd rfl (Or.inl rfl)))) (fun _ _ _ _ _ => pts_none) (fun _ _ _ _ _ => (pm_callB call_abs cm_abs (by rfl) B.b_abs (by decide +kernel) (pma_cons (pm_callTy call_int1 cm_int (by rfl) B.b_int (by decide +kernel) (pma_cons (pm_v (pv 2)) pma_nil)) pma_nil))) (by intro _; rfl) rfl rfl (sw_true rfl rfl rfl (by decide +kernel)))
      (pms_one (pms_ret (pm_lstM (pma_cons (pm_v (pv 1)) (pma_cons (pm_c (.int 0) pe_int (fun _ _ => rfl)) (pma_cons (pm_c (.int 0) pe_int (fun _ _ => rfl)) (pma_cons (pm_add rfl (pm_c (.int 1) pe_int (fun _ _ => rfl)) (pm_callB (call_lenA rfl) cm_len (by rfl) B.b_len PySem.boot_len (pma_cons (pm_v (pv 1)) pma_nil))) (pma_cons (pm_c (.int 0) pe_int (fun _ _ => rfl)) pma_nil)))))))))
theorem K__law_draw (B : Bl mg) (B2 : Bl2 mg) (D : Dfn K mg "_law_draw" s_law_draw ["hand", "many"]) : KM P w K mg base 1 "_law_draw" ["hand", "many"] M__law_draw := fun h0 =>
  Dfn.keptM (N := N_law_draw) (k := 0) (h0 := h0) D sc_law_draw fun f cdv A ou s H E hr => by
    have tk := takes_of (X := cxOf (L2.CX P w) P w K mg base N_law_draw "_law_draw" (defScope s_law_draw) f cdv A ou s H E) (E := E) rfl rfl rfl rfl
    have hx := passAt tk
    exact (pms_cons (pms_if (pmt_w (pmw_and (pmt_cmp (op_eqA rfl (hu65 hr)) om_eq (pm_ix rfl (hu65 hr) (pm_v (pv 0)) (pm_c (.int 2) pe_int (fun _ _ => rfl)) (fun _ _ => rfl) (fun _ _ => rfl)) (pm_c (.int 0) pe_int (fun _ _ => rfl)) (nomark _)) (pmw_and1 (pmt_cmp (op_ltA rfl (hr.units0)) om_lt (pm_ix rfl (hu65 hr) (pm_v (pv 0)) (pm_c (.int 1) pe_int (fun _ _ => rfl)) (fun _ _ => rfl) (fun _ _ => rfl)) (pm_callB (call_lenA rfl) cm_len (by rfl) B.b_len PySem.boot_len (pma_cons (pm_ix rfl (hu65 hr) (pm_v (pv 0)) (pm_c (.int 0) pe_int (fun _ _ => rfl)) (fun _ _ => rfl) (fun _ _ => rfl)) pma_nil)) (nomark _))))) (pms_cons (pms_set (i := 2) sc_law_draw.nd rfl (Or.inl rfl) (pm_ix rfl (hu65 hr) (pm_ix rfl (hu65 hr) (pm_v (pv 0)) (pm_c (.int 0) pe_int (fun _ _ => rfl)) (fun _ _ => rfl) (fun _ _ => rfl)) (pm_ix rfl (hu65 hr) (pm_v (pv 0)) (pm_c (.int 1) pe_int (fun _ _ => rfl)) (fun _ _ => rfl) (fun _ _ => rfl)) (fun _ _ => rfl) (fun _ _ => rfl)))
      (pms_cons (pms_put (hu65 hr) (pm_v (pv 0)) (pm_c (.int 1) pe_int (fun _ _ => rfl)) (pm_add rfl (pm_ix rfl (hu65 hr) (pm_v (pv 0)) (pm_c (.int 1) pe_int (fun _ _ => rfl)) (fun _ _ => rfl) (fun _ _ => rfl)) (pm_c (.int 1) pe_int (fun _ _ => rfl))))
      (pms_cons (pms_put (hu65 hr) (pm_v (pv 0)) (pm_c (.int 3) pe_int (fun _ _ => rfl)) (pm_mod (pm_callTy call_int1 cm_int (by rfl) B.b_int (by decide +kernel) (pma_cons (pm_add rfl (pm_add rfl (pm_mul rfl (pm_ix rfl (hu65 hr) (pm_v (pv 0)) (pm_c (.int 3) pe_int (fun _ _ => rfl)) (fun _ _ => rfl) (fun _ _ => rfl)) (pm_c (.int 69621) pe_int (fun _ _ => rfl))) (pm_v (pv 2))) (pm_c (.int 11) pe_int (fun _ _ => rfl))) pma_nil)) (pm_c (.int 2147483629) pe_int (fun _ _ => rfl))))
      (pms_one (pms_if (pmt_cmp op_ge (om_cmpI _) (pm_v (pv 2)) (pm_pow (pm_c (.int 10) pe_int (fun _ _ => rfl)) (pm_c (.int 18) pe_int (fun _ _ => rfl))) (nomark _)) (pms_one (pms_put (hu65 hr) (pm_v (pv 0)) (pm_c (.int 2) pe_int (fun _ _ => rfl)) (pm_v (pv 2)))) pms_nil))))) pms_nil)
      (pms_cons (pms_if (pmt_cmp op_gt (om_cmpI _) (pm_ix rfl (hu65 hr) (pm_v (pv 0)) (pm_c (.int 2) pe_int (fun _ _ => rfl)) (fun _ _ => rfl) (fun _ _ => rfl)) (pm_c (.int 0) pe_int (fun _ _ => rfl)) (nomark _)) (pms_cons (pms_set (i := 3) sc_law_draw.nd rfl (Or.inl rfl) (pm_mod (pm_callTy call_int1 cm_int (by rfl) B.b_int (by decide +kernel) (pma_cons (pm_ix rfl (hu65 hr) (pm_v (pv 0)) (pm_c (.int 2) pe_int (fun _ _ => rfl)) (fun _ _ => rfl) (fun _ _ => rfl)) pma_nil)) (pm_v (pv 1))))
      (pms_cons (pms_put (hu65 hr) (pm_v (pv 0)) (pm_c (.int 2) pe_int (fun _ _ => rfl)) (pm_fdiv (pm_ix rfl (hu65 hr) (pm_v (pv 0)) (pm_c (.int 2) pe_int (fun _ _ => rfl)) (fun _ _ => rfl) (fun _ _ => rfl)) (pm_v (pv 1))))
      (pms_one (pms_ret (pm_v (pv 3)))))) pms_nil)
      (pms_cons (pms_put (hu65 hr) (pm_v (pv 0)) (pm_c (.int 4) pe_int (fun _ _ => rfl)) (pm_add rfl (pm_ix rfl (hu65 hr) (pm_v (pv 0)) (pm_c (.int 4) pe_int (fun _ _ => rfl)) (fun _ _ => rfl) (fun _ _ => rfl)) (pm_c (.int 1) pe_int (fun _ _ => rfl))))
      (pms_cons (pms_set (i := 4) sc_law_draw.nd rfl (Or.inl rfl) (pm_mod (pm_callTy call_int1 cm_int (by rfl) B.b_int (by decide +kernel) (pma_cons (pm_mul rfl (pm_callTy call_int1 cm_int (by rfl) B.b_int (by decide +kernel) (pma_cons (pm_add rfl (pm_ix rfl (hu65 hr) (pm_v (pv 0)) (pm_c (.int 3) pe_int (fun _ _ => rfl)) (fun _ _ => rfl) (fun _ _ => rfl)) (pm_mul rfl (pm_c (.int 7919) pe_int (fun _ _ => rfl)) (pm_ix rfl (hu65 hr) (pm_v (pv 0)) (pm_c (.int 4) pe_int (fun _ _ => rfl)) (fun _ _ => rfl) (fun _ _ => rfl)))) pma_nil)) (pm_c (.int 48271) pe_int (fun _ _ => rfl))) pma_nil)) (pm_c (.int 2147483647) pe_int (fun _ _ => rfl))))
      (pms_cons (pms_set (i := 4) sc_law_draw.nd rfl (Or.inl rfl) (pm_mod (pm_callTy call_int1 cm_int (by rfl) B.b_int (by decide +kernel) (pma_cons (pm_mul rfl (pm_v (pv 4)) (pm_add rfl (pm_fdiv (pm_v (pv 4)) (pm_c (.int 1009) pe_int (fun _ _ => rfl))) (pm_c (.int 69621) pe_int (fun _ _ => rfl)))) pma_nil)) (pm_c (.int 2147483647) pe_int (fun _ _ => rfl))))
      (pms_cons (pms_set (i := 4) sc_law_draw.nd rfl (Or.inl rfl) (pm_mod (pm_callTy call_int1 cm_int (by rfl) B.b_int (by decide +kernel) (pma_cons (pm_mul rfl (pm_v (pv 4)) (pm_add rfl (pm_fdiv (pm_v (pv 4)) (pm_c (.int 2003) pe_int (fun _ _ => rfl))) (pm_c (.int 40692) pe_int (fun _ _ => rfl)))) pma_nil)) (pm_c (.int 2147483399) pe_int (fun _ _ => rfl))))
      (pms_one (pms_ret (pm_mod (pm_callTy call_int1 cm_int (by rfl) B.b_int (by decide +kernel) (pma_cons (pm_fdiv (pm_v (pv 4)) (pm_c (.int 16) pe_int (fun _ _ => rfl))) pma_nil)) (pm_v (pv 1)))))))))))
theorem K__law_some (B : Bl mg) (B2 : Bl2 mg) (D : Dfn K mg "_law_some" s_law_some ["hand", "things"]) (G_law_draw : KM P w K mg base 1 "_law_draw" ["hand", "many"] M__law_draw) : KM P w K mg base 2 "_law_some" ["hand", "things"] M__law_some := fun h0 =>
  Dfn.keptM (N := N_law_some) (k := 1) (h0 := h0) D sc_law_some fun f cdv A ou s H E hr => by
    have tk := takes_of (X := cxOf (L2.CX P w) P w K mg base N_law_some "_law_some" (defScope s_law_some) f cdv A ou s H E) (E := E) rfl rfl rfl rfl
    have hx := passAt tk
    exact (pms_one (pms_ret (pm_ix rfl (hu65 hr) (pm_v (pv 1)) (pm_call (G_law_draw H) rfl rfl rfl rfl rfl (hr.mono (by decide)) (by rfl) hx (pma_cons (pm_v (pv 0)) (pma_cons (pm_callB (call_lenA rfl) cm_len (by rfl) B.b_len PySem.boot_len (pma_cons (pm_v (pv 1)) pma_nil)) pma_nil))) (fun _ _ => rfl) (fun _ _ => rfl))))
theorem K__law_deep (B : Bl mg) (B2 : Bl2 mg) (D : Dfn K mg "_law_deep" s_law_deep ["kind"]) : KM P w K mg base 1 "_law_deep" ["kind"] M__law_deep := fun h0 =>
  Dfn.keptM (N := N_law_deep) (k := 0) (h0 := h0) D sc_law_deep fun f cdv A ou s H E hr => by
    have tk := takes_of (X := cxOf (L2.CX P w) P w K mg base N_law_deep "_law_deep" (defScope s_law_deep) f cdv A ou s H E) (E := E) rfl rfl rfl rfl
    have hx := passAt tk
    exact (pms_cons (pms_set (i := 1) sc_law_deep.nd rfl (Or.inl rfl) (pm_c .non pe_non (fun _ _ => rfl)))
      (pms_cons (pms_for (passes_of rfl) rfl (pmi_range1 (by rfl) B.b_range (pma_cons (pm_c (.int 28) pe_int (fun _ _ => rfl)) pma_nil)) (pg_nm (pg_name (i := 2) sc_law_deep.nd rfl (Or.inl rfl))) (pms_one (pms_set (i := 1) sc_law_deep.nd rfl (Or.inl rfl) (pm_if (pmt_cmp (op_eqA rfl (hu65 hr)) om_eq (pm_v (pv 0)) (pm_c (.int 0) pe_int (fun _ _ => rfl)) (nomark _)) (pm_lst (pma_cons (pm_v (pv 1)) pma_nil)) (pm_tup (pma_cons (pm_v (pv 1)) pma_nil))))))
      (pms_one (pms_ret (pm_v (pv 1))))))
theorem K__law_web (B : Bl mg) (B2 : Bl2 mg) (D : Dfn K mg "_law_web" s_law_web ["hand", "many", "share"]) (G_law_draw : KM P w K mg base 1 "_law_draw" ["hand", "many"] M__law_draw) : KM P w K mg base 2 "_law_web" ["hand", "many", "share"] M__law_web := fun h0 =>
  Dfn.keptM (N := N_law_web) (k := 1) (h0 := h0) D sc_law_web fun f cdv A ou s H E hr => by
    have tk := takes_of (X := cxOf (L2.CX P w) P w K mg base N_law_web "_law_web" (defScope s_law_web) f cdv A ou s H E) (E := E) rfl rfl rfl rfl
    have hx := passAt tk
    exact (pms_cons (pms_set (i := 3) sc_law_web.nd rfl (Or.inl rfl) (pm_lstM pma_nil))
      (pms_cons (pms_for (passes_of rfl) rfl (pmi_range1 (by rfl) B.b_range (pma_cons (pm_v (pv 1)) pma_nil)) (pg_nm (pg_name (i := 4) sc_law_web.nd rfl (Or.inr rfl))) (pms_one (pms_expr (pm_bm rfl PySem.F.plainAttrs_list PySem.F.slot_list_append PySem.F.type_list_append mt_append mm_app (pm_v (pv 3)) (pma_cons (pm_callTy (tupleK rfl) cm_tuple (by rfl) B.b_tuple (by decide +kernel) (pma_cons (pm_lc (own := [("other", 5)]) (by rfl) sc_law_web.nd (pmi_range1 (by rfl) B.b_range (pma_cons (pm_v (pv 1)) pma_nil)) (blkOk_by (own := [("other", 5)]) (N := N_law_web) (sc := defScope s_law_web) (by decide +kernel)) (by decide) (fun _ _ _ _ _ => (pg_nm (pg_name (i := 5) sc_law_web.nd rfl (Or.inl rfl)))) (fun _ _ _ _ _ => (pts_some (pmt_w (pmw_and (pmt_cmp (op_neA rfl (hu65 hr)) om_ne (pm_v (pv 5)) (pm_v (pv 4)) (nomark _)) (pmw_and1 (pmt_cmp (op_ltA rfl (hr.units0)) om_lt (pm_call (G_law_draw H) rfl rfl rfl rfl rfl (hr.mono (by decide)) (by rfl) passNo (pma_cons (pm_v (pv 0)) (pma_cons (pm_c (.int 12) pe_int (fun _ _ => rfl)) pma_nil))) (pm_v (pv 2)) (nomark _))))))) (fun _ _ _ _ _ => (pm_v (pv 5)))) pma_nil)) pma_nil)))))
      (pms_one (pms_ret (pm_callTy (tupleK rfl) cm_tuple (by rfl) B.b_tuple (by decide +kernel) (pma_cons (pm_v (pv 3)) pma_nil))))))
theorem K__law_is_person (B : Bl mg) (B2 : Bl2 mg) (D : Dfn K mg "_law_is_person" s_law_is_person ["thing", "many"]) : KM P w K mg base 1 "_law_is_person" ["thing", "many"] M__law_is_person := fun h0 =>
  Dfn.keptM (N := N_law_is_person) (k := 0) (h0 := h0) D sc_law_is_person fun f cdv A ou s H E hr => by
    have tk := takes_of (X := cxOf (L2.CX P w) P w K mg base N_law_is_person "_law_is_person" (defScope s_law_is_person) f cdv A ou s H E) (E := E) rfl rfl rfl rfl
    have hx := passAt tk
    exact (pms_one (pms_ret (pm_and (pm_isi rfl (by rfl) B.b_isinstance (by decide +kernel) (pm_v (pv 0)) (pe_bltn (v := .ty "int") (by rfl) B.b_int (by decide +kernel) rfl)) (pm_and (pm_not (pm_isi rfl (by rfl) B.b_isinstance (by decide +kernel) (pm_v (pv 0)) (pe_bltn (v := .ty "bool") (by rfl) B.b_bool (by decide +kernel) rfl))) (pm_one (pm_chain op_le (om_cmpI _) (op_ltA rfl (hr.units0)) om_lt (pm_c (.int 0) pe_int (fun _ _ => rfl)) (pm_v (pv 0)) (pm_v (pv 1))))))))
theorem K__law_is_web (B : Bl mg) (B2 : Bl2 mg) (D : Dfn K mg "_law_is_web" s_law_is_web ["thing"]) (G_law_is_person : KM P w K mg base 1 "_law_is_person" ["thing", "many"] M__law_is_person) : KM P w K mg base 2 "_law_is_web" ["thing"] M__law_is_web := fun h0 =>
  Dfn.keptM (N := N_law_is_web) (k := 1) (h0 := h0) D sc_law_is_web fun f cdv A ou s H E hr => by
    have tk := takes_of (X := cxOf (L2.CX P w) P w K mg base N_law_is_web "_law_is_web" (defScope s_law_is_web) f cdv A ou s H E) (E := E) rfl rfl rfl rfl
    have hx := passAt tk
    exact (pms_cons (pms_if (pmt_w (pmw_or (pmt_not (pmt_truth rfl (pm_isi rfl (by rfl) B.b_isinstance (by decide +kernel) (pm_v (pv 0)) (pe_bltn (v := .ty "tuple") (by rfl) B.b_tuple (by decide +kernel) rfl)) (by intro _; rfl))) (pmw_or1 (pmt_not (pmt_chain op_le (om_cmpI _) op_le (om_cmpI _) (pm_c (.int 1) pe_int (fun _ _ => rfl)) (pm_callB (call_lenA rfl) cm_len (by rfl) B.b_len PySem.boot_len (pma_cons (pm_v (pv 0)) pma_nil)) (pm_c (.int 9) pe_int (fun _ _ => rfl))))))) (pms_one (pms_ret (pm_c (.bl false) pe_bl (fun _ _ => rfl)))) pms_nil)
      (pms_cons (pms_for (passes_of rfl) rfl (pmi_enum rfl (by rfl) B.b_enumerate (pma_cons (pm_v (pv 0)) pma_nil)) (pg_tp rfl rfl (pgs_more (pg_nm (pg_name (i := 1) sc_law_is_web.nd rfl (Or.inl rfl))) (pgs_more (pg_nm (pg_name (i := 2) sc_law_is_web.nd rfl (Or.inl rfl))) pgs_none))) (pms_cons (pms_if (pmt_w (pmw_or (pmt_not (pmt_truth rfl (pm_isi rfl (by rfl) B.b_isinstance (by decide +kernel) (pm_v (pv 2)) (pe_bltn (v := .ty "tuple") (by rfl) B.b_tuple (by decide +kernel) rfl)) (by intro _; rfl))) (pmw_or1 (pmt_not (pmt_truth rfl (pm_callB (allK rfl rfl) cm_all (by rfl) B.b_all (by decide +kernel) (pma_cons (pm_lc (own := [("card", 3)]) (by rfl) sc_law_is_web.nd (pmi_seq rfl (pm_v (pv 2))) (blkOk_by (own := [("card", 3)]) (N := N_law_is_web) (sc := defScope s_law_is_web) (by decide +kernel)) (by decide) (fun _ _ _ _ _ => (pg_nm (pg_name (i := 3) sc_law_is_web.nd rfl (Or.inl rfl)))) (fun _ _ _ _ _ => pts_none) (fun _ _ _ _ _ => (pm_call (G_law_is_person H) rfl rfl rfl rfl rfl (hr.mono (by decide)) (by rfl) passNo (pma_cons (pm_v (pv 3)) (pma_cons (pm_callB (call_lenA rfl) cm_len (by rfl) B.b_len PySem.boot_len (pma_cons (pm_v (pv 0)) pma_nil)) pma_nil))))) pma_nil)) (by intro _; rfl)))))) (pms_one (pms_ret (pm_c (.bl false) pe_bl (fun _ _ => rfl)))) pms_nil)
      (pms_one (pms_if (pmt_w (pmw_or (pmt_cmp (op_inA rfl (hu65 hr)) (om_in false) (pm_v (pv 1)) (pm_v (pv 2)) (by rfl)) (pmw_or1 (pmt_cmp (op_neA rfl (hu65 hr)) om_ne (pm_callTy (listK rfl) cm_list (by rfl) B.b_list (by decide +kernel) (pma_cons (pm_v (pv 2)) pma_nil)) (pm_sortSetOf rfl rfl rfl rfl (hu65 hr) (by rfl) B.b_sorted (by rfl) B.b_set (by decide +kernel) (by decide +kernel) (pm_v (pv 2))) (nomark _))))) (pms_one (pms_ret (pm_c (.bl false) pe_bl (fun _ _ => rfl)))) pms_nil))))
      (pms_one (pms_ret (pm_c (.bl true) pe_bl (fun _ _ => rfl))))))
theorem K__law_bent_web (B : Bl mg) (B2 : Bl2 mg) (D : Dfn K mg "_law_bent_web" s_law_bent_web ["hand", "web"]) (G_law_draw : KM P w K mg base 1 "_law_draw" ["hand", "many"] M__law_draw) (G_law_some : KM P w K mg base 2 "_law_some" ["hand", "things"] M__law_some) (G_law_deep : KM P w K mg base 1 "_law_deep" ["kind"] M__law_deep) : KM P w K mg base 3 "_law_bent_web" ["hand", "web"] M__law_bent_web := fun h0 =>
  Dfn.keptM (N := N_law_bent_web) (k := 2) (h0 := h0) D sc_law_bent_web fun f cdv A ou s H E hr => by
    have tk := takes_of (X := cxOf (L2.CX P w) P w K mg base N_law_bent_web "_law_bent_web" (defScope s_law_bent_web) f cdv A ou s H E) (E := E) rfl rfl rfl rfl
    have hx := passAt tk
    exact (pms_cons (pms_set (i := 2) sc_law_bent_web.nd rfl (Or.inl rfl) (pm_call (G_law_draw H) rfl rfl rfl rfl rfl (hr.mono (by decide)) (by rfl) hx (pma_cons (pm_v (pv 0)) (pma_cons (pm_callB (call_lenA rfl) cm_len (by rfl) B.b_len PySem.boot_len (pma_cons (pm_v (pv 1)) pma_nil)) pma_nil))))
      (pms_cons (pms_set (i := 3) sc_law_bent_web.nd rfl (Or.inl rfl) (pm_ix rfl (hu65 hr) (pm_v (pv 1)) (pm_v (pv 2)) (fun _ _ => rfl) (fun _ _ => rfl)))
      (pms_cons (pms_set (i := 4) sc_law_bent_web.nd rfl (Or.inl rfl) (pm_lst (pma_cons (pm_add rfl (pm_v (pv 3)) (pm_tup (pma_cons (pm_v (pv 2)) pma_nil))) (pma_cons (pm_add rfl (pm_v (pv 3)) (pm_tup (pma_cons (pm_callB (call_lenA rfl) cm_len (by rfl) B.b_len PySem.boot_len (pma_cons (pm_v (pv 1)) pma_nil)) pma_nil))) (pma_cons (pm_add rfl (pm_v (pv 3)) (pm_slice rfl (pm_v (pv 3)) pmo_none (pmo_some (pm_c (.int 1) pe_int (fun _ _ => rfl))))) (pma_cons (pm_rev rfl (pm_v (pv 3))) (pma_cons (pm_callTy (listK rfl) cm_list (by rfl) B.b_list (by decide +kernel) (pma_cons (pm_v (pv 3)) pma_nil)) (pma_cons (pm_c .non pe_non (fun _ _ => rfl)) (pma_cons (pm_c (.int 0) pe_int (fun _ _ => rfl)) (pma_cons (pm_c (.str "") pe_str (fun _ _ => rfl)) (pma_cons (pm_tup (pma_cons (pm_c .non pe_non (fun _ _ => rfl)) pma_nil)) (pma_cons (pm_tup (pma_cons (pm_neg (pm_c (.int 1) pe_int (fun _ _ => rfl))) pma_nil)) pma_nil))))))))))))
      (pms_cons (pms_set (i := 4) sc_law_bent_web.nd rfl (Or.inl rfl) (pm_add rfl (pm_v (pv 4)) (pm_lst (pma_cons (pm_tup (pma_cons (pm_c (.bl true) pe_bl (fun _ _ => rfl)) pma_nil)) (pma_cons (pm_tup (pma_cons (pm_c (.bl false) pe_bl (fun _ _ => rfl)) pma_nil)) (pma_cons (pm_tup (pma_cons (pm_c (.str "0") pe_str (fun _ _ => rfl)) pma_nil)) (pma_cons (pm_tup (pma_cons (pm_tup (pma_cons (pm_c (.int 0) pe_int (fun _ _ => rfl)) pma_nil)) pma_nil)) (pma_cons (pm_add rfl (pm_v (pv 3)) (pm_tup (pma_cons (pm_pow (pm_c (.int 10) pe_int (fun _ _ => rfl)) (pm_c (.int 30) pe_int (fun _ _ => rfl))) pma_nil))) (pma_cons (pm_call (G_law_deep H) rfl rfl rfl rfl rfl (hr.mono (by decide)) (by rfl) hx (pma_cons (pm_c (.int 1) pe_int (fun _ _ => rfl)) pma_nil)) (pma_cons pm_dct0 (pma_cons (pm_tup (pma_cons (pm_c (.int 0) pe_int (fun _ _ => rfl)) (pma_cons (pm_c (.int 1) pe_int (fun _ _ => rfl)) pma_nil))) (pma_cons (pm_tup (pma_cons (pm_c (.int 1) pe_int (fun _ _ => rfl)) (pma_cons (pm_c (.int 0) pe_int (fun _ _ => rfl)) pma_nil))) pma_nil))))))))))))
      (pms_cons (pms_set (i := 5) sc_law_bent_web.nd rfl (Or.inl rfl) (pm_add rfl (pm_mul rfl (pm_lst (pma_cons (pm_add rfl (pm_add rfl (pm_slice rfl (pm_v (pv 1)) pmo_none (pmo_some (pm_v (pv 2)))) (pm_tup (pma_cons (pm_call (G_law_some H) rfl rfl rfl rfl rfl (hr.mono (by decide)) (by rfl) hx (pma_cons (pm_v (pv 0)) (pma_cons (pm_v (pv 4)) pma_nil))) pma_nil))) (pm_slice rfl (pm_v (pv 1)) (pmo_some (pm_add rfl (pm_v (pv 2)) (pm_c (.int 1) pe_int (fun _ _ => rfl)))) pmo_none)) pma_nil)) (pm_c (.int 6) pe_int (fun _ _ => rfl))) (pm_lst (pma_cons (pm_callTy (listK rfl) cm_list (by rfl) B.b_list (by decide +kernel) (pma_cons (pm_v (pv 1)) pma_nil)) (pma_cons (pm_add rfl (pm_v (pv 1)) (pm_tup (pma_cons (pm_tup pma_nil) pma_nil))) (pma_cons (pm_slice rfl (pm_v (pv 1)) pmo_none (pmo_some (pm_neg (pm_c (.int 1) pe_int (fun _ _ => rfl))))) (pma_cons (pm_tup pma_nil) (pma_cons (pm_c .non pe_non (fun _ _ => rfl)) (pma_cons (pm_c (.int 3) pe_int (fun _ _ => rfl)) pma_nil)))))))))
      (pms_one (pms_ret (pm_call (G_law_some H) rfl rfl rfl rfl rfl (hr.mono (by decide)) (by rfl) hx (pma_cons (pm_v (pv 0)) (pma_cons (pm_add rfl (pm_v (pv 5)) (pm_lst (pma_cons (pm_c (.str "web") pe_str (fun _ _ => rfl)) (pma_cons pm_dct0 (pma_cons (pm_c (.bl true) pe_bl (fun _ _ => rfl)) (pma_cons (pm_call (G_law_deep H) rfl rfl rfl rfl rfl (hr.mono (by decide)) (by rfl) hx (pma_cons (pm_c (.int 0) pe_int (fun _ _ => rfl)) pma_nil)) (pma_cons (pm_call (G_law_deep H) rfl rfl rfl rfl rfl (hr.mono (by decide)) (by rfl) hx (pma_cons (pm_c (.int 1) pe_int (fun _ _ => rfl)) pma_nil)) (pma_cons (pm_mul rfl (pm_tup (pma_cons (pm_tup pma_nil) pma_nil)) (pm_c (.int 10) pe_int (fun _ _ => rfl))) (pma_cons (pm_mul rfl (pm_tup (pma_cons (pm_tup pma_nil) pma_nil)) (pm_c (.int 9) pe_int (fun _ _ => rfl))) (pma_cons (pm_tup (pma_cons (pm_v (pv 1)) pma_nil)) (pma_cons (pm_v (pv 1)) pma_nil))))))))))) pma_nil))))))))))
theorem K__law_call (B : Bl mg) (B2 : Bl2 mg) (D : Dfn K mg "_law_call" s_law_call ["which", "web", "number"]) (Gfirm : KM P w K mg base 8 "firm" ["web", "k"] M_firm) (Gweak : KM P w K mg base 7 "weak" ["web", "k"] M_weak) (Ggreatest_firm : KM P w K mg base 7 "greatest_firm" ["web"] M_greatest_firm) (Gweb_text : KM P w K mg base 7 "web_text" ["web"] M_web_text) : KM P w K mg base 9 "_law_call" ["which", "web", "number"] M__law_call := fun h0 =>
  Dfn.keptM (N := N_law_call) (k := 8) (h0 := h0) D sc_law_call fun f cdv A ou s H E hr => by
    have tk := takes_of (X := cxOf (L2.CX P w) P w K mg base N_law_call "_law_call" (defScope s_law_call) f cdv A ou s H E) (E := E) rfl rfl rfl rfl
    have hx := passAt tk
    exact (pms_cons (pms_if (pmt_cmp (op_ltA rfl (hr.units0)) om_lt (pm_v (pv 0)) (pm_c (.int 2) pe_int (fun _ _ => rfl)) (nomark _)) (pms_one (pms_ret (pm_callN (tab_cons (Gfirm H) (hr.mono (by decide)) (tab_cons (Gweak H) (hr.mono (by decide)) tab_nil)) rfl rfl rfl rfl rfl hx (pm_ix rfl (hu65 hr) (pm_lst (pma_cons (pm_nam (Gfirm H) rfl (by rfl)) (pma_cons (pm_nam (Gweak H) rfl (by rfl)) pma_nil))) (pm_v (pv 0)) (fun _ _ => rfl) (fun _ _ => rfl)) (pma_cons (pm_v (pv 1)) (pma_cons (pm_v (pv 2)) pma_nil))))) pms_nil)
      (pms_one (pms_ret (pm_callN (tab_cons (Ggreatest_firm H) (hr.mono (by decide)) (tab_cons (Gweb_text H) (hr.mono (by decide)) tab_nil)) rfl rfl rfl rfl rfl hx (pm_ix rfl (hu65 hr) (pm_lst (pma_cons (pm_nam (Ggreatest_firm H) rfl (by rfl)) (pma_cons (pm_nam (Gweb_text H) rfl (by rfl)) pma_nil))) (pm_sub (pm_v (pv 0)) (pm_c (.int 2) pe_int (fun _ _ => rfl))) (fun _ _ => rfl) (fun _ _ => rfl)) (pma_cons (pm_v (pv 1)) pma_nil)))))
theorem K__law_told (B : Bl mg) (B2 : Bl2 mg) (D : Dfn K mg "_law_told" s_law_told ["which", "web", "number"]) (G_law_call : KM P w K mg base 9 "_law_call" ["which", "web", "number"] M__law_call) {ACardError : Addr} (nCardError : mg "CardError" = some (.ref ACardError)) {ANoNumber : Addr} (nNoNumber : mg "NoNumber" = some (.ref ANoNumber)) {ANoWeb : Addr} (nNoWeb : mg "NoWeb" = some (.ref ANoWeb)) (tCardError : TbOk K mg [("NoNumber", true), ("NoWeb", true)] (.ref ACardError)) (iNoWeb : IsTb K mg [("NoNumber", false), ("NoWeb", true)] (.ref ANoWeb)) (iNoNumber : IsTb K mg [("NoNumber", true), ("NoWeb", false)] (.ref ANoNumber)) (iValueError : IsTb K mg [("NoNumber", true), ("NoWeb", true)] (.type "ValueError")) : KM P w K mg base 10 "_law_told" ["which", "web", "number"] M__law_told := fun h0 =>
  Dfn.keptM (N := N_law_told) (k := 9) (h0 := h0) D sc_law_told fun f cdv A ou s H E hr => by
    have tk := takes_of (X := cxOf (L2.CX P w) P w K mg base N_law_told "_law_told" (defScope s_law_told) f cdv A ou s H E) (E := E) rfl rfl rfl rfl
    have hx := passAt tk
    exact (pms_cons (pms_set (i := 3) sc_law_told.nd rfl (Or.inl rfl) (pm_c (.str "other") pe_str (fun _ _ => rfl)))
      (pms_cons (pms_try rfl rfl rfl rfl sc_law_told.nd tk (fun W pn xe tk hp => (pms_cons (pms_expr (pm_call (G_law_call H) rfl rfl rfl rfl rfl (hr.mono (by decide)) (by rfl) (passAt tk) (pma_cons (pm_v (pv 0)) (pma_cons (pm_v (pv 1)) (pma_cons (pm_v (pv 2)) pma_nil)))))
      (pms_one (pms_set (i := 3) sc_law_told.nd rfl (Or.inl rfl) (pm_c (.str "let") pe_str (fun _ _ => rfl)))))) (.named (i := 4) ⟨by rfl, by decide, .inl nCardError⟩ tCardError rfl rfl (fun a oe cls d pn er hz hf hc => (pms_cons (pms_set (i := 5) sc_law_told.nd rfl (Or.inl rfl) (pm_lst (pma_cons (pm_errIs hz hf hc rfl iNoWeb (.own _) (by rfl) B.b_isinstance (by decide +kernel) (pv 4) (pe_glob (by rfl) nNoWeb rfl)) (pma_cons (pm_errIs hz hf hc rfl iNoNumber (.own _) (by rfl) B.b_isinstance (by decide +kernel) (pv 4) (pe_glob (by rfl) nNoNumber rfl)) pma_nil))))
      (pms_one (pms_if (pmt_w (pmw_and (pmt_cmp (op_eqA rfl (hu65s hr)) om_eq (pm_bm rfl PySem.F.plainAttrs_list PySem.F.slot_list_count PySem.F.type_list_count (mt_cntD rfl (hu65s hr)) mm_cnt (pm_v (pv 5)) (pma_cons (pm_c (.bl true) pe_bl (fun _ _ => rfl)) pma_nil)) (pm_c (.int 1) pe_int (fun _ _ => rfl)) (nomark _)) (pmw_and1 (pmt_truth rfl (pm_errIs hz hf hc rfl iValueError (.ty "ValueError") (by rfl) B.b_isinstance (by decide +kernel) (pv 4) (pe_bltn (v := .ty "ValueError") (by rfl) B.b_ValueError (by decide +kernel) rfl)) (by intro _; rfl))))) (pms_one (pms_set (i := 3) sc_law_told.nd rfl (Or.inl rfl) (pm_ix rfl (hu65s hr) (pm_lst (pma_cons (pm_c (.str "web") pe_str (fun _ _ => rfl)) (pma_cons (pm_c (.str "number") pe_str (fun _ _ => rfl)) pma_nil))) (pm_bm rfl PySem.F.plainAttrs_list PySem.F.slot_list_index PySem.F.type_list_index (mt_idxD rfl (hu65s hr)) mm_idx (pm_v (pv 5)) (pma_cons (pm_c (.bl true) pe_bl (fun _ _ => rfl)) pma_nil)) (fun _ _ => rfl) (fun _ _ => rfl)))) pms_nil)))) .nil))
      (pms_one (pms_ret (pm_v (pv 3))))))
theorem K_law (B : Bl mg) (B2 : Bl2 mg) {fa : Addr} {fd : FuncData} (F : Fun K "law" "law" slaw fa fd) (b : Binds K fd ["script"] []) (gm : mg "law" = some (.ref fa)) (G_law_hand : KM P w K mg base 1 "_law_hand" ["script"] M__law_hand) (G_law_draw : KM P w K mg base 1 "_law_draw" ["hand", "many"] M__law_draw) (G_law_some : KM P w K mg base 2 "_law_some" ["hand", "things"] M__law_some) (G_law_deep : KM P w K mg base 1 "_law_deep" ["kind"] M__law_deep) (G_law_web : KM P w K mg base 2 "_law_web" ["hand", "many", "share"] M__law_web) (G_law_is_person : KM P w K mg base 1 "_law_is_person" ["thing", "many"] M__law_is_person) (G_law_is_web : KM P w K mg base 2 "_law_is_web" ["thing"] M__law_is_web) (G_law_bent_web : KM P w K mg base 3 "_law_bent_web" ["hand", "web"] M__law_bent_web) (G_law_told : KM P w K mg base 10 "_law_told" ["which", "web", "number"] M__law_told) : FnOk P w K mg base (L2.CX P w) 11 fa fd ["script"] (spM ⟨P, w, K, mg, none, H0⟩ M_law) :=
  Fun.okM (N := Nlaw) (k := 10) F b gm sclaw fun f cdv A ou s H E hr => by
    have tk := takes_of (X := cxOf (L2.CX P w) P w K mg base Nlaw "law" (defScope slaw) f cdv A ou s H E) (E := E) rfl rfl rfl rfl
    have hx := passAt tk
    exact (pms_cons (pms_set (i := 1) sclaw.nd rfl (Or.inl rfl) (pm_call (G_law_hand H) rfl rfl rfl rfl rfl (hr.mono (by decide)) (by rfl) hx (pma_cons (pm_v (pv 0)) pma_nil)))
      (pms_cons (pms_for (passes_of rfl) rfl (pmi_range1 (by rfl) B.b_range (pma_cons (pm_c (.int 3) pe_int (fun _ _ => rfl)) pma_nil)) (pg_nm (pg_name (i := 2) sclaw.nd rfl (Or.inl rfl))) (pms_cons (pms_set (i := 3) sclaw.nd rfl (Or.inl rfl) (pm_call (G_law_web H) rfl rfl rfl rfl rfl (hr.mono (by decide)) (by rfl) hx (pma_cons (pm_v (pv 1)) (pma_cons (pm_add rfl (pm_c (.int 1) pe_int (fun _ _ => rfl)) (pm_call (G_law_draw H) rfl rfl rfl rfl rfl (hr.mono (by decide)) (by rfl) hx (pma_cons (pm_v (pv 1)) (pma_cons (pm_c (.int 5) pe_int (fun _ _ => rfl)) pma_nil)))) (pma_cons (pm_call (G_law_some H) rfl rfl rfl rfl rfl (hr.mono (by decide)) (by rfl) hx (pma_cons (pm_v (pv 1)) (pma_cons (pm_lst (pma_cons (pm_c (.int 4) pe_int (fun _ _ => rfl)) (pma_cons (pm_c (.int 8) pe_int (fun _ _ => rfl)) (pma_cons (pm_c (.int 12) pe_int (fun _ _ => rfl)) pma_nil)))) pma_nil))) pma_nil)))))
      (pms_one (pms_for (passes_of rfl) rfl (pmi_range1 (by rfl) B.b_range (pma_cons (pm_c (.int 4) pe_int (fun _ _ => rfl)) pma_nil)) (pg_nm (pg_name (i := 4) sclaw.nd rfl (Or.inl rfl))) (pms_cons (pms_set (i := 5) sclaw.nd rfl (Or.inl rfl) (pm_call (G_law_bent_web H) rfl rfl rfl rfl rfl (hr.mono (by decide)) (by rfl) hx (pma_cons (pm_v (pv 1)) (pma_cons (pm_v (pv 3)) pma_nil))))
      (pms_cons (pms_set (i := 6) sclaw.nd rfl (Or.inl rfl) (pm_lst (pma_cons (pm_neg (pm_c (.int 1) pe_int (fun _ _ => rfl))) (pma_cons (pm_c (.int 10) pe_int (fun _ _ => rfl)) (pma_cons (pm_c (.bl true) pe_bl (fun _ _ => rfl)) (pma_cons (pm_c (.bl false) pe_bl (fun _ _ => rfl)) (pma_cons (pm_c .non pe_non (fun _ _ => rfl)) (pma_cons (pm_c (.str "1") pe_str (fun _ _ => rfl)) (pma_cons (pm_tup (pma_cons (pm_c (.int 1) pe_int (fun _ _ => rfl)) pma_nil)) (pma_cons (pm_lst (pma_cons (pm_c (.int 1) pe_int (fun _ _ => rfl)) pma_nil)) (pma_cons (pm_pow (pm_c (.int 10) pe_int (fun _ _ => rfl)) (pm_c (.int 30) pe_int (fun _ _ => rfl))) (pma_cons pm_dct0 (pma_cons (pm_call (G_law_deep H) rfl rfl rfl rfl rfl (hr.mono (by decide)) (by rfl) hx (pma_cons (pm_c (.int 0) pe_int (fun _ _ => rfl)) pma_nil)) (pma_cons (pm_c (.int 0) pe_int (fun _ _ => rfl)) (pma_cons (pm_c (.int 9) pe_int (fun _ _ => rfl)) pma_nil)))))))))))))))
      (pms_cons (pms_set (i := 7) sclaw.nd rfl (Or.inl rfl) (pm_call (G_law_some H) rfl rfl rfl rfl rfl (hr.mono (by decide)) (by rfl) hx (pma_cons (pm_v (pv 1)) (pma_cons (pm_v (pv 6)) pma_nil))))
      (pms_one (pms_for (passes_of rfl) rfl (pmi_seq rfl (pm_lst (pma_cons (pm_v (pv 5)) (pma_cons (pm_v (pv 3)) pma_nil)))) (pg_nm (pg_name (i := 8) sclaw.nd rfl (Or.inr rfl))) (pms_cons (pms_for (passes_of rfl) rfl (pmi_seq rfl (pm_lst (pma_cons (pm_v (pv 7)) (pma_cons (pm_call (G_law_draw H) rfl rfl rfl rfl rfl (hr.mono (by decide)) (by rfl) hx (pma_cons (pm_v (pv 1)) (pma_cons (pm_c (.int 10) pe_int (fun _ _ => rfl)) pma_nil))) pma_nil)))) (pg_nm (pg_name (i := 9) sclaw.nd rfl (Or.inr rfl))) (pms_cons (pms_set (i := 10) sclaw.nd rfl (Or.inl rfl) (pm_if (pmt_truth rfl (pm_call (G_law_is_person H) rfl rfl rfl rfl rfl (hr.mono (by decide)) (by rfl) hx (pma_cons (pm_v (pv 9)) (pma_cons (pm_c (.int 10) pe_int (fun _ _ => rfl)) pma_nil))) (by intro _; rfl)) (pm_c (.str "let") pe_str (fun _ _ => rfl)) (pm_c (.str "number") pe_str (fun _ _ => rfl))))
      (pms_cons (pms_set (i := 10) sclaw.nd rfl (Or.inl rfl) (pm_if (pmt_truth rfl (pm_call (G_law_is_web H) rfl rfl rfl rfl rfl (hr.mono (by decide)) (by rfl) hx (pma_cons (pm_v (pv 8)) pma_nil)) (by intro _; rfl)) (pm_v (pv 10)) (pm_c (.str "web") pe_str (fun _ _ => rfl))))
      (pms_one (pms_if (pmt_cmp (op_neA rfl (hu65 hr)) om_ne (pm_lc (own := [("which", 11)]) (by rfl) sclaw.nd (pmi_range1 (by rfl) B.b_range (pma_cons (pm_c (.int 2) pe_int (fun _ _ => rfl)) pma_nil)) (blkOk_by (own := [("which", 11)]) (N := Nlaw) (sc := defScope slaw) (by decide +kernel)) (by decide) (fun _ _ _ _ _ => (pg_nm (pg_name (i := 11) sclaw.nd rfl (Or.inl rfl)))) (fun _ _ _ _ _ => pts_none) (fun _ _ _ _ _ => (pm_call (G_law_told H) rfl rfl rfl rfl rfl (hr.mono (by decide)) (by rfl) passNo (pma_cons (pm_v (pv 11)) (pma_cons (pm_v (pv 8)) (pma_cons (pm_v (pv 9)) pma_nil)))))) (pm_lst (pma_cons (pm_v (pv 10)) (pma_cons (pm_v (pv 10)) pma_nil))) (nomark _)) (pms_one (pms_ret (pm_c (.bl false) pe_bl (fun _ _ => rfl)))) pms_nil)))))
      (pms_cons (pms_set (i := 10) sclaw.nd rfl (Or.inl rfl) (pm_if (pmt_truth rfl (pm_call (G_law_is_web H) rfl rfl rfl rfl rfl (hr.mono (by decide)) (by rfl) hx (pma_cons (pm_v (pv 8)) pma_nil)) (by intro _; rfl)) (pm_c (.str "let") pe_str (fun _ _ => rfl)) (pm_c (.str "web") pe_str (fun _ _ => rfl))))
      (pms_one (pms_if (pmt_cmp (op_neA rfl (hu65 hr)) om_ne (pm_lc (own := [("which", 11)]) (by rfl) sclaw.nd (pmi_seq rfl (pm_lst (pma_cons (pm_c (.int 2) pe_int (fun _ _ => rfl)) (pma_cons (pm_c (.int 3) pe_int (fun _ _ => rfl)) pma_nil)))) (blkOk_by (own := [("which", 11)]) (N := Nlaw) (sc := defScope slaw) (by decide +kernel)) (by decide) (fun _ _ _ _ _ => (pg_nm (pg_name (i := 11) sclaw.nd rfl (Or.inl rfl)))) (fun _ _ _ _ _ => pts_none) (fun _ _ _ _ _ => (pm_call (G_law_told H) rfl rfl rfl rfl rfl (hr.mono (by decide)) (by rfl) passNo (pma_cons (pm_v (pv 11)) (pma_cons (pm_v (pv 8)) (pma_cons (pm_c .non pe_non (fun _ _ => rfl)) pma_nil)))))) (pm_lst (pma_cons (pm_v (pv 10)) (pma_cons (pm_v (pv 10)) pma_nil))) (nomark _)) (pms_one (pms_ret (pm_c (.bl false) pe_bl (fun _ _ => rfl)))) pms_nil)))))))))))))
      (pms_one (pms_ret (pm_c (.bl true) pe_bl (fun _ _ => rfl))))))
end
end Lw

set_option maxHeartbeats 4000000
/-! reckoning with mirrors: what a statement, a loop comes to -/
namespace Pl
open PySem PySem.Spec PyProof.Rows L2 Hn
structure Kt where
  nx : Env → Sto → Prop
  rt : D → Sto → Prop := fun _ _ => False
  bk : Env → Sto → Prop := fun _ _ => False
  ct : Env → Sto → Prop := fun _ _ => False
  er : Er → Sto → Prop := fun _ _ => False
def O.wp (o : O) (K : Kt) : Prop := match o with
  | .nx ρ st => K.nx ρ st
  | .rt d st => K.rt d st
  | .bk ρ st => K.bk ρ st
  | .ct ρ st => K.ct ρ st
  | .er e _ st => K.er e st
  | .no => False
@[simp] theorem wp_nx {ρ : Env} {st : Sto} {K : Kt} : (O.nx ρ st).wp K = K.nx ρ st := rfl
@[simp] theorem wp_rt {d : D} {st : Sto} {K : Kt} : (O.rt d st).wp K = K.rt d st := rfl
@[simp] theorem wp_bk {ρ : Env} {st : Sto} {K : Kt} : (O.bk ρ st).wp K = K.bk ρ st := rfl
@[simp] theorem wp_ct {ρ : Env} {st : Sto} {K : Kt} : (O.ct ρ st).wp K = K.ct ρ st := rfl
@[simp] theorem wp_er {e : Er} {ρ : Env} {st : Sto} {K : Kt} : (O.er e ρ st).wp K = K.er e st := rfl
@[simp] theorem wp_no {K : Kt} : O.no.wp K = False := rfl
@[simp] theorem post_okR {α : Type} {a : α} {st : Sto} {P : α → Sto → Prop} {B : Er → Sto → Prop} : (R.ok a st).post P B = P a st := rfl
@[simp] theorem post_erR {α : Type} {e : Er} {st : Sto} {P : α → Sto → Prop} {B : Er → Sto → Prop} : (R.er e st : R α).post P B = B e st := rfl
theorem wp_mono {o : O} {K K' : Kt} (h : o.wp K) (n : ∀ ρ st, K.nx ρ st → K'.nx ρ st) (r : ∀ d st, K.rt d st → K'.rt d st) (b : ∀ ρ st, K.bk ρ st → K'.bk ρ st) (c : ∀ ρ st, K.ct ρ st → K'.ct ρ st) (e : ∀ x st, K.er x st → K'.er x st) : o.wp K' := by
  cases o with
  | nx => exact n _ _ h
  | rt => exact r _ _ h
  | bk => exact b _ _ h
  | ct => exact c _ _ h
  | er => exact e _ _ h
  | no => exact h
theorem wp_seq {a b : Env → Sto → O} {ρ : Env} {st : Sto} {K : Kt} (h : (a ρ st).wp { K with nx := fun ρ st => (b ρ st).wp K }) : (mSeq a b ρ st).wp K := by
  unfold mSeq
  cases e : a ρ st with
  | _ => rw [e] at h; exact h
theorem wp_of {α : Type} {r : R α} {ρ : Env} {k : α → Sto → O} {K : Kt} (h : r.post (fun a st => (k a st).wp K) K.er) : (O.of r ρ k).wp K := by
  cases r with
  | ok a st => exact h
  | er e st => exact h
  | no => exact h
theorem post_bindI {α β : Type} {r : R α} {f : α → Sto → R β} {P : β → Sto → Prop} {B : Er → Sto → Prop} (h : r.post (fun a st => (f a st).post P B) B) : (r.bind f).post P B := by
  cases r with
  | ok a st => exact h
  | er e st => exact h
  | no => exact h
theorem post_eq {α : Type} {r : R α} {a : α} {st : Sto} (h : r.post (fun x s => x = a ∧ s = st) (fun _ _ => False)) : r = .ok a st := by
  cases r with
  | ok x s => obtain ⟨rfl, rfl⟩ := h; rfl
  | er e st => exact h.elim
  | no => exact h.elim
theorem post_ex {α : Type} {r : R α} {P : α → Sto → Prop} (h : r.post P (fun _ _ => False)) : ∃ a st, r = .ok a st ∧ P a st := by
  cases r with
  | ok x s => exact ⟨x, s, rfl, h⟩
  | er e st => exact h.elim
  | no => exact h.elim
/-- a walk step by step -/
theorem for_go {it : Wk} {p : Pat} {b : Env → Sto → O} {K : Kt} (Inv : Nat → Env → Sto → Prop)
    (step : ∀ (i : Nat) (d : D) (ρ : Env) (st : Sto), it.items[i]? = some d → Inv i ρ st → it.stay st ∧ ∃ ρ1, p.set d ρ = some ρ1 ∧ (b ρ1 st).wp { nx := Inv (i + 1), rt := K.rt, bk := K.nx, ct := Inv (i + 1), er := K.er })
    (fin : ∀ ρ st, Inv it.items.length ρ st → it.stay st ∧ K.nx ρ st) : ∀ (n i : Nat) (ρ : Env) (st : Sto), n = it.items.length - i → i ≤ it.items.length → Inv i ρ st → (forGo it p b (it.items.drop i) ρ st).wp K
  | 0, i, ρ, st, hn, hi, h => by
    have e : i = it.items.length := by omega
    subst e
    rw [List.drop_length]
    unfold forGo
    obtain ⟨h1, h2⟩ := fin ρ st h
    rw [if_pos h1]
    exact h2
  | n + 1, i, ρ, st, hn, hi, h => by
    have hl : i < it.items.length := by omega
    rw [List.drop_eq_getElem_cons hl]
    unfold forGo
    obtain ⟨h1, ρ1, e1, h2⟩ := step i it.items[i] ρ st (List.getElem?_eq_getElem hl) h
    rw [if_pos h1, e1]
    simp only [ofOptO_some]
    cases e : b ρ1 st with
    | nx ρ2 st2 => rw [e] at h2; exact for_go Inv step fin n (i + 1) ρ2 st2 (by omega) hl h2
    | ct ρ2 st2 => rw [e] at h2; exact for_go Inv step fin n (i + 1) ρ2 st2 (by omega) hl h2
    | bk ρ2 st2 => rw [e] at h2; exact h2
    | rt d st2 => rw [e] at h2; exact h2
    | er x ρ2 st2 => rw [e] at h2; exact h2
    | no => rw [e] at h2; exact h2
theorem wp_for {mi : Env → Sto → R Wk} {p : Pat} {b : Env → Sto → O} {K : Kt} {ρ : Env} {st st1 : Sto} {it : Wk} (e : mi ρ st = .ok it st1) (Inv : Nat → Env → Sto → Prop) (h0 : Inv 0 ρ st1)
    (step : ∀ (i : Nat) (d : D) (ρ : Env) (st : Sto), it.items[i]? = some d → Inv i ρ st → it.stay st ∧ ∃ ρ1, p.set d ρ = some ρ1 ∧ (b ρ1 st).wp { nx := Inv (i + 1), rt := K.rt, bk := K.nx, ct := Inv (i + 1), er := K.er })
    (fin : ∀ ρ st, Inv it.items.length ρ st → it.stay st ∧ K.nx ρ st) : (mFor mi p b ρ st).wp K := by
  unfold mFor
  rw [e]
  have := for_go Inv step fin it.items.length 0 ρ st1 (by omega) (by omega) h0
  rw [List.drop_zero] at this
  exact this
theorem wp_while {t : Env → Sto → R Bool} {b : Env → Sto → O} {K : Kt} {ρ : Env} {st : Sto} (Inv : Nat → Env → Sto → Prop) (k : Nat) (h0 : Inv k ρ st)
    (step : ∀ (k : Nat) (ρ : Env) (st : Sto), Inv k ρ st → (t ρ st).post (fun c st1 => if c = true then (b ρ st1).wp { nx := fun ρ' st' => ∃ k', k' < k ∧ Inv k' ρ' st', rt := K.rt, bk := K.nx, ct := fun ρ' st' => ∃ k', k' < k ∧ Inv k' ρ' st', er := K.er } else K.nx ρ st1) K.er) :
    (mWhile t b ρ st).wp K := by
  have key : ∀ (k : Nat) (ρ : Env) (st : Sto), Inv k ρ st → ∃ n, (whileN t b n ρ st).wp K := by
    intro k
    induction k using Nat.strongRecOn with
    | _ k ih =>
      intro ρ st h
      have hs := step k ρ st h
      cases e : t ρ st with
      | no => rw [e] at hs; exact hs.elim
      | er x st1 => rw [e] at hs; refine ⟨1, ?_⟩; unfold whileN; rw [e]; exact hs
      | ok c st1 =>
        rw [e] at hs
        cases c with
        | false => refine ⟨1, ?_⟩; unfold whileN; rw [e]; exact hs
        | true =>
          simp only [post_okR, if_true] at hs
          cases e2 : b ρ st1 with
          | nx ρ2 st2 =>
            rw [e2] at hs
            obtain ⟨k', hk, h'⟩ := hs
            obtain ⟨n, hn⟩ := ih k' hk ρ2 st2 h'
            refine ⟨n + 1, ?_⟩
            unfold whileN
            rw [e]
            simp only [O.of_ok, if_true]
            rw [e2]
            exact hn
          | ct ρ2 st2 =>
            rw [e2] at hs
            obtain ⟨k', hk, h'⟩ := hs
            obtain ⟨n, hn⟩ := ih k' hk ρ2 st2 h'
            refine ⟨n + 1, ?_⟩
            unfold whileN
            rw [e]
            simp only [O.of_ok, if_true]
            rw [e2]
            exact hn
          | bk ρ2 st2 => rw [e2] at hs; refine ⟨1, ?_⟩; unfold whileN; rw [e]; simp only [O.of_ok, if_true]; rw [e2]; exact hs
          | rt d st2 => rw [e2] at hs; refine ⟨1, ?_⟩; unfold whileN; rw [e]; simp only [O.of_ok, if_true]; rw [e2]; exact hs
          | er x ρ2 st2 => rw [e2] at hs; refine ⟨1, ?_⟩; unfold whileN; rw [e]; simp only [O.of_ok, if_true]; rw [e2]; exact hs
          | no => rw [e2] at hs; exact hs.elim
  obtain ⟨n, hn⟩ := key k ρ st h0
  have e := mWhile_eq (o := whileN t b n ρ st) n rfl (fun z => by rw [z] at hn; exact hn)
  rw [e]
  exact hn
/-- a comprehension that changes nothing -/
theorem comp_pure {it : Wk} {p : Pat} {t : Env → Sto → R Bool} {m : Env → Sto → R D} {ρ : Env} {st : Sto} (c : D → Bool) (f : D → D) (hs : it.stay st) : ∀ (ds acc : List D), (acc.length + ds.length ≤ lim) →
    (∀ d ∈ ds, ∃ ρ1, p.set d ρ = some ρ1 ∧ t ρ1 st = .ok (c d) st ∧ (c d = true → m ρ1 st = .ok (f d) st)) → compGo it p t m ρ ds st acc = .ok (acc ++ (ds.filter c).map f) st
  | [], acc, _, _ => by
    unfold compGo
    rw [if_pos hs]
    simp
  | d :: ds, acc, hl, h => by
    unfold compGo
    obtain ⟨ρ1, e1, e2, e3⟩ := h d List.mem_cons_self
    rw [if_pos hs, e1]
    simp only [ofOpt_some, e2, R.ner_ok]
    have hl2 : acc.length + ds.length + 1 ≤ lim := by rw [List.length_cons] at hl; omega
    cases hc : c d with
    | true =>
      simp only [if_true, e3 hc, R.ner_ok]
      unfold guardR
      rw [if_pos (by omega), comp_pure c f hs ds (acc ++ [f d]) (by rw [List.length_append]; simp; omega) fun d' hd => h d' (List.mem_cons_of_mem _ hd)]
      simp [List.filter_cons, hc]
    | false =>
      simp only [Bool.false_eq_true, if_false]
      rw [comp_pure c f hs ds acc (by omega) fun d' hd => h d' (List.mem_cons_of_mem _ hd)]
      simp [List.filter_cons, hc]
theorem mComp_pure {mi : Env → Sto → R Wk} {vs : List Nat} {p : Pat} {t : Env → Sto → R Bool} {m : Env → Sto → R D} {ρ : Env} {st st1 : Sto} {it : Wk} (c : D → Bool) (f : D → D) (e : mi ρ st = .ok it st1) (hs : it.stay st1) (hl : it.items.length ≤ lim)
    (h : ∀ d ∈ it.items, ∃ ρ1, p.set d (wipeD ρ vs) = some ρ1 ∧ t ρ1 st1 = .ok (c d) st1 ∧ (c d = true → m ρ1 st1 = .ok (f d) st1)) : mComp mi vs p t m ρ st = .ok (.lst ((it.items.filter c).map f)) st1 := by
  unfold mComp
  rw [e]
  simp only [R.ok_bind]
  rw [comp_pure c f hs it.items [] (by simpa using hl) h]
  rfl
@[simp] theorem gcs {st : Sto} {d : D} : gc st (.ok d st) = .ok d st := gc_same
@[simp] theorem gces {st : Sto} {e : Er} : gc st (.er e st) = .er e st := gc_er_same
theorem toR_post {o : O} {P : D → Sto → Prop} {B : Er → Sto → Prop} (h : o.wp { nx := fun _ st => P .non st, rt := P, er := B }) : (toR o).post P B := by
  cases o with
  | nx => exact h
  | rt => exact h
  | er => exact h
  | _ => exact h.elim
theorem mDef_eq {k n : Nat} {m : Env → Sto → O} {ds : List D} {st : Sto} (h : ds.length = k) : mDef k n m ds st = gc st (toR (m (ds.map some ++ List.replicate (n - k) none) st)) := by
  unfold mDef
  rw [if_pos h]
theorem seq_nx {a b : Env → Sto → O} {ρ ρ1 : Env} {st st1 : Sto} (e : a ρ st = .nx ρ1 st1) : mSeq a b ρ st = b ρ1 st1 := by
  unfold mSeq
  rw [e]
theorem ifS_f {t : Env → Sto → R Bool} {a b : Env → Sto → O} {ρ : Env} {st st1 : Sto} (e : t ρ st = .ok false st1) : mIfS t a b ρ st = b ρ st1 := by
  unfold mIfS
  rw [e]
  rfl
theorem or_f {a b : Env → Sto → R Bool} {ρ : Env} {st st1 : Sto} (e : a ρ st = .ok false st1) : mOr a b ρ st = b ρ st1 := by
  unfold mOr
  rw [e]
  rfl
theorem not_ok {a : Env → Sto → R Bool} {ρ : Env} {st st1 : Sto} {b : Bool} (e : a ρ st = .ok b st1) : mNot a ρ st = .ok (!b) st1 := by
  unfold mNot
  rw [e]
  rfl
theorem andV_t {a b : Env → Sto → R D} {ρ : Env} {st st1 : Sto} (e : a ρ st = .ok (.bl true) st1) : mAndV a b ρ st = b ρ st1 := by
  unfold mAndV
  rw [e]
  rfl
theorem tst_ok {m : Env → Sto → R D} {ρ : Env} {st st1 : Sto} {b : Bool} (e : m ρ st = .ok (.bl b) st1) : mTst m ρ st = .ok b st1 := by
  unfold mTst
  rw [e]
  rfl
theorem tru_ok {m : Env → Sto → R D} {ρ : Env} {st st1 : Sto} {d : D} {b : Bool} (e : m ρ st = .ok d st1) (e2 : truD st1 d = some b) : mTru m ρ st = .ok b st1 := by
  unfold mTru
  rw [e]
  simp only [R.ok_bind, e2, ofOpt_some]
theorem tru_bl {m : Env → Sto → R D} {ρ : Env} {st st1 : Sto} {b : Bool} (e : m ρ st = .ok (.bl b) st1) : mTru m ρ st = .ok b st1 := tru_ok e rfl
theorem ret_ok {m : Env → Sto → R D} {ρ : Env} {st st1 : Sto} {d : D} (e : m ρ st = .ok d st1) : mRet m ρ st = .rt d st1 := by
  unfold mRet
  rw [e]
  rfl
theorem call_ok {f : List D → Sto → R D} {ms : Env → Sto → R (List D)} {ρ : Env} {st st1 : Sto} {ds : List D} (e : ms ρ st = .ok ds st1) : mCall f ms ρ st = f ds st1 := by
  unfold mCall
  rw [e]
  rfl
theorem cons_ok {m : Env → Sto → R D} {ms : Env → Sto → R (List D)} {ρ : Env} {st st1 st2 : Sto} {d : D} {ds : List D} (e : m ρ st = .ok d st1) (e2 : ms ρ st1 = .ok ds st2) : mCons m ms ρ st = .ok (d :: ds) st2 := by
  unfold mCons
  rw [e]
  simp only [R.ok_bind, e2]
theorem one_ok {m : Env → Sto → R D} {ρ : Env} {st st1 : Sto} {d : D} (e : m ρ st = .ok d st1) : mCons m mNil ρ st = .ok [d] st1 := cons_ok e rfl
theorem chain_t {f h : D → D → Sto → R D} {a b c : Env → Sto → R D} {ρ : Env} {st st1 st2 st3 st4 : Sto} {x y z : D} (e : a ρ st = .ok x st1) (e2 : b ρ st1 = .ok y st2) (e3 : f x y st2 = .ok (.bl true) st3) (e4 : c ρ st3 = .ok z st4) : mChain f h a b c ρ st = h y z st4 := by
  unfold mChain
  rw [e]
  simp only [R.ok_bind, e2, e3, blOf, if_true, e4]
/-- a def's answer by its body's outcome -/
theorem def_rt {k n : Nat} {m : Env → Sto → O} {ds : List D} {st : Sto} {d : D} (h : ds.length = k) (e : m (ds.map some ++ List.replicate (n - k) none) st = .rt d st) : mDef k n m ds st = .ok d st := by
  rw [mDef_eq h, e]
  exact gcs
theorem def_nx {k n : Nat} {m : Env → Sto → O} {ds : List D} {st : Sto} {ρ : Env} (h : ds.length = k) (e : m (ds.map some ++ List.replicate (n - k) none) st = .nx ρ st) : mDef k n m ds st = .ok .non st := by
  rw [mDef_eq h, e]
  exact gcs
@[simp] theorem guardR_pos {α : Type} {c : Prop} [Decidable c] {r : R α} (h : c) : guardR c r = r := by unfold guardR; rw [if_pos h]
end Pl

set_option maxHeartbeats 4000000
/-! data on the heap as the library tells them, kept; tuples only -/
namespace Hn
open PySem PySem.Spec PyProof.Rows L2 EF
open PySem.W (Frag keepIn)
section
variable {K : Frag} {H H' : Hp}
theorem seqL_same' {a : Addr} {xs : List V} (e : Same H H') (h : SqL K H a xs) : SqL K H' a xs := by
  rcases h with (h | ⟨o, h⟩) | h
  · exact .inl (.inl (e _ _ h))
  · exact .inl (.inr ⟨o, e _ _ h⟩)
  · exact .inr h
mutual
theorem dp_same (s : Same H H') : ∀ {x : V} {d : PyData}, Dp K H x d → Dp K H' x d
  | _, _, .non => .non
  | _, _, .bl b => .bl b
  | _, _, .int i => .int i
  | _, _, .str x => .str x
  | _, _, .lst h k => .lst (seqL_same' s h) (dps_same s k)
  | _, _, .tup h k => .tup (s.seqT h) (dps_same s k)
theorem dps_same (s : Same H H') : ∀ {xs : List V} {ds : List PyData}, DpAll K H xs ds → DpAll K H' xs ds
  | _, _, .nil => .nil
  | _, _, .cons h k => .cons (dp_same s h) (dps_same s k)
end
end
/-- rows of ints as a datum -/
def rowD (r : List Int) : PyData := .tuple (r.map .int)
def gridD (rows : List (List Int)) : PyData := .tuple (rows.map rowD)
end Hn

set_option maxHeartbeats 4000000
/-! lists of classes: pieces and knots -/
namespace Hn
open PySem PySem.Spec PyProof.Rows L2 EF
open PySem.W (Frag keepIn)
theorem ext_sorted {α : Type} {r : α → α → Prop} (as : ∀ a b, r a b → r b a → a = b) : ∀ {l m : List α}, l.Nodup → m.Nodup → l.Pairwise r → m.Pairwise r → (∀ x, x ∈ l ↔ x ∈ m) → l = m
  | [], [], _, _, _, _, _ => rfl
  | [], y :: m, _, _, _, _, h => absurd ((h y).mpr List.mem_cons_self) List.not_mem_nil
  | x :: l, [], _, _, _, _, h => absurd ((h x).mp List.mem_cons_self) List.not_mem_nil
  | x :: l, y :: m, n1, n2, p1, p2, h => by
    have q1 := List.pairwise_cons.mp p1
    have q2 := List.pairwise_cons.mp p2
    have d1 := List.nodup_cons.mp n1
    have d2 := List.nodup_cons.mp n2
    have e : x = y := by
      rcases List.mem_cons.mp ((h x).mp List.mem_cons_self) with z | z
      · exact z
      · rcases List.mem_cons.mp ((h y).mpr List.mem_cons_self) with z2 | z2
        · exact z2.symm
        · exact as x y (q1.1 y z2) (q2.1 x z)
    subst e
    rw [ext_sorted as d1.2 d2.2 q1.2 q2.2 fun z => ?_]
    constructor
    · intro hz
      rcases List.mem_cons.mp ((h z).mp (List.mem_cons_of_mem _ hz)) with y | y
      · exact absurd (y ▸ hz) d1.1
      · exact y
    · intro hz
      rcases List.mem_cons.mp ((h z).mpr (List.mem_cons_of_mem _ hz)) with y | y
      · exact absurd (y ▸ hz) d2.1
      · exact y
theorem asc_nodup {l : List Int} (h : l.Pairwise (· < ·)) : l.Nodup := h.imp fun z => Int.ne_of_lt z
theorem asc_ext {l m : List Int} (h : l.Pairwise (· < ·)) (k : m.Pairwise (· < ·)) (e : ∀ x, x ∈ l ↔ x ∈ m) : l = m := ext_sorted (fun a b h1 h2 => by omega) (asc_nodup h) (asc_nodup k) h k e
/-- k is the class of u, ascending -/
def IsCls (R : Int → Int → Prop) (u : Int) (k : List Int) : Prop := k.Pairwise (· < ·) ∧ ∀ w, w ∈ k ↔ R u w
theorem IsCls.uniq {R : Int → Int → Prop} {u : Int} {k k' : List Int} (a : IsCls R u k) (b : IsCls R u k') : k = k' := asc_ext a.1 b.1 fun w => (a.2 w).trans (b.2 w).symm
theorem lst_antisymm (q r : List Int) (h : ¬ r < q) (k : ¬ q < r) : q = r := List.le_antisymm (List.not_lt.mp h) (List.not_lt.mp k)
/-- the list of all classes of the n people, in its order -/
structure ClassList (n : Nat) (R : Int → Int → Prop) (ks : List (List Int)) : Prop where
  srt : ks.Pairwise fun q r => ¬ r < q
  nd : ks.Nodup
  cls : ∀ k ∈ ks, ∃ u : Nat, u < n ∧ IsCls R u k
  all : ∀ u : Nat, u < n → ∃ k, k ∈ ks ∧ IsCls R u k
section
variable {n : Nat} {R R' : Int → Int → Prop} {ks ks' : List (List Int)}
theorem ClassList.ext (a : ClassList n R ks) (b : ClassList n R ks') : ks = ks' :=
  ext_sorted (r := fun q r => ¬ r < q) (fun q r h1 h2 => lst_antisymm q r h1 h2) a.nd b.nd a.srt b.srt fun k => ⟨fun h => by
    obtain ⟨u, hu, c⟩ := a.cls k h
    obtain ⟨k', h', c'⟩ := b.all u hu
    rw [c.uniq c']
    exact h', fun h => by
    obtain ⟨u, hu, c⟩ := b.cls k h
    obtain ⟨k', h', c'⟩ := a.all u hu
    rw [c.uniq c']
    exact h'⟩
theorem ClassList.congr (a : ClassList n R ks) (h : ∀ (u : Nat) (w : Int), u < n → (R u w ↔ R' u w)) : ClassList n R' ks :=
  ⟨a.srt, a.nd, fun k hk => by
    obtain ⟨u, hu, c⟩ := a.cls k hk
    exact ⟨u, hu, c.1, fun w => (c.2 w).trans (h u w hu)⟩, fun u hu => by
    obtain ⟨k, hk, c⟩ := a.all u hu
    exact ⟨k, hk, c.1, fun w => (c.2 w).trans (h u w hu)⟩⟩
end
theorem Reach.trans {rows : List (List Int)} {u v w : Int} (a : Reach rows u v) (b : Reach rows v w) : Reach rows u w := by
  induction b with
  | refl => exact a
  | step _ hw ih => exact .step ih hw
theorem Reach.head {rows : List (List Int)} {u v w : Int} (h : v ∈ rowAt rows u) (b : Reach rows v w) : Reach rows u w := (Reach.step .refl h).trans b
/-- they hang together by cards, whichever way -/
inductive Joined (rows : List (List Int)) (u : Int) : Int → Prop
  | refl : Joined rows u u
  | fwd {v w : Int} : Joined rows u v → w ∈ rowAt rows v → Joined rows u w
  | bwd {v w : Int} : Joined rows u v → 0 ≤ w → w < (rows.length : Int) → v ∈ rowAt rows w → Joined rows u w
section
variable {rows : List (List Int)} {u v w : Int}
theorem Joined.range (h : InRange rows) (hu : 0 ≤ u ∧ u < (rows.length : Int)) (r : Joined rows u v) : 0 ≤ v ∧ v < (rows.length : Int) := by
  cases r with
  | refl => exact hu
  | fwd _ hw => exact row_range h hw
  | bwd _ h1 h2 _ => exact ⟨h1, h2⟩
theorem Joined.trans (a : Joined rows u v) (b : Joined rows v w) : Joined rows u w := by
  induction b with
  | refl => exact a
  | fwd _ hw ih => exact .fwd ih hw
  | bwd _ h1 h2 hw ih => exact .bwd ih h1 h2 hw
theorem Joined.symm (h : InRange rows) (hu : 0 ≤ u ∧ u < (rows.length : Int)) (r : Joined rows u v) : Joined rows v u := by
  induction r with
  | refl => exact .refl
  | fwd a hw ih =>
    have z := a.range h hu
    exact (Joined.bwd .refl z.1 z.2 hw).trans ih
  | bwd a h1 h2 hw ih => exact (Joined.fwd .refl hw).trans ih
theorem Reach.joined (a : Reach rows u v) : Joined rows u v := by
  induction a with
  | refl => exact .refl
  | step _ hw ih => exact .fwd ih hw
end
end Hn

set_option maxHeartbeats 4000000
/-! webs as data -/
namespace Pl
open PySem PySem.Spec PyProof.Rows L2 Hn
def rowsL (rows : List (List Int)) : List D := rows.map rowD'
def webD (rows : List (List Int)) : D := .tup (rowsL rows)
@[simp] theorem rowsL_len {rows : List (List Int)} : (rowsL rows).length = rows.length := List.length_map _
theorem set_mid (xs ys : List C) (c c' : C) : (xs ++ c :: ys).set xs.length c' = xs ++ c' :: ys := by
  rw [List.set_append_right _ _ (Nat.le_refl _), Nat.sub_self]
  rfl
theorem get_mid (xs ys : List C) (c : C) : (xs ++ c :: ys)[xs.length]? = some c := by
  rw [List.getElem?_append_right (Nat.le_refl _), Nat.sub_self]
  rfl
theorem atI_in {α : Type} {xs : List α} {i : Int} (h0 : 0 ≤ i) (h1 : i < (xs.length : Int)) : ∃ x, atI xs i = some x ∧ xs[i.toNat]? = some x := by
  have hl : i.toNat < xs.length := by omega
  refine ⟨xs[i.toNat], ?_, List.getElem?_eq_getElem hl⟩
  unfold atI ixN
  rw [if_pos h0, if_pos h1]
  exact List.getElem?_eq_getElem hl
theorem atI_map {α β : Type} (f : α → β) (xs : List α) (i : Int) : atI (xs.map f) i = (atI xs i).map f := by
  unfold atI
  rw [List.length_map]
  cases ixN xs.length i with
  | none => rfl
  | some j => simp
theorem rowAt_at {rows : List (List Int)} {i : Int} (h0 : 0 ≤ i) (h1 : i < (rows.length : Int)) : atI rows i = some (rowAt rows i) := by
  obtain ⟨x, e1, e2⟩ := atI_in h0 h1
  rw [e1]
  unfold rowAt
  rw [List.getD_eq_getElem?_getD, e2]
  rfl
/-- a row of lists that are walked and indexed -/
structure Pk (st : Sto) (d : D) (rows : List (List Int)) : Prop where
  len : ∀ x, lenD [d] (st ++ x) = .ok (.int rows.length) (st ++ x)
  ix : ∀ (v : Int), 0 ≤ v → v < (rows.length : Int) → ∃ e it, it.items = (rowAt rows v).map D.int ∧ ∀ x, ixD d (.int v) (st ++ x) = .ok e (st ++ x) ∧ itrOf (st ++ x) e = some it ∧ it.stay (st ++ x)
theorem webD_ix {rows : List (List Int)} {v : Int} (h0 : 0 ≤ v) (h1 : v < (rows.length : Int)) (st : Sto) : ixD (webD rows) (.int v) st = .ok (rowD' (rowAt rows v)) st := by
  unfold webD rowsL
  rw [ixD_tup, atI_map, rowAt_at h0 h1]
  rfl
theorem Pk.web {st : Sto} {rows : List (List Int)} : Pk st (webD rows) rows := ⟨fun x => by
  unfold webD
  rw [lenD_tup, rowsL_len], fun v h0 h1 => ⟨rowD' (rowAt rows v), ⟨(rowAt rows v).map D.int, none⟩, rfl, fun x => ⟨webD_ix h0 h1 _, rfl, True.intro⟩⟩⟩
def encD (kvs : List (Int × Int)) : List (Key × D) := kvs.map fun p => (Sum.inl p.1, D.int p.2)
theorem encD_get (k : Int) : ∀ kvs : List (Int × Int), getK (encD kvs) (Sum.inl k) = (dist kvs k).map D.int
  | [] => rfl
  | (a, b) :: kvs => by
    have ih := encD_get k kvs
    unfold getK encD at ih ⊢
    unfold dist
    rw [List.map_cons, List.find?_cons]
    by_cases h : a = k
    · subst h
      simp
    · have e : (decide ((Sum.inl a : Key) = Sum.inl k)) = false := by simp [h]
      rw [e]
      simp only [h, if_false, Ne.symm h] at ih ⊢
      first | exact ih | simpa [h] using ih
theorem encD_put {kvs : List (Int × Int)} {w d : Int} (h : dist kvs w = none) : putK' (encD kvs) (Sum.inl w) (D.int d) = encD (kvs ++ [(w, d)]) := by
  unfold putK'
  rw [if_neg]
  · unfold encD; simp
  · intro z
    obtain ⟨⟨k, v⟩, h1, h2⟩ := List.any_eq_true.mp z
    obtain ⟨⟨a, b⟩, h3, h4⟩ := List.mem_map.mp h1
    cases h4
    have h5 : a = w := by simpa using h2
    have : w ∈ kvs.map (·.1) := List.mem_map.mpr ⟨_, h3, h5⟩
    obtain ⟨d', e⟩ := dist_mem.mp this
    rw [h] at e
    cases e
theorem cl_ints {n : Nat} : ∀ ns : List Int, ClDs n (ns.map D.int)
  | [] => True.intro
  | _ :: ns => ⟨True.intro, cl_ints ns⟩
theorem cl_row {n : Nat} {r : List Int} : ClD n (rowD' r) := cl_ints r
theorem cl_rows {n : Nat} : ∀ rows : List (List Int), ClDs n (rowsL rows)
  | [] => True.intro
  | _ :: ns => ⟨cl_row, cl_rows ns⟩
theorem cl_web {n : Nat} {rows : List (List Int)} : ClD n (webD rows) := cl_rows rows
theorem lim_of {n : Nat} (h : n ≤ 1000000) : n ≤ lim := Nat.le_trans h (by decide)
theorem lim_rng {lo : Int} {n : Nat} {src : Option (Nat × List D)} (h : n ≤ 1000000) : (Wk.items ⟨rngD lo n, src⟩).length ≤ lim := by
  have e : (Wk.items ⟨rngD lo n, src⟩).length = n := rngD_len
  rw [e]
  exact lim_of h
theorem b62_of {n : Nat} (h : n ≤ 1000000) : -b62 ≤ (n : Int) ∧ (n : Int) < b62 := by
  have h1 : (1000000 : Int) < b62 := by decide
  have h2 : -b62 ≤ 0 := by decide
  omega
theorem rng_ok {n : Nat} {st : Sto} (h : n ≤ 1000000) : rng1R [.int (n : Int)] st = .ok ⟨rngD 0 n, none⟩ st := by
  have e : rng1R [.int (n : Int)] st = guardR (-b62 ≤ (n : Int) ∧ (n : Int) < b62) (.ok ⟨rngD 0 (n : Int).toNat, none⟩ st) := rngR_one
  rw [e, guardR_pos (b62_of h), Int.toNat_natCast]
theorem itA_ok {f : List D → Sto → R Wk} {ms : Env → Sto → R (List D)} {ρ : Env} {st st1 : Sto} {ds : List D} {r : R Wk} (e : ms ρ st = .ok ds st1) (e2 : f ds st1 = r) : mItA f ms ρ st = r := by
  unfold mItA
  rw [e]
  exact e2
end Pl

set_option maxHeartbeats 4000000
/-! comparing webs, rows, numbers; all, any -/
namespace Pl
open PySem PySem.Spec PyProof.Rows L2 Hn
theorem eqv_row (a b : List Int) : PyData.eqv (rowD a) (rowD b) = decide (a = b) := by
  show PyData.eqvAll (a.map PyData.int) (b.map PyData.int) = _
  exact PySem.W.ked_eqvAll a b
theorem depth_row (r : List Int) : (rowD r).depth = 1 := by
  show PyData.depthAll (r.map PyData.int) + 1 = 1
  rw [PySem.W.depth_ints]
theorem lay_ints : ∀ r : List Int, PyData.canLayAll0 (r.map PyData.int) = true
  | [] => rfl
  | x :: r => lay_ints r
theorem shaped_ints (r : List Int) : SeqAt.shaped (.list (r.map PyData.int)) = true ∧ SeqAt.shaped (.tuple (r.map PyData.int)) = true := by
  constructor
  · unfold SeqAt.shaped
    show (PyData.canLayAll0 (r.map PyData.int) && decide (PyData.depthAll (r.map PyData.int) + 1 ≤ 64)) = true
    rw [lay_ints, PySem.W.depth_ints]
    rfl
  · unfold SeqAt.shaped
    show (PyData.canLayAll0 (r.map PyData.int) && decide (PyData.depthAll (r.map PyData.int) + 1 ≤ 64)) = true
    rw [lay_ints, PySem.W.depth_ints]
    rfl
theorem lay_rows : ∀ rs : List (List Int), PyData.canLayAll0 (rs.map rowD) = true
  | [] => rfl
  | r :: rs => by
    show (PyData.canLay0 (rowD r) && PyData.canLayAll0 (rs.map rowD)) = true
    rw [lay_rows rs, Bool.and_true]
    exact lay_ints r
theorem depth_rows : ∀ rs : List (List Int), PyData.depthAll (rs.map rowD) ≤ 1
  | [] => Nat.zero_le _
  | r :: rs => by
    show max (rowD r).depth (PyData.depthAll (rs.map rowD)) ≤ 1
    rw [depth_row]
    have := depth_rows rs
    omega
theorem shaped_rows (rs : List (List Int)) : SeqAt.shaped (.list (rs.map rowD)) = true ∧ SeqAt.shaped (.tuple (rs.map rowD)) = true := by
  have h := depth_rows rs
  constructor
  · unfold SeqAt.shaped
    show (PyData.canLayAll0 (rs.map rowD) && decide (PyData.depthAll (rs.map rowD) + 1 ≤ 64)) = true
    rw [lay_rows, decide_eq_true (by omega)]
    rfl
  · unfold SeqAt.shaped
    show (PyData.canLayAll0 (rs.map rowD) && decide (PyData.depthAll (rs.map rowD) + 1 ≤ 64)) = true
    rw [lay_rows, decide_eq_true (by omega)]
    rfl
theorem any_row (k : List Int) : ∀ rs : List (List Int), ((rs.map rowD).any fun z => PyData.eqv z (rowD k)) = decide (k ∈ rs)
  | [] => (decide_eq_false List.not_mem_nil).symm
  | r :: rs => by
    rw [List.map_cons, List.any_cons, any_row k rs, eqv_row, Bool.eq_iff_iff, Bool.or_eq_true, decide_eq_true_iff, decide_eq_true_iff, decide_eq_true_iff, List.mem_cons, eq_comm]
theorem eqv_grid : ∀ a b : List (List Int), PyData.eqvAll (a.map rowD) (b.map rowD) = decide (a = b)
  | [], [] => rfl
  | [], y :: b => rfl
  | x :: a, [] => rfl
  | x :: a, y :: b => by
    show (PyData.eqv (rowD x) (rowD y) && PyData.eqvAll (a.map rowD) (b.map rowD)) = _
    rw [eqv_grid a b, eqv_row, Bool.eq_iff_iff, Bool.and_eq_true, decide_eq_true_iff, decide_eq_true_iff, decide_eq_true_iff, List.cons.injEq]
theorem eqv_int (a b : Int) : PyData.eqv (.int a) (.int b) = decide (a = b) := rfl
theorem any_int (k : Int) : ∀ ns : List Int, ((ns.map PyData.int).any fun z => PyData.eqv z (.int k)) = decide (k ∈ ns)
  | [] => (decide_eq_false List.not_mem_nil).symm
  | r :: rs => by
    rw [List.map_cons, List.any_cons, any_int k rs, eqv_int, Bool.eq_iff_iff, Bool.or_eq_true, decide_eq_true_iff, decide_eq_true_iff, decide_eq_true_iff, List.mem_cons, eq_comm]
@[simp] theorem toPs_ints : ∀ ns : List Int, toPs (ns.map D.int) = some (ns.map PyData.int)
  | [] => rfl
  | n :: ns => by
    rw [List.map_cons]
    unfold toPs
    rw [toPs_ints ns]
    rfl
@[simp] theorem toP_row (r : List Int) : toP (rowD' r) = some (rowD r) := by
  unfold rowD' toP
  rw [toPs_ints]
  rfl
@[simp] theorem toPs_rows : ∀ rs : List (List Int), toPs (rs.map rowD') = some (rs.map rowD)
  | [] => rfl
  | n :: ns => by
    rw [List.map_cons]
    unfold toPs
    rw [toPs_rows ns, toP_row]
    rfl
theorem toP_web (rs : List (List Int)) : toP (webD rs) = some (gridD rs) := by
  unfold webD rowsL toP
  rw [toPs_rows]
  rfl
theorem toQ_row {st : Sto} (r : List Int) : toQ st (rowD' r) = some (rowD r) := toP_row r
theorem toQ_web {st : Sto} (rs : List (List Int)) : toQ st (webD rs) = some (gridD rs) := toP_web rs
theorem shaped_row (r : List Int) : SeqAt.shaped (rowD r) = true := (shaped_ints r).2
theorem eqD_web {a b : List (List Int)} {st : Sto} : eqD (webD a) (webD b) st = .ok (.bl (decide (a = b))) st := by
  unfold eqD
  rw [toQ_web, toQ_web]
  simp only [ofOpt_some]
  rw [guardR_pos ⟨(shaped_rows a).2, (shaped_rows b).2⟩]
  show R.ok (D.bl (PyData.eqvAll (a.map rowD) (b.map rowD))) st = _
  rw [eqv_grid]
theorem neD_web {a b : List (List Int)} {st : Sto} : neD (webD a) (webD b) st = .ok (.bl (!decide (a = b))) st := by
  unfold neD
  rw [toQ_web, toQ_web]
  simp only [ofOpt_some]
  rw [guardR_pos ⟨(shaped_rows a).2, (shaped_rows b).2⟩]
  show R.ok (D.bl (!PyData.eqvAll (a.map rowD) (b.map rowD))) st = _
  rw [eqv_grid]
theorem eqD_row {a b : List Int} {st : Sto} : eqD (rowD' a) (rowD' b) st = .ok (.bl (decide (a = b))) st := by
  unfold eqD
  rw [toQ_row, toQ_row]
  simp only [ofOpt_some]
  rw [guardR_pos ⟨shaped_row a, shaped_row b⟩, eqv_row]
theorem neD_row {a b : List Int} {st : Sto} : neD (rowD' a) (rowD' b) st = .ok (.bl (!decide (a = b))) st := by
  unfold neD
  rw [toQ_row, toQ_row]
  simp only [ofOpt_some]
  rw [guardR_pos ⟨shaped_row a, shaped_row b⟩, eqv_row]
theorem eqD_int {a b : Int} {st : Sto} : eqD (.int a) (.int b) st = .ok (.bl (decide (a = b))) st := by
  unfold eqD
  simp only [ofOpt_some, show ∀ i : Int, toQ st (.int i) = some (PyData.int i) from fun _ => rfl]
  rw [guardR_pos ⟨rfl, rfl⟩, eqv_int]
theorem neD_int {a b : Int} {st : Sto} : neD (.int a) (.int b) st = .ok (.bl (!decide (a = b))) st := by
  unfold neD
  simp only [ofOpt_some, show ∀ i : Int, toQ st (.int i) = some (PyData.int i) from fun _ => rfl]
  rw [guardR_pos ⟨rfl, rfl⟩, eqv_int]
theorem inD_row {neg : Bool} {w : Int} {r : List Int} {st : Sto} : inD neg (.int w) (rowD' r) st = .ok (.bl (decide (w ∈ r) ^^ neg)) st := by
  unfold inD rowD'
  simp only [isDct, show ∀ i : Int, toQ st (.int i) = some (PyData.int i) from fun _ => rfl, ofOpt_some, toPs_ints]
  rw [guardR_pos ⟨rfl, (shaped_ints r).2⟩, any_int]
theorem inD_lst {neg : Bool} {w : Int} {r : List Int} {st : Sto} : inD neg (.int w) (.lst (r.map D.int)) st = .ok (.bl (decide (w ∈ r) ^^ neg)) st := by
  unfold inD
  simp only [isDct, show ∀ i : Int, toQ st (.int i) = some (PyData.int i) from fun _ => rfl, ofOpt_some, toPs_ints, itemsL_lst]
  rw [guardR_pos ⟨rfl, (shaped_ints r).1⟩, any_int]
theorem inD_loc {neg : Bool} {w : Int} {r : List Int} {n : Nat} {st : Sto} (h : st[n]? = some (.lst (r.map D.int))) : inD neg (.int w) (.loc n) st = .ok (.bl (decide (w ∈ r) ^^ neg)) st := by
  unfold inD
  simp only [isDct, h, show ∀ i : Int, toQ st (.int i) = some (PyData.int i) from fun _ => rfl, ofOpt_some, toPs_ints, itemsL_loc h]
  rw [guardR_pos ⟨rfl, (shaped_ints r).1⟩, any_int]
theorem inD_rows {neg : Bool} {w : List Int} {rs : List (List Int)} {st : Sto} : inD neg (rowD' w) (.lst (rs.map rowD')) st = .ok (.bl (decide (w ∈ rs) ^^ neg)) st := by
  unfold inD
  simp only [isDct, toQ_row, ofOpt_some, toPs_rows, itemsL_lst]
  rw [guardR_pos ⟨shaped_row w, (shaped_rows rs).1⟩, any_row]
theorem inD_web {neg : Bool} {w : List Int} {rs : List (List Int)} {st : Sto} : inD neg (rowD' w) (webD rs) st = .ok (.bl (decide (w ∈ rs) ^^ neg)) st := by
  unfold inD webD rowsL
  simp only [isDct, toQ_row, ofOpt_some, toPs_rows]
  rw [guardR_pos ⟨shaped_row w, (shaped_rows rs).2⟩, any_row]
theorem inD_rowsLoc {neg : Bool} {w : List Int} {rs : List (List Int)} {n : Nat} {st : Sto} (h : st[n]? = some (.lst (rs.map rowD'))) : inD neg (rowD' w) (.loc n) st = .ok (.bl (decide (w ∈ rs) ^^ neg)) st := by
  unfold inD
  simp only [isDct, h, toQ_row, ofOpt_some, toPs_rows, itemsL_loc h]
  rw [guardR_pos ⟨shaped_row w, (shaped_rows rs).1⟩, any_row]
/-! ### all, any -/
theorem comp_map {mi : Env → Sto → R Wk} {vs : List Nat} {p : Pat} {m : Env → Sto → R D} {ρ : Env} {st st1 : Sto} {it : Wk} (f : D → D) (e : mi ρ st = .ok it st1) (hs : it.stay st1) (hl : it.items.length ≤ lim)
    (h : ∀ d ∈ it.items, ∃ ρ1, p.set d (wipeD ρ vs) = some ρ1 ∧ m ρ1 st1 = .ok (f d) st1) : mComp mi vs p mYes m ρ st = .ok (.lst (it.items.map f)) st1 := by
  have := mComp_pure (t := mYes) (fun _ => true) f e hs hl fun d hd => by
    obtain ⟨ρ1, h1, h2⟩ := h d hd
    exact ⟨ρ1, h1, rfl, fun _ => h2⟩
  rw [this, List.filter_eq_self.mpr fun _ _ => rfl]
theorem all_comp {mi : Env → Sto → R Wk} {vs : List Nat} {p : Pat} {m : Env → Sto → R D} {ρ : Env} {st st1 : Sto} {it : Wk} (f : D → Bool) (e : mi ρ st = .ok it st1) (hs : it.stay st1) (hl : it.items.length ≤ lim)
    (h : ∀ d ∈ it.items, ∃ ρ1, p.set d (wipeD ρ vs) = some ρ1 ∧ m ρ1 st1 = .ok (.bl (f d)) st1) : mCall allD (mCons (mComp mi vs p mYes m) mNil) ρ st = .ok (.bl (it.items.all f)) st1 := by
  simp only [mCall, mCons, mNil]
  rw [comp_map (fun d => .bl (f d)) e hs hl h]
  simp only [R.ok_bind, allD_lst]
  rw [show it.items.map (fun d => D.bl (f d)) = (it.items.map f).map D.bl by rw [List.map_map]; rfl, bls_map]
  simp only [ofOpt_some, List.all_map]
  rfl
theorem itm_row {m : Env → Sto → R D} {ρ : Env} {st st1 : Sto} {r : List Int} (e : m ρ st = .ok (rowD' r) st1) : mIt m ρ st = .ok ⟨r.map D.int, none⟩ st1 := by
  unfold mIt
  rw [e]
  rfl
/-! ### webs -/
structure IsWeb (rows : List (List Int)) : Prop where
  pos : 1 ≤ rows.length
  few : rows.length ≤ 9
  up : ∀ u : Nat, u < rows.length → (rowAt rows (u : Nat)).Pairwise (· < ·)
  rng : ∀ u : Nat, u < rows.length → ∀ w ∈ rowAt rows (u : Nat), 0 ≤ w ∧ w < (rows.length : Int) ∧ w ≠ (u : Int)
theorem rowAt_nat {rows : List (List Int)} {u : Nat} (h : u < rows.length) : rowAt rows (u : Nat) = rows[u] := by
  unfold rowAt
  rw [Int.toNat_natCast, List.getD_eq_getElem?_getD, List.getElem?_eq_getElem h]
  rfl
theorem IsWeb.inr {rows : List (List Int)} (h : IsWeb rows) : InRange rows := fun r hr w hw => by
  obtain ⟨i, hi, rfl⟩ := List.getElem_of_mem hr
  have := h.rng i hi w (by rw [rowAt_nat hi]; exact hw)
  exact ⟨this.1, this.2.1⟩
theorem IsWeb.row {rows : List (List Int)} (h : IsWeb rows) {u : Nat} (hu : u < rows.length) : (rowAt rows (u : Nat)).length ≤ 9 := by
  have := few_below (n := rows.length) (asc_nodup (h.up u hu)) fun w hw => ⟨(h.rng u hu w hw).1, (h.rng u hu w hw).2.1⟩
  have := h.few
  omega
end Pl

set_option maxHeartbeats 4000000
/-! searches; comprehensions with two fors; slices; rows with one more -/
namespace Pl
open PySem PySem.Spec PyProof.Rows L2 Hn
theorem cut_take (xs : List D) (u : Nat) (h : u ≤ xs.length) : cutD xs none (some (u : Int)) = xs.take u := by
  unfold cutD
  rw [HT.sIx_none, HT.sIx_nat, List.drop_zero, Nat.min_eq_left h, Nat.sub_zero]
theorem cut_drop (xs : List D) (u : Nat) (h : u ≤ xs.length) : cutD xs (some (u : Int)) none = xs.drop u := by
  unfold cutD
  rw [HT.sIx_none, HT.sIx_nat, Nat.min_eq_left h]
  exact List.take_of_length_le (by rw [List.length_drop]; exact Nat.le_refl _)
/-- a row with w -/
def plus (r : List Int) (w : Int) : List Int := if w ∈ r then r else sortZ (r ++ [w])
theorem mem_plus {r : List Int} {w x : Int} : x ∈ plus r w ↔ x ∈ r ∨ x = w := by
  unfold plus
  split
  · rename_i h
    exact ⟨.inl, fun z => z.elim id fun e => by rw [e]; exact h⟩
  · rw [(sortZ_perm _).mem_iff, List.mem_append, List.mem_singleton]
theorem plus_up {r : List Int} {w : Int} (h : r.Pairwise (· < ·)) : (plus r w).Pairwise (· < ·) := by
  unfold plus
  split
  · exact h
  · rename_i hw
    have nd : (sortZ (r ++ [w])).Nodup := (sortZ_perm _).nodup_iff.mpr (by
      rw [List.nodup_append]
      exact ⟨asc_nodup h, by simp, fun a ha b hb e => hw (by rw [← List.mem_singleton.mp hb, ← e]; exact ha)⟩)
    exact ((sortZ_le _).and nd).imp fun {a b} h => Int.lt_iff_le_and_ne.mpr h
def withC (rows : List (List Int)) (v w : Int) : List (List Int) := rows.set v.toNat (plus (rowAt rows v) w)
@[simp] theorem withC_len {rows : List (List Int)} {v w : Int} : (withC rows v w).length = rows.length := List.length_set ..
theorem withC_at {rows : List (List Int)} {v w x : Int} (hv : 0 ≤ v ∧ v < (rows.length : Int)) (hx : 0 ≤ x) : rowAt (withC rows v w) x = if x = v then plus (rowAt rows v) w else rowAt rows x := by
  unfold withC
  by_cases e : x = v
  · subst e
    rw [if_pos rfl]
    show (rows.set x.toNat (plus (rowAt rows x) w)).getD x.toNat [] = _
    rw [List.getD_eq_getElem?_getD, List.getElem?_set_self (by omega)]
    rfl
  · rw [if_neg e]
    show (rows.set v.toNat _).getD x.toNat [] = rows.getD x.toNat []
    rw [List.getD_eq_getElem?_getD, List.getD_eq_getElem?_getD, List.getElem?_set_ne (by omega)]
theorem withC_mem {rows : List (List Int)} {v w x y : Int} (hv : 0 ≤ v ∧ v < (rows.length : Int)) (hx : 0 ≤ x) : y ∈ rowAt (withC rows v w) x ↔ y ∈ rowAt rows x ∨ (x = v ∧ y = w) := by
  rw [withC_at hv hx]
  by_cases e : x = v
  · subst e
    rw [if_pos rfl, mem_plus]
    exact ⟨fun h => h.imp id fun z => ⟨rfl, z⟩, fun h => h.imp id fun z => z.2⟩
  · rw [if_neg e]
    exact ⟨.inl, fun h => h.elim id fun z => absurd z.1 e⟩
theorem IsWeb.withC {rows : List (List Int)} {v w : Int} (h : IsWeb rows) (hv : 0 ≤ v ∧ v < (rows.length : Int)) (hw : 0 ≤ w ∧ w < (rows.length : Int)) (ne : w ≠ v) : IsWeb (withC rows v w) := by
  refine ⟨by rw [withC_len]; exact h.pos, by rw [withC_len]; exact h.few, fun u hu => ?_, fun u hu x hx => ?_⟩
  · rw [withC_len] at hu
    rw [withC_at hv (by omega)]
    split
    · rename_i e
      have : v = ((v.toNat : Nat) : Int) := by omega
      rw [this]
      exact plus_up (h.up _ (by omega))
    · exact h.up u hu
  · rw [withC_len] at hu ⊢
    rcases (withC_mem hv (by omega)).mp hx with z | ⟨z1, z2⟩
    · exact h.rng u hu x z
    · subst z2
      exact ⟨hw.1, hw.2, by rw [z1]; exact ne⟩
/-- one web's cards are the other's, too -/
def Sub (a b : List (List Int)) : Prop := a.length = b.length ∧ ∀ u : Nat, u < a.length → ∀ w ∈ rowAt a (u : Nat), w ∈ rowAt b (u : Nat)
theorem Sub.refl {a : List (List Int)} : Sub a a := ⟨rfl, fun _ _ _ h => h⟩
theorem Sub.trans {a b c : List (List Int)} (x : Sub a b) (y : Sub b c) : Sub a c := ⟨x.1.trans y.1, fun u hu w hw => y.2 u (by rw [← x.1]; exact hu) w (x.2 u hu w hw)⟩
theorem web_ext {a b : List (List Int)} (ha : IsWeb a) (hb : IsWeb b) (x : Sub a b) (y : Sub b a) : a = b := by
  refine List.ext_getElem x.1 fun i h1 h2 => ?_
  rw [← rowAt_nat h1, ← rowAt_nat h2]
  exact asc_ext (ha.up i h1) (hb.up i h2) fun w => ⟨x.2 i h1 w, y.2 i h2 w⟩
theorem sub_with {a : List (List Int)} {v w : Int} (hv : 0 ≤ v ∧ v < (a.length : Int)) : Sub a (withC a v w) := ⟨withC_len.symm, fun u hu x hx => (withC_mem hv (by omega)).mpr (.inl hx)⟩
def cells (n : Nat) : List (Nat × Nat) := (List.range n).flatMap fun v => (List.range n).map fun w => (v, w)
theorem mem_cells {n v w : Nat} : (v, w) ∈ cells n ↔ v < n ∧ w < n := by
  unfold cells
  simp only [List.mem_flatMap, List.mem_map, List.mem_range, Prod.mk.injEq]
  constructor
  · rintro ⟨a, h1, b, h2, rfl, rfl⟩
    exact ⟨h1, h2⟩
  · rintro ⟨h1, h2⟩
    exact ⟨v, h1, w, h2, rfl, rfl⟩
def cnt (W : List (List Int)) : Nat := (cells W.length).countP fun p => decide ((p.2 : Int) ∈ rowAt W (p.1 : Nat))
theorem len_cells (n : Nat) : (cells n).length = n * n := by
  unfold cells
  rw [List.length_flatMap]
  simp [List.map_const', List.sum_replicate_nat]
end Pl

set_option maxHeartbeats 4000000
/-! a web widened within what is let -/
namespace Pl
open PySem PySem.Spec PyProof.Rows L2 Hn
inductive Clo (rows fs : List (List Int)) : Int → Int → Prop
  | base {v w : Int} : 0 ≤ v → w ∈ rowAt rows v → Clo rows fs v w
  | step {u v w : Int} : Clo rows fs u v → Clo rows fs u w → w ≠ v → w ∈ rowAt fs v → Clo rows fs v w
  | own {u v : Int} : Clo rows fs u v → u ≠ v → u ∈ rowAt fs v → Clo rows fs v u
open Classical in
noncomputable def widOf (rows fs : List (List Int)) : List (List Int) := (List.range rows.length).map fun (v : Nat) => ((List.range rows.length).filter fun (w : Nat) => decide (Clo rows fs (v : Nat) (w : Nat))).map fun (w : Nat) => (w : Int)
section
variable {rows fs W : List (List Int)}
theorem rowAt_out {rows : List (List Int)} {v : Int} (h : (rows.length : Int) ≤ v) : rowAt rows v = [] := by
  unfold rowAt
  rw [List.getD_eq_getElem?_getD, List.getElem?_eq_none_iff.mpr (by omega)]
  rfl
theorem Clo.rng (h : IsWeb rows) (hf : InRange fs) (hl : fs.length = rows.length) {v w : Int} (c : Clo rows fs v w) : (0 ≤ v ∧ v < (rows.length : Int)) ∧ (0 ≤ w ∧ w < (rows.length : Int)) ∧ w ≠ v := by
  induction c with
  | base h0 hw =>
    rename_i v w
    by_cases hv : v < (rows.length : Int)
    · have e : ((v.toNat : Nat) : Int) = v := by omega
      have := h.rng v.toNat (by omega) w (by rw [e]; exact hw)
      rw [e] at this
      exact ⟨⟨h0, hv⟩, ⟨this.1, this.2.1⟩, this.2.2⟩
    · rw [rowAt_out (by omega)] at hw
      cases hw
  | step c1 c2 ne hm ih1 ih2 =>
    have := row_range hf hm
    rw [hl] at this
    exact ⟨ih1.2.1, this, ne⟩
  | own c1 ne hm ih1 =>
    have := row_range hf hm
    rw [hl] at this
    exact ⟨ih1.2.1, this, ne⟩
@[simp] theorem widOf_len : (widOf rows fs).length = rows.length := by unfold widOf; rw [List.length_map, List.length_range]
theorem widOf_mem (h : IsWeb rows) (hf : InRange fs) (hl : fs.length = rows.length) {v : Nat} (hv : v < rows.length) (w : Int) : w ∈ rowAt (widOf rows fs) (v : Nat) ↔ Clo rows fs (v : Nat) w := by
  unfold rowAt widOf
  rw [Int.toNat_natCast, List.getD_eq_getElem?_getD, List.getElem?_map, List.getElem?_range hv]
  simp only [Option.map_some, Option.getD_some, List.mem_map, List.mem_filter, List.mem_range, decide_eq_true_eq]
  constructor
  · rintro ⟨a, ⟨_, c⟩, rfl⟩
    exact c
  · intro c
    have := (c.rng h hf hl).2.1
    refine ⟨w.toNat, ⟨by omega, ?_⟩, by omega⟩
    rw [show ((w.toNat : Nat) : Int) = w by omega]
    exact c
theorem widOf_web (h : IsWeb rows) (hf : InRange fs) (hl : fs.length = rows.length) : IsWeb (widOf rows fs) := by
  refine ⟨by rw [widOf_len]; exact h.pos, by rw [widOf_len]; exact h.few, fun u hu => ?_, fun u hu w hw => ?_⟩
  · rw [widOf_len] at hu
    unfold rowAt widOf
    rw [Int.toNat_natCast, List.getD_eq_getElem?_getD, List.getElem?_map, List.getElem?_range hu]
    simp only [Option.map_some, Option.getD_some]
    rw [List.pairwise_map]
    exact (List.Pairwise.filter _ List.pairwise_lt_range).imp fun h => by exact_mod_cast h
  · rw [widOf_len] at hu ⊢
    have := ((widOf_mem h hf hl hu w).mp hw).rng h hf hl
    exact ⟨this.2.1.1, this.2.1.2, this.2.2⟩
/-- nobody has anything more to show -/
def ClosedW (W fs : List (List Int)) : Prop := ∀ u v : Nat, u < W.length → v < W.length → ∀ w : Int, (v : Int) ∈ rowAt W (u : Nat) → (w ∈ rowAt W (u : Nat) ∨ w = (u : Int)) → w ≠ (v : Int) → w ∈ rowAt fs (v : Nat) → w ∈ rowAt W (v : Nat)
theorem Clo.least (h : IsWeb rows) (hf : InRange fs) (hl : fs.length = rows.length) (s : Sub rows W) (c : ClosedW W fs) {v w : Int} (k : Clo rows fs v w) : w ∈ rowAt W v := by
  induction k with
  | base h0 hw =>
    rename_i v w
    by_cases hv : v < (rows.length : Int)
    · have e : ((v.toNat : Nat) : Int) = v := by omega
      have := s.2 v.toNat (by omega) w (by rw [e]; exact hw)
      rw [e] at this
      exact this
    · rw [rowAt_out (by omega)] at hw
      cases hw
  | step c1 c2 ne hm ih1 ih2 =>
    rename_i u v w
    have r1 := c1.rng h hf hl
    have e1 : ((u.toNat : Nat) : Int) = u := by omega
    have e2 : ((v.toNat : Nat) : Int) = v := by omega
    have hn := s.1
    have := c u.toNat v.toNat (by omega) (by omega) w (by rw [e1, e2]; exact ih1) (by rw [e1]; exact .inl ih2) (by rw [e2]; exact ne) (by rw [e2]; exact hm)
    rw [e2] at this
    exact this
  | own c1 ne hm ih1 =>
    rename_i u v
    have r1 := c1.rng h hf hl
    have e1 : ((u.toNat : Nat) : Int) = u := by omega
    have e2 : ((v.toNat : Nat) : Int) = v := by omega
    have hn := s.1
    have := c u.toNat v.toNat (by omega) (by omega) u (by rw [e1, e2]; exact ih1) (.inr e1.symm) (by rw [e2]; exact ne) (by rw [e2]; exact hm)
    rw [e2] at this
    exact this
theorem wid_eq (h : IsWeb rows) (hf : InRange fs) (hl : fs.length = rows.length) (hW : IsWeb W) (s : Sub rows W) (c : ClosedW W fs) (k : ∀ u : Nat, u < rows.length → ∀ w ∈ rowAt W (u : Nat), Clo rows fs (u : Nat) w) : W = widOf rows fs := by
  refine web_ext hW (widOf_web h hf hl) ⟨by rw [widOf_len]; exact s.1.symm, fun u hu w hw => ?_⟩ ⟨by rw [widOf_len]; exact s.1, fun u hu w hw => ?_⟩
  · rw [← s.1] at hu
    exact (widOf_mem h hf hl hu w).mpr (k u hu w hw)
  · rw [widOf_len] at hu
    exact ((widOf_mem h hf hl hu w).mp hw).least h hf hl s c
end
end Pl
namespace Pl
open PySem PySem.Spec PyProof.Rows L2 Hn
/-- a comprehension that changes the store -/
theorem comp_inv {it : Wk} {p : Pat} {t : Env → Sto → R Bool} {m : Env → Sto → R D} {ρ : Env} (Inv : Nat → Sto → List D → Prop)
    (step : ∀ (i : Nat) (d : D) (st : Sto) (acc : List D), it.items[i]? = some d → Inv i st acc → it.stay st ∧ acc.length ≤ lim ∧ ∃ ρ1, p.set d ρ = some ρ1 ∧ ∃ c st1, t ρ1 st = .ok c st1 ∧ (c = true → ∃ x st2, m ρ1 st1 = .ok x st2 ∧ Inv (i + 1) st2 (acc ++ [x])) ∧ (c = false → Inv (i + 1) st1 acc))
    (fin : ∀ st acc, Inv it.items.length st acc → it.stay st) : ∀ (n i : Nat) (st : Sto) (acc : List D), n = it.items.length - i → i ≤ it.items.length → Inv i st acc → ∃ st' acc', compGo it p t m ρ (it.items.drop i) st acc = .ok acc' st' ∧ Inv it.items.length st' acc'
  | 0, i, st, acc, hn, hi, h => by
    have e : i = it.items.length := by omega
    subst e
    rw [List.drop_length]
    unfold compGo
    rw [if_pos (fin st acc h)]
    exact ⟨st, acc, rfl, h⟩
  | n + 1, i, st, acc, hn, hi, h => by
    have hl : i < it.items.length := by omega
    rw [List.drop_eq_getElem_cons hl]
    unfold compGo
    obtain ⟨h1, h2, ρ1, e1, c, st1, e2, h3, h4⟩ := step i it.items[i] st acc (List.getElem?_eq_getElem hl) h
    rw [if_pos h1, e1]
    simp only [ofOpt_some, e2, R.ner_ok]
    cases c with
    | true =>
      obtain ⟨x, st2, e3, h5⟩ := h3 rfl
      simp only [if_true, e3, R.ner_ok]
      rw [guardR_pos h2]
      exact comp_inv Inv step fin n (i + 1) st2 _ (by omega) hl h5
    | false =>
      simp only [Bool.false_eq_true, if_false]
      exact comp_inv Inv step fin n (i + 1) st1 acc (by omega) hl (h4 rfl)
end Pl

set_option maxHeartbeats 4000000
/-! step rules for mirrors: walk_at "go" goes on as far as no word of mine is wanted -/
namespace Pl
open PySem PySem.Spec PyProof.Rows L2 Hn
/-- o is there, and P holds of it -/
def Som {α : Type} (o : Option α) (P : α → Prop) : Prop := ∃ a, o = some a ∧ P a
theorem som_i {α : Type} {a : α} {P : α → Prop} (h : P a) : Som (some a) P := ⟨a, rfl, h⟩
theorem som_e {α : Type} {o : Option α} {a : α} {P : α → Prop} (e : o = some a) (h : P a) : Som o P := ⟨a, e, h⟩
/-- a bound, and what holds then -/
def Gd (c P : Prop) : Prop := c ∧ P
theorem gd_i {c P : Prop} (h : c) (k : P) : Gd c P := ⟨h, k⟩
def atV (o : Option (Option D)) (P : D → Prop) : Prop := match o with
  | some (some d) => P d
  | _ => False
theorem atV_i {d : D} {P : D → Prop} (h : P d) : atV (some (some d)) P := h
def atE (ρ : Env) (P : Env → Prop) : Prop := P ρ
theorem atE_i {ρ : Env} {P : Env → Prop} (h : P ρ) : atE ρ P := h
section
variable {α β : Type} {nx : Env → Sto → Prop} {rt : D → Sto → Prop} {bk ct : Env → Sto → Prop} {er : Er → Sto → Prop} {P : D → Sto → Prop} {Pb : Bool → Sto → Prop} {Pl : List D → Sto → Prop} {Po : Option Int → Sto → Prop} {Pw : Wk → Sto → Prop} {B : Er → Sto → Prop}
variable {ρ : Env} {st s : Sto} {a b : Env → Sto → O} {m ma mb mc : Env → Sto → R D} {ms : Env → Sto → R (List D)} {t ta tb : Env → Sto → R Bool} {mi mi1 : Env → Sto → R Wk} {i j : Nat} {p p1 : Pat} {d : D}
/-! statements -/
theorem w_seq (h : (a ρ st).wp ⟨fun ρ s => (b ρ s).wp ⟨nx, rt, bk, ct, er⟩, rt, bk, ct, er⟩) : (mSeq a b ρ st).wp ⟨nx, rt, bk, ct, er⟩ := wp_seq h
theorem w_next (h : nx ρ st) : (mNext ρ st).wp ⟨nx, rt, bk, ct, er⟩ := h
theorem w_set (h : (m ρ st).post (fun d s => atE (ρ.set i (some d)) fun ρ => nx ρ s) er) : (mSet i m ρ st).wp ⟨nx, rt, bk, ct, er⟩ := wp_of h
theorem w_expr (h : (m ρ st).post (fun _ s => nx ρ s) er) : (mExpr m ρ st).wp ⟨nx, rt, bk, ct, er⟩ := wp_of h
theorem w_ret (h : (m ρ st).post rt er) : (mRet m ρ st).wp ⟨nx, rt, bk, ct, er⟩ := wp_of h
theorem w_retN (h : rt .non st) : (mRetN ρ st).wp ⟨nx, rt, bk, ct, er⟩ := h
theorem w_brk (h : bk ρ st) : (mBreak ρ st).wp ⟨nx, rt, bk, ct, er⟩ := h
theorem w_cont (h : ct ρ st) : (mCont ρ st).wp ⟨nx, rt, bk, ct, er⟩ := h
theorem w_if (h : (t ρ st).post (fun c s => if c = true then (a ρ s).wp ⟨nx, rt, bk, ct, er⟩ else (b ρ s).wp ⟨nx, rt, bk, ct, er⟩) er) : (mIfS t a b ρ st).wp ⟨nx, rt, bk, ct, er⟩ := by
  refine wp_of (R.post_mono h (fun c s h => ?_) fun _ _ h => h)
  cases c with
  | true => exact h
  | false => exact h
theorem w_raise0 {x : Str} (h : er ⟨x, []⟩ st) : (mRaise0 x ρ st).wp ⟨nx, rt, bk, ct, er⟩ := h
theorem w_raise1 {x f : Str} (h : (m ρ st).post (fun d s => er ⟨x, [(f, d)]⟩ s) er) : (mRaise1 x f m ρ st).wp ⟨nx, rt, bk, ct, er⟩ := wp_of h
theorem w_asg (h : (m ρ st).post (fun d s => Som (p.set d ρ) fun ρ' => nx ρ' s) er) : (mAsg p m ρ st).wp ⟨nx, rt, bk, ct, er⟩ := wp_of (R.post_mono h (fun d s ⟨ρ', e, h⟩ => by rw [e]; exact h) fun _ _ h => h)
theorem w_aug {mo : D → D → Sto → R D} (h : atV ρ[i]? fun x => (m ρ st).post (fun y s => (mo x y s).post (fun z s2 => atE (ρ.set i (some z)) fun ρ => nx ρ s2) er) er) : (mAug i mo m ρ st).wp ⟨nx, rt, bk, ct, er⟩ := by
  cases e : ρ[i]? with
  | none => rw [e] at h; exact (show False from h).elim
  | some o =>
    rw [e] at h
    cases o with
    | none => exact (show False from h).elim
    | some d =>
      have e2 : mAug i mo m ρ st = O.of (m ρ st) ρ fun y st1 => O.of (mo d y st1) ρ fun z st2 => .nx (ρ.set i (some z)) st2 := by
        unfold mAug
        rw [e]
      rw [e2]
      have h2 : ∀ y s, (mo d y s).post (fun z s2 => atE (ρ.set i (some z)) fun ρ => nx ρ s2) er → (O.of (mo d y s) ρ fun z s2 => .nx (ρ.set i (some z)) s2).wp ⟨nx, rt, bk, ct, er⟩ := fun y s h => wp_of h
      exact wp_of (R.post_mono (show (m ρ st).post _ _ from h) (fun y s h => h2 y s h) fun _ _ h => h)
theorem w_put {mo mi mv : Env → Sto → R D} (h : (mv ρ st).post (fun v s1 => (mo ρ s1).post (fun x s2 => (mi ρ s2).post (fun i s3 => Som (putD x i v s3) fun s4 => nx ρ s4) er) er) er) : (mPut mo mi mv ρ st).wp ⟨nx, rt, bk, ct, er⟩ :=
  wp_of (R.post_mono h (fun v s h => wp_of (R.post_mono h (fun x s h => wp_of (R.post_mono h (fun i s ⟨s4, e, h⟩ => by rw [e]; exact h) fun _ _ h => h)) fun _ _ h => h)) fun _ _ h => h)
theorem w_par (h : (ms ρ st).post (fun ds s => Som (match ds with | [x, y] => some (x, y) | _ => none) fun q => atE ((ρ.set i (some q.1)).set j (some q.2)) fun ρ => nx ρ s) er) : (mPar i j ms ρ st).wp ⟨nx, rt, bk, ct, er⟩ := by
  refine wp_of (R.post_mono h (fun ds s ⟨q, e, h⟩ => ?_) fun _ _ h => h)
  split at e
  · cases e
    exact h
  · cases e
theorem w_par3 {l : Nat} (h : (ms ρ st).post (fun ds s => Som (match ds with | [x, y, z] => some (x, y, z) | _ => none) fun q => atE (((ρ.set i (some q.1)).set j (some q.2.1)).set l (some q.2.2)) fun ρ => nx ρ s) er) : (mPar3 i j l ms ρ st).wp ⟨nx, rt, bk, ct, er⟩ := by
  refine wp_of (R.post_mono h (fun ds s ⟨q, e, h⟩ => ?_) fun _ _ h => h)
  split at e
  · cases e
    exact h
  · cases e
theorem w_for (h : (mi ρ st).post (fun it s => (forGo it p b it.items ρ s).wp ⟨nx, rt, bk, ct, er⟩) er) : (mFor mi p b ρ st).wp ⟨nx, rt, bk, ct, er⟩ := wp_of h
/-! expressions -/
theorem p_ok (h : P d st) : (R.ok d st).post P B := h
theorem pe {Q : α → Sto → Prop} {x : α} {r : R α} {s : Sto} (e : r = .ok x s) (h : Q x s) : r.post Q B := by rw [e]; exact h
theorem p_er {e : Er} {Q : α → Sto → Prop} {r : R α} {s : Sto} (h : r = .er e s) (k : B e s) : r.post Q B := by rw [h]; exact k
theorem p_v (h : atV ρ[i]? fun d => P d st) : (mV i ρ st).post P B := by
  cases e : ρ[i]? with
  | none => rw [e] at h; exact (show False from h).elim
  | some o =>
    rw [e] at h
    cases o with
    | none => exact (show False from h).elim
    | some d =>
      have e2 : mV i ρ st = .ok d st := by
        unfold mV
        rw [e]
      rw [e2]
      exact h
theorem p_c (h : P d st) : (mC d ρ st).post P B := h
theorem p_bin {mo : D → D → Sto → R D} (h : (ma ρ st).post (fun x s1 => (mb ρ s1).post (fun y s2 => (mo x y s2).post P B) B) B) : (mBin mo ma mb ρ st).post P B := post_bindI (R.post_mono h (fun _ _ h => post_bindI h) fun _ _ h => h)
theorem p_un {mo : D → Sto → R D} (h : (ma ρ st).post (fun x s1 => (mo x s1).post P B) B) : (mUn mo ma ρ st).post P B := post_bindI h
theorem p_tst (h : (m ρ st).post (fun d s => (blOf d s).post Pb B) B) : (mTst m ρ st).post Pb B := post_bindI h
theorem p_blOf {c : Bool} (h : Pb c st) : (blOf (.bl c) st).post Pb B := h
theorem p_val (h : (t ρ st).post (fun c s => P (.bl c) s) B) : (mVal t ρ st).post P B := post_bindI h
theorem p_yes (h : Pb true st) : (mYes ρ st).post Pb B := h
theorem p_and (h : (ta ρ st).post (fun c s => if c = true then (tb ρ s).post Pb B else Pb false s) B) : (mAnd ta tb ρ st).post Pb B := post_bindI (R.post_mono h (fun c s h => by cases c <;> exact h) fun _ _ h => h)
theorem p_or (h : (ta ρ st).post (fun c s => if c = true then Pb true s else (tb ρ s).post Pb B) B) : (mOr ta tb ρ st).post Pb B := post_bindI (R.post_mono h (fun c s h => by cases c <;> exact h) fun _ _ h => h)
theorem p_not (h : (ta ρ st).post (fun c s => Pb (!c) s) B) : (mNot ta ρ st).post Pb B := post_bindI h
theorem p_andV (h : (ma ρ st).post (fun d s => (blOf d s).post (fun c s => if c = true then (mb ρ s).post P B else P (.bl false) s) B) B) : (mAndV ma mb ρ st).post P B := post_bindI (R.post_mono h (fun d s h => post_bindI (R.post_mono h (fun c s h => by cases c <;> exact h) fun _ _ h => h)) fun _ _ h => h)
theorem p_orV (h : (ma ρ st).post (fun d s => (blOf d s).post (fun c s => if c = true then P (.bl true) s else (mb ρ s).post P B) B) B) : (mOrV ma mb ρ st).post P B := post_bindI (R.post_mono h (fun d s h => post_bindI (R.post_mono h (fun c s h => by cases c <;> exact h) fun _ _ h => h)) fun _ _ h => h)
theorem p_notV (h : (ma ρ st).post (fun d s => (blOf d s).post (fun c s => P (.bl (!c)) s) B) B) : (mNotV ma ρ st).post P B := post_bindI (R.post_mono h (fun d s h => post_bindI h) fun _ _ h => h)
theorem p_if (h : (t ρ st).post (fun c s => if c = true then (ma ρ s).post P B else (mb ρ s).post P B) B) : (mIf t ma mb ρ st).post P B := post_bindI (R.post_mono h (fun c s h => by cases c <;> exact h) fun _ _ h => h)
theorem p_chain {mo mo' : D → D → Sto → R D} (h : (ma ρ st).post (fun x s1 => (mb ρ s1).post (fun y s2 => (mo x y s2).post (fun z s3 => (blOf z s3).post (fun c s4 => if c = true then (mc ρ s4).post (fun w s5 => (mo' y w s5).post P B) B else P (.bl false) s4) B) B) B) B) : (mChain mo mo' ma mb mc ρ st).post P B := by
  refine post_bindI (R.post_mono h (fun x s h => post_bindI (R.post_mono h (fun y s h => post_bindI (R.post_mono h (fun z s h => post_bindI (R.post_mono h (fun c s h => ?_) fun _ _ h => h)) fun _ _ h => h)) fun _ _ h => h)) fun _ _ h => h)
  cases c with
  | true => exact post_bindI h
  | false => exact h
theorem p_nil (h : Pl [] st) : (mNil ρ st).post Pl B := h
theorem p_cons (h : (ma ρ st).post (fun x s => (ms ρ s).post (fun xs s2 => Pl (x :: xs) s2) B) B) : (mCons ma ms ρ st).post Pl B := post_bindI (R.post_mono h (fun _ _ h => post_bindI h) fun _ _ h => h)
theorem p_star (h : (ma ρ st).post (fun x s => Som (itemsS s x) fun ys => (ms ρ s).post (fun xs s2 => Pl (ys ++ xs) s2) B) B) : (mStar ma ms ρ st).post Pl B := post_bindI (R.post_mono h (fun x s ⟨ys, e, h⟩ => by rw [e]; exact post_bindI h) fun _ _ h => h)
theorem post_gd {c : Prop} [Decidable c] {r : R α} {Q : α → Sto → Prop} (h : Gd c (r.post Q B)) : (guardR c r).post Q B := by
  rw [guardR_pos h.1]
  exact h.2
theorem p_tup (h : (ms ρ st).post (fun xs s => Gd (xs.length ≤ lim) (P (.tup xs) s)) B) : (mTup ms ρ st).post P B := post_bindI (R.post_mono h (fun _ _ h => post_gd h) fun _ _ h => h)
theorem p_lst (h : (ms ρ st).post (fun xs s => Gd (xs.length ≤ lim) (P (.lst xs) s)) B) : (mLst ms ρ st).post P B := post_bindI (R.post_mono h (fun _ _ h => post_gd h) fun _ _ h => h)
theorem p_lstM (h : (ms ρ st).post (fun xs s => Gd (xs.length ≤ lim) (P (.loc s.length) (s ++ [.lst xs]))) B) : (mLstM ms ρ st).post P B := post_bindI (R.post_mono h (fun _ _ h => post_gd h) fun _ _ h => h)
theorem p_call {f : List D → Sto → R D} (h : (ms ρ st).post (fun ds s => (f ds s).post P B) B) : (mCall f ms ρ st).post P B := post_bindI h
theorem p_meth {f : D → List D → Sto → R D} (h : (m ρ st).post (fun x s => Som (itemsL s x) fun _ => (ms ρ s).post (fun xs s2 => (f x xs s2).post P B) B) B) : (mMeth f m ms ρ st).post P B := post_bindI (R.post_mono h (fun x s ⟨ys, e, h⟩ => by rw [e]; exact post_bindI h) fun _ _ h => h)
theorem p_meth0 {f : D → List D → Sto → R D} (h : (m ρ st).post (fun x s => Som (itemsL s x) fun _ => (f x [] s).post P B) B) : (mMeth0 f m ρ st).post P B := post_bindI (R.post_mono h (fun x s ⟨ys, e, h⟩ => by rw [e]; exact h) fun _ _ h => h)
theorem p_tru (h : (m ρ st).post (fun d s => Som (truD s d) fun c => Pb c s) B) : (mTru m ρ st).post Pb B := post_bindI (R.post_mono h (fun x s ⟨ys, e, h⟩ => by rw [e]; exact h) fun _ _ h => h)
theorem p_noPart (h : Po none st) : (mNoPart ρ st).post Po B := h
theorem p_part (h : (m ρ st).post (fun d s => (intOf d s).post Po B) B) : (mPart m ρ st).post Po B := post_bindI h
theorem p_intOf {k : Int} (h : Po (some k) st) : (intOf (.int k) st).post Po B := h
theorem p_sl {ml mh : MO} (h : (ma ρ st).post (fun x s1 => (ml ρ s1).post (fun l s2 => (mh ρ s2).post (fun k s3 => (slD x l k s3).post P B) B) B) B) : (mSl ma ml mh ρ st).post P B := post_bindI (R.post_mono h (fun _ _ h => post_bindI (R.post_mono h (fun _ _ h => post_bindI h) fun _ _ h => h)) fun _ _ h => h)
theorem p_it (h : (m ρ st).post (fun d s => Som (itrOf s d) fun it => Pw it s) B) : (mIt m ρ st).post Pw B := post_bindI (R.post_mono h (fun x s ⟨ys, e, h⟩ => by rw [e]; exact h) fun _ _ h => h)
theorem p_itA {f : List D → Sto → R Wk} (h : (ms ρ st).post (fun ds s => (f ds s).post Pw B) B) : (mItA f ms ρ st).post Pw B := post_bindI h
theorem p_comp {vs : List Nat} (h : (mi ρ st).post (fun it s => atE (wipeD ρ vs) fun ρ => (compGo it p t m ρ it.items s []).post (fun acc s2 => P (.lst acc) s2) B) B) : (mComp mi vs p t m ρ st).post P B := post_bindI (R.post_mono h (fun it s h => post_bindI h) fun _ _ h => h)
theorem p_compM {vs : List Nat} (h : (mi ρ st).post (fun it s => atE (wipeD ρ vs) fun ρ => (compGo it p t m ρ it.items s []).post (fun acc s2 => P (.loc s2.length) (s2 ++ [.lst acc])) B) B) : (mCompM mi vs p t m ρ st).post P B := post_bindI (R.post_mono h (fun it s h => post_bindI h) fun _ _ h => h)
theorem p_rng {n : Nat} (hn : n ≤ 1000000) (h : Pw ⟨rngD 0 n, none⟩ st) : (rng1R [.int (n : Int)] st).post Pw B := pe (rng_ok hn) h
theorem p_rngZ {N : Int} (hn : N ≤ 1000000) (h0 : -1000000 ≤ N) (h : Pw ⟨rngD 0 N.toNat, none⟩ st) : (rng1R [.int N] st).post Pw B := by
  refine pe ?_ h
  rw [rngR_one, guardR_pos]
  have h1 : (1000000 : Int) < b62 := by decide
  have h2 : -b62 ≤ -1000000 := by decide
  omega
/-! leaves -/
theorem l_add {x y : Int} (h : P (.int (x + y)) st) : (addD (.int x) (.int y) st).post P B := h
theorem l_iadd {x y : Int} (h : P (.int (x + y)) st) : (iaddD (.int x) (.int y) st).post P B := h
theorem l_addL {xs ys : List D} (h : Gd (xs.length + ys.length ≤ lim) (P (.lst (xs ++ ys)) st)) : (addD (.lst xs) (.lst ys) st).post P B := post_gd (r := R.ok (D.lst (xs ++ ys)) st) h
theorem l_addT {xs ys : List D} (h : Gd (xs.length + ys.length ≤ lim) (P (.tup (xs ++ ys)) st)) : (addD (.tup xs) (.tup ys) st).post P B := post_gd (r := R.ok (D.tup (xs ++ ys)) st) h
theorem l_sub {x y : Int} (h : P (.int (x - y)) st) : (subD (.int x) (.int y) st).post P B := h
theorem l_mul {x y : Int} (h : Gd (mulOk x y) (P (.int (x * y)) st)) : (mulD (.int x) (.int y) st).post P B := post_gd (r := R.ok (D.int (x * y)) st) h
theorem l_mod {x y : Int} (h : Gd (0 < y) (P (.int (x % y)) st)) : (modD (.int x) (.int y) st).post P B := post_gd (r := R.ok (D.int (x % y)) st) h
theorem l_fdiv {x y : Int} (h : Gd (0 < y ∧ y < 1073741824) (P (.int (x / y)) st)) : (fdivD (.int x) (.int y) st).post P B := post_gd (r := R.ok (D.int (x / y)) st) h
theorem l_cmp {f : Int → Int → Bool} {x y : Int} (h : P (.bl (f x y)) st) : (cmpI f (.int x) (.int y) st).post P B := h
theorem l_lt {x y : Int} (h : P (.bl (decide (x < y))) st) : (ltD (.int x) (.int y) st).post P B := h
theorem l_eq {x y : Int} (h : P (.bl (decide (x = y))) st) : (eqD (.int x) (.int y) st).post P B := pe eqD_int h
theorem l_ne {x y : Int} (h : P (.bl (!decide (x = y))) st) : (neD (.int x) (.int y) st).post P B := pe neD_int h
theorem l_eqW {x y : List (List Int)} (h : P (.bl (decide (x = y))) st) : (eqD (webD x) (webD y) st).post P B := pe eqD_web h
theorem l_neW {x y : List (List Int)} (h : P (.bl (!decide (x = y))) st) : (neD (webD x) (webD y) st).post P B := pe neD_web h
theorem l_eqR {x y : List Int} (h : P (.bl (decide (x = y))) st) : (eqD (rowD' x) (rowD' y) st).post P B := pe eqD_row h
theorem l_neR {x y : List Int} (h : P (.bl (!decide (x = y))) st) : (neD (rowD' x) (rowD' y) st).post P B := pe neD_row h
theorem l_isT (e : isNon d = true) (h : P (.bl true) st) : (isD false d .non st).post P B := by
  show P (.bl (isNon d ^^ false)) st
  rw [e]; exact h
theorem l_isF (e : isNon d = false) (h : P (.bl false) st) : (isD false d .non st).post P B := by
  show P (.bl (isNon d ^^ false)) st
  rw [e]; exact h
theorem l_nisT (e : isNon d = true) (h : P (.bl false) st) : (isD true d .non st).post P B := by
  show P (.bl (isNon d ^^ true)) st
  rw [e]; exact h
theorem l_nisF (e : isNon d = false) (h : P (.bl true) st) : (isD true d .non st).post P B := by
  show P (.bl (isNon d ^^ true)) st
  rw [e]; exact h
theorem s_id {α : Type} {o : Option α} {P : α → Prop} (h : Som o P) : Som o P := h
theorem s_itr {n : Nat} {xs : List D} {P : Wk → Prop} (e : st[n]? = some (.lst xs)) (h : P ⟨xs, some (n, xs)⟩) : Som (itrOf st (.loc n)) P := ⟨_, itrOf_loc e, h⟩
theorem s_itL {n : Nat} {xs : List D} {P : List D → Prop} (e : st[n]? = some (.lst xs)) (h : P xs) : Som (itemsL st (.loc n)) P := ⟨_, itemsL_loc e, h⟩
theorem s_itS {n : Nat} {xs : List D} {P : List D → Prop} (e : st[n]? = some (.lst xs)) (h : P xs) : Som (itemsS st (.loc n)) P := ⟨_, itemsS_loc e, h⟩
theorem s_itR {n : Nat} {xs : List D} {P : List D → Prop} (e : st[n]? = some (.lst xs)) (h : P xs) : Som (itemsR st (.loc n)) P := ⟨_, itemsR_loc e, h⟩
theorem s_tru {n : Nat} {xs : List D} {P : Bool → Prop} (e : st[n]? = some (.lst xs)) (h : P (!xs.isEmpty)) : Som (truD st (.loc n)) P := ⟨_, by simp only [truD, e], h⟩
theorem l_lenW {x : List (List Int)} (h : P (.int x.length) st) : (lenD [webD x] st).post P B := pe (by unfold webD; rw [lenD_tup, rowsL_len]) h
theorem l_lenR {x : List Int} (h : P (.int x.length) st) : (lenD [rowD' x] st).post P B := pe (by unfold rowD'; rw [lenD_tup, List.length_map]) h
theorem l_lenT {x : List D} (h : P (.int x.length) st) : (lenD [.tup x] st).post P B := h
theorem l_lenL {x : List D} (h : P (.int x.length) st) : (lenD [.lst x] st).post P B := h
theorem l_lenO {x : List D} {n : Nat} (e : st[n]? = some (.lst x)) (h : P (.int x.length) st) : (lenD [.loc n] st).post P B := pe (lenD_loc e) h
theorem l_inR {w : Int} {r : List Int} (h : P (.bl (decide (w ∈ r))) st) : (inD false (.int w) (rowD' r) st).post P B := pe inD_row (by rw [Bool.xor_false]; exact h)
theorem l_inRn {w : Int} {r : List Int} (h : P (.bl (!decide (w ∈ r))) st) : (inD true (.int w) (rowD' r) st).post P B := pe inD_row (by rw [Bool.xor_true]; exact h)
theorem l_inL {w : Int} {r : List Int} (h : P (.bl (decide (w ∈ r))) st) : (inD false (.int w) (.lst (r.map D.int)) st).post P B := pe inD_lst (by rw [Bool.xor_false]; exact h)
theorem l_inLn {w : Int} {r : List Int} (h : P (.bl (!decide (w ∈ r))) st) : (inD true (.int w) (.lst (r.map D.int)) st).post P B := pe inD_lst (by rw [Bool.xor_true]; exact h)
theorem l_inO {w : Int} {r : List Int} {n : Nat} (e : st[n]? = some (.lst (r.map D.int))) (h : P (.bl (decide (w ∈ r))) st) : (inD false (.int w) (.loc n) st).post P B := pe (inD_loc e) (by rw [Bool.xor_false]; exact h)
theorem l_inOn {w : Int} {r : List Int} {n : Nat} (e : st[n]? = some (.lst (r.map D.int))) (h : P (.bl (!decide (w ∈ r))) st) : (inD true (.int w) (.loc n) st).post P B := pe (inD_loc e) (by rw [Bool.xor_true]; exact h)
theorem l_inRs {w : List Int} {rs : List (List Int)} (h : P (.bl (decide (w ∈ rs))) st) : (inD false (rowD' w) (.lst (rs.map rowD')) st).post P B := pe inD_rows (by rw [Bool.xor_false]; exact h)
theorem l_inRsn {w : List Int} {rs : List (List Int)} (h : P (.bl (!decide (w ∈ rs))) st) : (inD true (rowD' w) (.lst (rs.map rowD')) st).post P B := pe inD_rows (by rw [Bool.xor_true]; exact h)
theorem l_inW {w : List Int} {rs : List (List Int)} (h : P (.bl (decide (w ∈ rs))) st) : (inD false (rowD' w) (webD rs) st).post P B := pe inD_web (by rw [Bool.xor_false]; exact h)
theorem l_inWn {w : List Int} {rs : List (List Int)} (h : P (.bl (!decide (w ∈ rs))) st) : (inD true (rowD' w) (webD rs) st).post P B := pe inD_web (by rw [Bool.xor_true]; exact h)
theorem l_inRO {w : List Int} {rs : List (List Int)} {n : Nat} (e : st[n]? = some (.lst (rs.map rowD'))) (h : P (.bl (decide (w ∈ rs))) st) : (inD false (rowD' w) (.loc n) st).post P B := pe (inD_rowsLoc e) (by rw [Bool.xor_false]; exact h)
theorem l_inROn {w : List Int} {rs : List (List Int)} {n : Nat} (e : st[n]? = some (.lst (rs.map rowD'))) (h : P (.bl (!decide (w ∈ rs))) st) : (inD true (rowD' w) (.loc n) st).post P B := pe (inD_rowsLoc e) (by rw [Bool.xor_true]; exact h)
theorem l_ixW {rows : List (List Int)} {v : Int} (h0 : 0 ≤ v) (h1 : v < (rows.length : Int)) (h : P (rowD' (rowAt rows v)) st) : (ixD (webD rows) (.int v) st).post P B := pe (webD_ix h0 h1 st) h
theorem l_ixT {xs : List D} {k : Int} (h : Som (atI xs k) fun d => P d st) : (ixD (.tup xs) (.int k) st).post P B := by
  obtain ⟨d, e, h⟩ := h
  rw [ixD_tup, e]
  exact h
theorem l_ixL {xs : List D} {k : Int} (h : Som (atI xs k) fun d => P d st) : (ixD (.lst xs) (.int k) st).post P B := by
  obtain ⟨d, e, h⟩ := h
  rw [ixD_lst, e]
  exact h
theorem l_ixO {xs : List D} {n : Nat} {k : Int} (q : st[n]? = some (.lst xs)) (h : Som (atI xs k) fun d => P d st) : (ixD (.loc n) (.int k) st).post P B := by
  obtain ⟨d, e, h⟩ := h
  rw [ixD_loc q, e]
  exact h
theorem l_app {xs : List D} {n : Nat} {x : D} (q : st[n]? = some (.lst xs)) (h : Gd (xs.length ≤ lim) (P .non (st.set n (.lst (xs ++ [x]))))) : (appD (.loc n) [x] st).post P B := by
  unfold appD
  simp only [lstOf_loc q, ofOpt_some]
  exact post_gd (r := R.ok D.non (st.set n (.lst (xs ++ [x])))) h
theorem l_ext {xs : List D} {n : Nat} {x : D} (q : st[n]? = some (.lst xs)) (h : Som (itemsL st x) fun ys => Gd (xs.length + ys.length ≤ lim) (P .non (st.set n (.lst (xs ++ ys))))) : (extD (.loc n) [x] st).post P B := by
  obtain ⟨ys, e, h⟩ := h
  unfold extD
  simp only [lstOf_loc q, e, ofOpt_some]
  exact post_gd (r := R.ok D.non (st.set n (.lst (xs ++ ys)))) h
theorem l_tupL {xs : List D} (h : P (.tup xs) st) : (tupleD [.lst xs] st).post P B := h
theorem l_listS (h : Som (itemsS st d) fun xs => P (.lst xs) st) : (listD [d] st).post P B := by
  obtain ⟨ys, e, h⟩ := h
  unfold listD
  simp only [e, ofOpt_some]
  exact h
theorem l_listM (h : Som (itemsS st d) fun xs => P (.loc st.length) (st ++ [.lst xs])) : (listM [d] st).post P B := by
  obtain ⟨ys, e, h⟩ := h
  unfold listM
  simp only [e, ofOpt_some]
  exact h
theorem l_tupO {xs : List D} {n : Nat} (q : st[n]? = some (.lst xs)) (h : P (.tup xs) st) : (tupleD [.loc n] st).post P B := pe (tupleD_loc q) h
theorem l_srt {ns : List Int} (h : P (.lst ((sortZ ns).map D.int)) st) : (sortedD [.lst (ns.map D.int)] st).post P B := pe (sortedL_ints) h
theorem l_all {bs : List Bool} (h : P (.bl (bs.all id)) st) : (allD [.lst (bs.map D.bl)] st).post P B := by
  rw [allD_lst, bls_map]
  exact h
theorem l_any {bs : List Bool} (h : P (.bl (bs.any id)) st) : (anyD [.lst (bs.map D.bl)] st).post P B := by
  rw [anyD_lst, bls_map]
  exact h
theorem l_sum {ns : List Int} (h : P (.int ns.sum) st) : (sumD [.lst (ns.map D.int)] st).post P B := by
  rw [sumD_lst, ints_map]
  exact h
theorem l_int {x : Int} (h : P (.int x) st) : (intD [.int x] st).post P B := h
theorem l_intB {x : Bool} (h : P (.int (if x then 1 else 0)) st) : (intD [.bl x] st).post P B := h
theorem l_abs {x : Int} (h : P (.int (if x < 0 then -x else x)) st) : (absD [.int x] st).post P B := h
/-! tests -/
theorem gLenO {n : Nat} (h : (lenD [.loc n] st).post P B) : (lenD [.loc n] st).post P B := h
theorem gInO {x : D} {n : Nat} (h : (inD false x (.loc n) st).post P B) : (inD false x (.loc n) st).post P B := h
theorem gInOn {x : D} {n : Nat} (h : (inD true x (.loc n) st).post P B) : (inD true x (.loc n) st).post P B := h
theorem gIxO {x : D} {n : Nat} (h : (ixD (.loc n) x st).post P B) : (ixD (.loc n) x st).post P B := h
theorem gApp {x : List D} {n : Nat} (h : (appD (.loc n) x st).post P B) : (appD (.loc n) x st).post P B := h
theorem gExt {x : List D} {n : Nat} (h : (extD (.loc n) x st).post P B) : (extD (.loc n) x st).post P B := h
theorem gTupO {n : Nat} (h : (tupleD [.loc n] st).post P B) : (tupleD [.loc n] st).post P B := h
theorem gItr {n : Nat} {P : Wk → Prop} (h : Som (itrOf st (.loc n)) P) : Som (itrOf st (.loc n)) P := h
theorem gItL {n : Nat} {P : List D → Prop} (h : Som (itemsL st (.loc n)) P) : Som (itemsL st (.loc n)) P := h
theorem gItS {n : Nat} {P : List D → Prop} (h : Som (itemsS st (.loc n)) P) : Som (itemsS st (.loc n)) P := h
theorem gItR {n : Nat} {P : List D → Prop} (h : Som (itemsR st (.loc n)) P) : Som (itemsR st (.loc n)) P := h
theorem gTru {n : Nat} {P : Bool → Prop} (h : Som (truD st (.loc n)) P) : Som (truD st (.loc n)) P := h
theorem gdW {o : O} {K : Kt} (h : o.wp K) : o.wp K := h
theorem gdP {r : R α} {Q : α → Sto → Prop} (h : r.post Q B) : r.post Q B := h
theorem i_t {A A' : Prop} (h : A) : if true = true then A else A' := h
theorem i_f {A A' : Prop} (h : A') : if false = true then A else A' := h
theorem i_nt {A A' : Prop} (h : A') : if (!true) = true then A else A' := h
theorem i_nf {A A' : Prop} (h : A) : if (!false) = true then A else A' := h
theorem i_d {A A' q : Prop} [Decidable q] (h : q → A) (k : ¬q → A') : if decide q = true then A else A' := by
  by_cases z : q
  · rw [if_pos (decide_eq_true z)]; exact h z
  · rw [if_neg (by simp [z])]; exact k z
theorem i_nd {A A' q : Prop} [Decidable q] (h : ¬q → A) (k : q → A') : if (!decide q) = true then A else A' := by
  by_cases z : q
  · rw [if_neg (by simp [z])]; exact k z
  · rw [if_pos (by simp [z])]; exact h z
theorem i_b {A A' : Prop} {c : Bool} (h : c = true → A) (k : c = false → A') : if c = true then A else A' := by
  cases c with
  | true => exact h rfl
  | false => exact k rfl
/-! loops over typed rows -/
theorem w_forL {enc : α → D} {xs : List α} (Inv : Nat → Env → Sto → Prop) (h0 : Inv 0 ρ st)
    (step : ∀ (i : Nat) (hi : i < xs.length) (ρ : Env) (st : Sto), Inv i ρ st → Som (p.set (enc xs[i]) ρ) fun ρ1 => (b ρ1 st).wp ⟨Inv (i + 1), rt, nx, Inv (i + 1), er⟩)
    (fin : ∀ ρ st, Inv xs.length ρ st → nx ρ st) : (forGo ⟨xs.map enc, none⟩ p b (xs.map enc) ρ st).wp ⟨nx, rt, bk, ct, er⟩ := by
  have key := for_go (it := ⟨xs.map enc, none⟩) (p := p) (b := b) (K := ⟨nx, rt, bk, ct, er⟩) Inv (fun i d ρ st hd h => ⟨True.intro, by
    rw [show (Wk.items ⟨xs.map enc, none⟩) = xs.map enc from rfl, List.getElem?_map] at hd
    obtain ⟨x, e1, rfl⟩ := Option.map_eq_some_iff.mp hd
    obtain ⟨hi, e2⟩ := List.getElem?_eq_some_iff.mp e1
    subst e2
    obtain ⟨ρ1, e3, k⟩ := step i hi ρ st h
    exact ⟨ρ1, e3, k⟩⟩) (fun ρ st h => ⟨True.intro, fin ρ st (by simpa using h)⟩) xs.length 0 ρ st (by simp) (Nat.zero_le _) h0
  rw [List.drop_zero] at key
  exact key
theorem w_forR {n : Nat} (Inv : Nat → Env → Sto → Prop) (h0 : Inv 0 ρ st)
    (step : ∀ (i : Nat) (I : Int) (ρ : Env) (st : Sto), (i : Int) = I → i < n → Inv i ρ st → Som (p.set (.int I) ρ) fun ρ1 => (b ρ1 st).wp ⟨Inv (i + 1), rt, nx, Inv (i + 1), er⟩)
    (fin : ∀ ρ st, Inv n ρ st → nx ρ st) : (forGo ⟨rngD 0 n, none⟩ p b (rngD 0 n) ρ st).wp ⟨nx, rt, bk, ct, er⟩ := by
  have key := for_go (it := ⟨rngD 0 n, none⟩) (p := p) (b := b) (K := ⟨nx, rt, bk, ct, er⟩) Inv (fun i d ρ st hd h => ⟨True.intro, by
    obtain ⟨hi, hdd⟩ := rngD_at hd
    rw [Int.zero_add] at hdd
    subst hdd
    obtain ⟨ρ1, e3, k⟩ := step i _ ρ st rfl hi h
    exact ⟨ρ1, e3, k⟩⟩) (fun ρ st h => ⟨True.intro, fin ρ st (by
    have e2 : (Wk.items ⟨rngD 0 n, none⟩).length = n := rngD_len
    rw [e2] at h
    exact h)⟩) n 0 ρ st (by
    have e2 : (Wk.items ⟨rngD 0 n, none⟩).length = n := rngD_len
    omega) (Nat.zero_le _) h0
  rw [List.drop_zero] at key
  exact key
/-! comprehensions that change nothing -/
abbrev noE : Er → Sto → Prop := fun _ _ => False
theorem rng_map (n : Nat) : rngD 0 n = (List.range n).map fun (k : Nat) => D.int (k : Int) := by
  unfold rngD
  exact List.map_congr_left fun k _ => by rw [Int.zero_add]
theorem p_compP {it : Wk} {enc : α → D} {xs : List α} {Q : List D → Sto → Prop} (c : α → Bool) (f : α → D) (ei : it.items = xs.map enc) (hs : it.stay st) (hl : xs.length ≤ 1000000)
    (h : ∀ x ∈ xs, Som (p.set (enc x) ρ) fun ρ1 => (t ρ1 st).post (fun c' s' => s' = st ∧ c' = c x) noE ∧ (c x = true → (m ρ1 st).post (fun d s' => s' = st ∧ d = f x) noE)) (k : Q ((xs.filter c).map f) st) : (compGo it p t m ρ it.items st []).post Q B := by
  have key : ∀ (xs : List α) (acc : List D), acc.length + xs.length ≤ 1000000 → (∀ x ∈ xs, Som (p.set (enc x) ρ) fun ρ1 => (t ρ1 st).post (fun c' s' => s' = st ∧ c' = c x) noE ∧ (c x = true → (m ρ1 st).post (fun d s' => s' = st ∧ d = f x) noE)) → compGo it p t m ρ (xs.map enc) st acc = .ok (acc ++ (xs.filter c).map f) st := by
    intro xs
    induction xs with
    | nil =>
      intro acc _ _
      rw [List.map_nil]
      unfold compGo
      rw [if_pos hs]
      simp
    | cons x xs ih =>
      intro acc hl h
      obtain ⟨ρ1, e1, e2, e3⟩ := h x List.mem_cons_self
      rw [List.map_cons]
      unfold compGo
      rw [if_pos hs, e1]
      obtain ⟨c', s', e4, rfl, rfl⟩ := post_ex e2
      simp only [ofOpt_some, e4, R.ner_ok]
      rw [List.length_cons] at hl
      cases hc : c x with
      | true =>
        obtain ⟨d, s2, e5, rfl, rfl⟩ := post_ex (e3 hc)
        simp only [if_true, e5, R.ner_ok]
        rw [guardR_pos (lim_of (by omega)), ih (acc ++ [f x]) (by simp; omega) fun y hy => h y (List.mem_cons_of_mem _ hy)]
        simp [List.filter_cons, hc]
      | false =>
        simp only [Bool.false_eq_true, if_false]
        rw [ih acc (by omega) fun y hy => h y (List.mem_cons_of_mem _ hy)]
        simp [List.filter_cons, hc]
  rw [ei]
  exact pe (key xs [] (by simpa using hl) h) k
theorem p_compL {enc : α → D} {xs : List α} {Q : List D → Sto → Prop} (c : α → Bool) (f : α → D) (hl : xs.length ≤ 1000000)
    (h : ∀ x ∈ xs, Som (p.set (enc x) ρ) fun ρ1 => (t ρ1 st).post (fun c' s' => s' = st ∧ c' = c x) noE ∧ (c x = true → (m ρ1 st).post (fun d s' => s' = st ∧ d = f x) noE)) (k : Q ((xs.filter c).map f) st) : (compGo ⟨xs.map enc, none⟩ p t m ρ (xs.map enc) st []).post Q B := p_compP (it := ⟨xs.map enc, none⟩) c f rfl True.intro hl h k
/-! the store -/
theorem g_last {c : C} : (st ++ [c])[st.length]? = some c := get_mid st [] c
theorem g_app {x : List C} {n : Nat} {c : C} (h : st[n]? = some c) : (st ++ x)[n]? = some c := by
  rw [List.getElem?_append_left (List.getElem?_eq_some_iff.mp h).1]
  exact h
theorem g_set {n : Nat} {c c' : C} (h : st[n]? = some c') : (st.set n c)[n]? = some c := List.getElem?_set_self (List.getElem?_eq_some_iff.mp h).1
theorem g_ne {n k : Nat} {c c' : C} (h : st[n]? = some c') (ne : k ≠ n) : (st.set k c)[n]? = some c' := by
  rw [List.getElem?_set_ne ne]
  exact h
end
/-- a def that answers d and leaves the store -/
theorem def_eq {k n : Nat} {m : Env → Sto → O} {ds : List D} {st : Sto} {d : D} (h : ds.length = k) (c : ClD st.length d) (e : (m (ds.map some ++ List.replicate (n - k) none) st).wp ⟨fun _ s => (∃ x, s = st ++ x) ∧ D.non = d, fun r s => (∃ x, s = st ++ x) ∧ r = d, fun _ _ => False, fun _ _ => False, fun _ _ => False⟩) : mDef k n m ds st = .ok d st := by
  rw [mDef_eq h]
  revert e
  cases m (ds.map some ++ List.replicate (n - k) none) st with
  | nx ρ s => rintro ⟨⟨x, rfl⟩, rfl⟩; exact gc_app c
  | rt d s => rintro ⟨⟨x, rfl⟩, rfl⟩; exact gc_app c
  | er x ρ s => exact fun z => z.elim
  | bk => exact fun z => z.elim
  | ct => exact fun z => z.elim
  | no => exact fun z => z.elim
theorem ex_same {st : Sto} : ∃ x, st = st ++ x := ⟨[], by simp⟩
end Pl
namespace Pl
open PySem PySem.Spec PyProof.Rows L2 Hn
section
variable {nx : Env → Sto → Prop} {rt : D → Sto → Prop} {bk ct : Env → Sto → Prop} {er : Er → Sto → Prop} {ρ : Env} {st : Sto} {b : Env → Sto → O} {p : Pat}
end
end Pl
namespace Pl
open PySem PySem.Spec PyProof.Rows L2 Hn
section
variable {α β : Type} {P : D → Sto → Prop} {B : Er → Sto → Prop} {ρ : Env} {st : Sto} {m : Env → Sto → R D} {t t1 : Env → Sto → R Bool} {mi mi1 : Env → Sto → R Wk} {p p1 : Pat} {vs vs1 : List Nat}
theorem p_comp2 (h : (mi ρ st).post (fun it s => atE (wipeD ρ vs) fun ρ => (comp2Go it p t mi1 vs1 p1 t1 m ρ it.items s []).post (fun acc s2 => P (.lst acc) s2) B) B) : (mComp2 mi vs p t mi1 vs1 p1 t1 m ρ st).post P B := post_bindI (R.post_mono h (fun it s h => post_bindI h) fun _ _ h => h)
theorem p_comp2M (h : (mi ρ st).post (fun it s => atE (wipeD ρ vs) fun ρ => (comp2Go it p t mi1 vs1 p1 t1 m ρ it.items s []).post (fun acc s2 => P (.loc s2.length) (s2 ++ [.lst acc])) B) B) : (mComp2M mi vs p t mi1 vs1 p1 t1 m ρ st).post P B := post_bindI (R.post_mono h (fun it s h => post_bindI h) fun _ _ h => h)
end
end Pl

set_option maxHeartbeats 4000000
/-! sorted of rows, of webs -/
namespace Pl
open PySem PySem.Spec PyProof.Rows L2 Hn
theorem toPs_webs : ∀ ws : List (List (List Int)), toPs (ws.map webD) = some (ws.map gridD)
  | [] => rfl
  | w :: ws => by
    rw [List.map_cons]
    unfold toPs
    rw [toPs_webs ws, toP_web]
    rfl
theorem row_tri {a b : List Int} (h : ¬ a < b) (k : ¬ b < a) : a = b := List.le_antisymm (List.not_lt.mp k) (List.not_lt.mp h)
end Pl
namespace Pl
open PySem PySem.Spec PyProof.Rows L2 Hn
section
variable {α : Type} {B : Er → Sto → Prop} {ρ : Env} {st : Sto} {m : Env → Sto → R D} {p : Pat}
theorem p_mapP {it : Wk} {enc : α → D} {xs : List α} {Q : List D → Sto → Prop} (f : α → D) (ei : it.items = xs.map enc) (hs : it.stay st) (hl : xs.length ≤ 1000000)
    (h : ∀ x ∈ xs, Som (p.set (enc x) ρ) fun ρ1 => (m ρ1 st).post (fun d s' => s' = st ∧ d = f x) noE) (k : Q (xs.map f) st) : (compGo it p mYes m ρ it.items st []).post Q B :=
  p_compP (fun _ => true) f ei hs hl (fun x hx => by
    obtain ⟨ρ1, e, h⟩ := h x hx
    exact ⟨ρ1, e, ⟨rfl, rfl⟩, fun _ => h⟩) (by rw [List.filter_eq_self.mpr fun _ _ => rfl]; exact k)
theorem p_mapR {n : Nat} {Q : List D → Sto → Prop} (f : Nat → D) (hl : n ≤ 1000000)
    (h : ∀ (x : Nat) (X : Int), (x : Int) = X → x < n → Som (p.set (.int X) ρ) fun ρ1 => (m ρ1 st).post (fun d s' => s' = st ∧ d = f x) noE) (k : Q ((List.range n).map f) st) : (compGo ⟨rngD 0 n, none⟩ p mYes m ρ (rngD 0 n) st []).post Q B :=
  p_mapP (it := ⟨rngD 0 n, none⟩) f (rng_map n) True.intro (by rw [List.length_range]; exact hl) (fun x hx => h x _ rfl (List.mem_range.mp hx)) k
end
end Pl
namespace Pl
open PySem PySem.Spec PyProof.Rows L2 Hn
section
variable {α : Type} {nx : Env → Sto → Prop} {rt : D → Sto → Prop} {bk ct : Env → Sto → Prop} {er : Er → Sto → Prop} {P : D → Sto → Prop} {B : Er → Sto → Prop} {ρ : Env} {st : Sto} {b : Env → Sto → O} {p : Pat}
theorem w_forP {it : Wk} {enc : α → D} {xs : List α} (Inv : Nat → Env → Sto → Prop) (ei : it.items = xs.map enc) (h0 : Inv 0 ρ st) (hs : ∀ i ρ st, Inv i ρ st → it.stay st)
    (step : ∀ (i : Nat) (hi : i < xs.length) (ρ : Env) (st : Sto), Inv i ρ st → Som (p.set (enc xs[i]) ρ) fun ρ1 => (b ρ1 st).wp ⟨Inv (i + 1), rt, nx, Inv (i + 1), er⟩)
    (fin : ∀ ρ st, Inv xs.length ρ st → nx ρ st) : (forGo it p b it.items ρ st).wp ⟨nx, rt, bk, ct, er⟩ := by
  have key := for_go (it := it) (p := p) (b := b) (K := ⟨nx, rt, bk, ct, er⟩) Inv (fun i d ρ st hd h => ⟨hs i ρ st h, by
    rw [ei, List.getElem?_map] at hd
    obtain ⟨x, e1, rfl⟩ := Option.map_eq_some_iff.mp hd
    obtain ⟨hi, e2⟩ := List.getElem?_eq_some_iff.mp e1
    subst e2
    obtain ⟨ρ1, e3, k⟩ := step i hi ρ st h
    exact ⟨ρ1, e3, k⟩⟩) (fun ρ st h => ⟨hs _ ρ st h, fin ρ st (by rw [ei, List.length_map] at h; exact h)⟩) it.items.length 0 ρ st (by simp) (Nat.zero_le _) h0
  rw [List.drop_zero] at key
  exact key
theorem l_addW {w : List (List Int)} {ys : List D} (h : Gd (w.length + ys.length ≤ lim) (P (.tup (rowsL w ++ ys)) st)) : (addD (webD w) (.tup ys) st).post P B := by
  unfold webD
  refine l_addT ⟨?_, h.2⟩
  rw [rowsL_len]
  exact h.1
theorem l_addR {w : List Int} {ys : List D} (h : Gd (w.length + ys.length ≤ lim) (P (.tup (w.map D.int ++ ys)) st)) : (addD (rowD' w) (.tup ys) st).post P B := by
  unfold rowD'
  refine l_addT ⟨?_, h.2⟩
  rw [List.length_map]
  exact h.1
end
end Pl

set_option maxHeartbeats 4000000
/-! a law's answer; what equals itself -/
namespace Pl
open PySem PySem.Spec PyProof.Rows L2 Hn
theorem law_true {k n : Nat} {m : Env → Sto → O} {ds : List D} {st : Sto} (h : ds.length = k) (e : (m (ds.map some ++ List.replicate (n - k) none) st).wp ⟨fun _ _ => False, fun r _ => r = .bl true, fun _ _ => False, fun _ _ => False, fun _ _ => False⟩) : ∃ s, mDef k n m ds st = .ok (.bl true) s := by
  rw [mDef_eq h]
  revert e
  cases m (ds.map some ++ List.replicate (n - k) none) st with
  | rt d s =>
    rintro rfl
    show ∃ s', gc st (.ok (.bl true) s) = .ok (.bl true) s'
    unfold gc
    simp only
    split
    · exact ⟨_, rfl⟩
    · exact ⟨_, rfl⟩
  | nx ρ s => exact fun z => z.elim
  | er x ρ s => exact fun z => z.elim
  | bk => exact fun z => z.elim
  | ct => exact fun z => z.elim
  | no => exact fun z => z.elim
theorem neD_bl {a b : Bool} {st : Sto} : neD (.bl a) (.bl b) st = .ok (.bl (!decide (a = b))) st := by
  unfold neD
  simp only [show ∀ b : Bool, toQ st (.bl b) = some (PyData.bool b) from fun _ => rfl, ofOpt_some]
  rw [guardR_pos ⟨rfl, rfl⟩]
  cases a <;> cases b <;> rfl
theorem eqD_bl {a b : Bool} {st : Sto} : eqD (.bl a) (.bl b) st = .ok (.bl (decide (a = b))) st := by
  unfold eqD
  simp only [show ∀ b : Bool, toQ st (.bl b) = some (PyData.bool b) from fun _ => rfl, ofOpt_some]
  rw [guardR_pos ⟨rfl, rfl⟩]
  cases a <;> cases b <;> rfl
theorem eqv_grids : ∀ a b : List (List (List Int)), PyData.eqvAll (a.map gridD) (b.map gridD) = decide (a = b)
  | [], [] => rfl
  | [], y :: b => rfl
  | x :: a, [] => rfl
  | x :: a, y :: b => by
    show (PyData.eqvAll (x.map rowD) (y.map rowD) && PyData.eqvAll (a.map gridD) (b.map gridD)) = _
    rw [eqv_grids a b, eqv_grid, Bool.eq_iff_iff, Bool.and_eq_true, decide_eq_true_iff, decide_eq_true_iff, decide_eq_true_iff, List.cons.injEq]
theorem lay_grids : ∀ rs : List (List (List Int)), PyData.canLayAll0 (rs.map gridD) = true
  | [] => rfl
  | r :: rs => by
    show (PyData.canLayAll0 (r.map rowD) && PyData.canLayAll0 (rs.map gridD)) = true
    rw [lay_grids rs, lay_rows, Bool.and_true]
theorem depth_grids : ∀ rs : List (List (List Int)), PyData.depthAll (rs.map gridD) ≤ 2
  | [] => Nat.zero_le _
  | r :: rs => by
    show max (PyData.depthAll (r.map rowD) + 1) (PyData.depthAll (rs.map gridD)) ≤ 2
    have := depth_grids rs
    have := depth_rows r
    omega
theorem shaped_grids (rs : List (List (List Int))) : SeqAt.shaped (.list (rs.map gridD)) = true ∧ SeqAt.shaped (.tuple (rs.map gridD)) = true := by
  have h := depth_grids rs
  constructor
  · unfold SeqAt.shaped
    show (PyData.canLayAll0 (rs.map gridD) && decide (PyData.depthAll (rs.map gridD) + 1 ≤ 64)) = true
    rw [lay_grids, decide_eq_true (by omega)]
    rfl
  · unfold SeqAt.shaped
    show (PyData.canLayAll0 (rs.map gridD) && decide (PyData.depthAll (rs.map gridD) + 1 ≤ 64)) = true
    rw [lay_grids, decide_eq_true (by omega)]
    rfl
theorem toQ_webs {st : Sto} {ws : List (List (List Int))} : toQ st (.lst (ws.map webD)) = some (.list (ws.map gridD)) := by
  show toP (.lst (ws.map webD)) = _
  unfold toP
  rw [toPs_webs]
theorem neD_webs {a b : List (List (List Int))} {st : Sto} : neD (.lst (a.map webD)) (.lst (b.map webD)) st = .ok (.bl (!decide (a = b))) st := by
  unfold neD
  rw [toQ_webs, toQ_webs]
  simp only [ofOpt_some]
  rw [guardR_pos ⟨(shaped_grids a).1, (shaped_grids b).1⟩]
  show R.ok (D.bl (!PyData.eqvAll (a.map gridD) (b.map gridD))) st = _
  rw [eqv_grids]
theorem eqD_webs {a b : List (List (List Int))} {st : Sto} : eqD (.lst (a.map webD)) (.lst (b.map webD)) st = .ok (.bl (decide (a = b))) st := by
  unfold eqD
  rw [toQ_webs, toQ_webs]
  simp only [ofOpt_some]
  rw [guardR_pos ⟨(shaped_grids a).1, (shaped_grids b).1⟩]
  show R.ok (D.bl (PyData.eqvAll (a.map gridD) (b.map gridD))) st = _
  rw [eqv_grids]
section
variable {nx : Env → Sto → Prop} {rt : D → Sto → Prop} {bk ct : Env → Sto → Prop} {er : Er → Sto → Prop} {ρ : Env} {st : Sto} {a b c : Env → Sto → O} {t : Env → Sto → R Bool}
theorem isIf {K : Kt} (h : (mSeq (mIfS t a b) c ρ st).wp K) : (mSeq (mIfS t a b) c ρ st).wp K := h
/-- what holds behind a statement, whichever way it went -/
theorem w_cut (Mid : Env → Sto → Prop) (h : (a ρ st).wp ⟨Mid, rt, bk, ct, er⟩) (k : ∀ ρ s, Mid ρ s → (b ρ s).wp ⟨nx, rt, bk, ct, er⟩) : (mSeq a b ρ st).wp ⟨nx, rt, bk, ct, er⟩ :=
  wp_seq (wp_mono h k (fun _ _ z => z) (fun _ _ z => z) (fun _ _ z => z) fun _ _ z => z)
end
section
variable {P : D → Sto → Prop} {B : Er → Sto → Prop} {st : Sto}
theorem l_neB {a b : Bool} (h : P (.bl (!decide (a = b))) st) : (neD (.bl a) (.bl b) st).post P B := pe neD_bl h
theorem l_eqB {a b : Bool} (h : P (.bl (decide (a = b))) st) : (eqD (.bl a) (.bl b) st).post P B := pe eqD_bl h
theorem l_neWs {a b : List (List (List Int))} (h : P (.bl (!decide (a = b))) st) : (neD (.lst (a.map webD)) (.lst (b.map webD)) st).post P B := pe neD_webs h
theorem l_eqWs {a b : List (List (List Int))} (h : P (.bl (decide (a = b))) st) : (eqD (.lst (a.map webD)) (.lst (b.map webD)) st).post P B := pe eqD_webs h
theorem l_isiB {b : Bool} (h : P (.bl true) st) : (isiD "bool" (.bl b) st).post P B := h
theorem l_isiL {x : List D} (h : P (.bl true) st) : (isiD "list" (.lst x) st).post P B := h
theorem l_isiT {x : List D} (h : P (.bl true) st) : (isiD "tuple" (.tup x) st).post P B := h
theorem l_isiI {x : Int} (h : P (.bl true) st) : (isiD "int" (.int x) st).post P B := h
theorem l_isiIB {x : Int} (h : P (.bl false) st) : (isiD "bool" (.int x) st).post P B := h
end
end Pl
namespace Pl
open PySem PySem.Spec PyProof.Rows L2 Hn
section
variable {α : Type} {P : D → Sto → Prop} {Pb : Bool → Sto → Prop} {B : Er → Sto → Prop} {ρ : Env} {st : Sto} {ma mb m : Env → Sto → R D} {ta tb t : Env → Sto → R Bool} {mi : Env → Sto → R Wk} {vs : List Nat} {p : Pat}
/-- both sides are reckoned, neither changes anything -/
theorem p_andPV (h : (ma ρ st).post (fun x s => (blOf x s).post (fun a s1 => (mb ρ s1).post (fun y s2 => (blOf y s2).post (fun b s3 => s3 = s1 ∧ P (.bl (a && b)) s3) noE) noE) B) B) : (mAndV ma mb ρ st).post P B := by
  refine p_andV (R.post_mono h (fun x s h => R.post_mono h (fun a s1 h => ?_) fun _ _ h => h) fun _ _ h => h)
  obtain ⟨y, s2, e, h⟩ := post_ex h
  cases y with
  | bl b =>
    obtain ⟨rfl, h⟩ := (show s2 = s1 ∧ P (.bl (a && b)) s2 from h)
    cases a with
    | true =>
      show (mb ρ s2).post P B
      rw [e]
      simpa using h
    | false => simpa using h
  | _ => exact h.elim
theorem p_orPV (h : (ma ρ st).post (fun x s => (blOf x s).post (fun a s1 => (mb ρ s1).post (fun y s2 => (blOf y s2).post (fun b s3 => s3 = s1 ∧ P (.bl (a || b)) s3) noE) noE) B) B) : (mOrV ma mb ρ st).post P B := by
  refine p_orV (R.post_mono h (fun x s h => R.post_mono h (fun a s1 h => ?_) fun _ _ h => h) fun _ _ h => h)
  obtain ⟨y, s2, e, h⟩ := post_ex h
  cases y with
  | bl b =>
    obtain ⟨rfl, h⟩ := (show s2 = s1 ∧ P (.bl (a || b)) s2 from h)
    cases a with
    | false =>
      show (mb ρ s2).post P B
      rw [e]
      simpa using h
    | true => simpa using h
  | _ => exact h.elim
theorem p_andPT (h : (ta ρ st).post (fun a s1 => (tb ρ s1).post (fun b s3 => s3 = s1 ∧ Pb (a && b) s3) noE) B) : (mAnd ta tb ρ st).post Pb B := by
  refine p_and (R.post_mono h (fun a s1 h => ?_) fun _ _ h => h)
  obtain ⟨b, s2, e, e2, q⟩ := post_ex h
  subst e2
  cases a with
  | true =>
    show (tb ρ s2).post Pb B
    rw [e]
    simpa using q
  | false => simpa using q
theorem p_orPT (h : (ta ρ st).post (fun a s1 => (tb ρ s1).post (fun b s3 => s3 = s1 ∧ Pb (a || b) s3) noE) B) : (mOr ta tb ρ st).post Pb B := by
  refine p_or (R.post_mono h (fun a s1 h => ?_) fun _ _ h => h)
  obtain ⟨b, s2, e, e2, q⟩ := post_ex h
  subst e2
  cases a with
  | false =>
    show (tb ρ s2).post Pb B
    rw [e]
    simpa using q
  | true => simpa using q
theorem and_rfl {a : α} {q : Prop} (h : q) : a = a ∧ q := ⟨rfl, h⟩
theorem p_row (h : (m ρ st).post (fun x s => Som (rowOf x) fun r => Gd (r ≠ []) (P x s)) B) : (mRow m ρ st).post P B := post_bindI (R.post_mono h (fun x s ⟨r, e, h⟩ => by rw [e]; exact post_gd (r := R.ok x s) h) fun _ _ h => h)
theorem p_sortset (h : (mi ρ st).post (fun it s => atE (wipeD ρ vs) fun ρ => (compGo it p t (mRow m) ρ it.items s []).post (fun acc s2 => Som (rowsD acc) fun rs => Gd (rs.length < 63) (P (.lst ((sortRs rs).map rowD')) s2)) B) B) : (mSortSet mi vs p t m ρ st).post P B := by
  unfold mSortSet
  exact post_bindI (R.post_mono h (fun it s h => post_bindI (R.post_mono h (fun acc s ⟨rs, e, h⟩ => by rw [e]; exact post_gd (r := R.ok (D.lst ((sortRs rs).map rowD')) s) h) fun _ _ h => h)) fun _ _ h => h)
theorem bls_mapF {α : Type} (c : α → Bool) (xs : List α) : blsD (xs.map fun x => D.bl (c x)) = some (xs.map c) := by
  have := bls_map (xs.map c)
  rw [List.map_map] at this
  exact this
theorem l_anyF {xs : List α} {c : α → Bool} (h : P (.bl (xs.any c)) st) : (anyD [.lst (xs.map fun x => D.bl (c x))] st).post P B := by
  rw [anyD_lst, bls_mapF]
  simp only [ofOpt_some, List.any_map]
  exact h
theorem l_allF {xs : List α} {c : α → Bool} (h : P (.bl (xs.all c)) st) : (allD [.lst (xs.map fun x => D.bl (c x))] st).post P B := by
  rw [allD_lst, bls_mapF]
  simp only [ofOpt_some, List.all_map]
  exact h
theorem ints_mapF {α : Type} (c : α → Int) (xs : List α) : intsD (xs.map fun x => D.int (c x)) = some (xs.map c) := by
  have := ints_map (xs.map c)
  rw [List.map_map] at this
  exact this
theorem l_sumF {xs : List α} {c : α → Int} (h : P (.int (xs.map c).sum) st) : (sumD [.lst (xs.map fun x => D.int (c x))] st).post P B := by
  rw [sumD_lst, ints_mapF]
  exact h
theorem l_ixR {xs : List Int} {k : Int} (h : Som (atI xs k) fun d => P (.int d) st) : (ixD (rowD' xs) (.int k) st).post P B := by
  obtain ⟨d, e, h⟩ := h
  unfold rowD'
  rw [ixD_tup, atI_map, e]
  exact h
theorem l_inT {w : List Int} {x y : List Int} (h : P (.bl (decide (w ∈ [x, y]))) st) : (inD false (rowD' w) (.tup [rowD' x, rowD' y]) st).post P B := l_inW (rs := [x, y]) h
theorem l_inTn {w : List Int} {x y : List Int} (h : P (.bl (!decide (w ∈ [x, y]))) st) : (inD true (rowD' w) (.tup [rowD' x, rowD' y]) st).post P B := l_inWn (rs := [x, y]) h
theorem l_inI {w : Int} {x y : Int} (h : P (.bl (decide (w ∈ [x, y]))) st) : (inD false (.int w) (.tup [.int x, .int y]) st).post P B := l_inR (r := [x, y]) h
theorem l_inIn {w : Int} {x y : Int} (h : P (.bl (!decide (w ∈ [x, y]))) st) : (inD true (.int w) (.tup [.int x, .int y]) st).post P B := l_inRn (r := [x, y]) h
end
end Pl
namespace Pl
open PySem PySem.Spec PyProof.Rows L2 Hn
section
variable {P : D → Sto → Prop} {B : Er → Sto → Prop} {st : Sto}
theorem gIadd {n : Nat} {d : D} (h : (iaddD (.loc n) d st).post P B) : (iaddD (.loc n) d st).post P B := h
theorem l_iaddO {n : Nat} {xs : List D} {d : D} (q : st[n]? = some (.lst xs)) (h : Som (itemsL st d) fun ys => Gd (xs.length + ys.length ≤ lim) (P (.loc n) (st.set n (.lst (xs ++ ys))))) : (iaddD (.loc n) d st).post P B := by
  obtain ⟨ys, e, h⟩ := h
  rw [iaddD_loc]
  simp only [lstOf_loc q, e, ofOpt_some]
  exact post_gd (r := R.ok (D.loc n) (st.set n (.lst (xs ++ ys)))) h
theorem s_itRow {r : List Int} {P : Wk → Prop} (h : P ⟨r.map D.int, none⟩) : Som (itrOf st (rowD' r)) P := ⟨_, rfl, h⟩
theorem s_itWeb {r : List (List Int)} {P : Wk → Prop} (h : P ⟨r.map rowD', none⟩) : Som (itrOf st (webD r)) P := ⟨_, rfl, h⟩
end
end Pl
namespace Pl
open PySem PySem.Spec PyProof.Rows L2 Hn
/-- a def that answers a new thing of the store, behind whatever else it has made -/
theorem loc_def {k m : Nat} {body : Env → Sto → O} {ds : List D} {st : Sto} {P : Nat → Sto → Prop} (h : ds.length = k) (e : (body (ds.map some ++ List.replicate (m - k) none) st).wp ⟨fun _ _ => False, fun d s => ∃ (b : Nat) (x : Sto), d = .loc b ∧ st.length ≤ b ∧ s = st ++ x ∧ P b s, fun _ _ => False, fun _ _ => False, fun _ _ => False⟩) :
    ∃ b x, mDef k m body ds st = .ok (.loc b) (st ++ x) ∧ st.length ≤ b ∧ P b (st ++ x) := by
  rw [mDef_eq h]
  revert e
  cases body (ds.map some ++ List.replicate (m - k) none) st with
  | rt d s =>
    rintro ⟨b, x, rfl, hb, rfl, p⟩
    refine ⟨b, x, ?_, hb, p⟩
    show gc st (.ok (.loc b) (st ++ x)) = _
    unfold gc
    simp only
    rw [if_neg]
    rintro ⟨z, _⟩
    exact absurd (show b < st.length from z) (by omega)
  | nx ρ s => exact fun z => z.elim
  | er x ρ s => exact fun z => z.elim
  | bk => exact fun z => z.elim
  | ct => exact fun z => z.elim
  | no => exact fun z => z.elim
end Pl

set_option maxHeartbeats 4000000
/-! lists within lists; comprehensions that change the store; min; is True -/
namespace Pl
open PySem PySem.Spec PyProof.Rows L2 Hn
def lstD (r : List Int) : D := .lst (r.map D.int)
def lowD (r : List Int) : PyData := .list (r.map .int)
@[simp] theorem toP_lst (r : List Int) : toP (lstD r) = some (lowD r) := by
  unfold lstD toP
  rw [toPs_ints]
  rfl
theorem toPs_lsts : ∀ rs : List (List Int), toPs (rs.map lstD) = some (rs.map lowD)
  | [] => rfl
  | n :: ns => by
    rw [List.map_cons]
    unfold toPs
    rw [toPs_lsts ns, toP_lst]
    rfl
theorem toQ_lst {st : Sto} (r : List Int) : toQ st (lstD r) = some (lowD r) := toP_lst r
theorem eqv_low (a b : List Int) : PyData.eqv (lowD a) (lowD b) = decide (a = b) := by
  show PyData.eqvAll (a.map PyData.int) (b.map PyData.int) = _
  exact PySem.W.ked_eqvAll a b
theorem any_low (k : List Int) : ∀ rs : List (List Int), ((rs.map lowD).any fun z => PyData.eqv z (lowD k)) = decide (k ∈ rs)
  | [] => (decide_eq_false List.not_mem_nil).symm
  | r :: rs => by
    rw [List.map_cons, List.any_cons, any_low k rs, eqv_low, Bool.eq_iff_iff, Bool.or_eq_true, decide_eq_true_iff, decide_eq_true_iff, decide_eq_true_iff, List.mem_cons, eq_comm]
theorem lay_lows : ∀ rs : List (List Int), PyData.canLayAll0 (rs.map lowD) = true
  | [] => rfl
  | r :: rs => by
    show (PyData.canLayAll0 (r.map PyData.int) && PyData.canLayAll0 (rs.map lowD)) = true
    rw [lay_lows rs, Bool.and_true]
    exact lay_ints r
theorem depth_lows : ∀ rs : List (List Int), PyData.depthAll (rs.map lowD) ≤ 1
  | [] => Nat.zero_le _
  | r :: rs => by
    show max (PyData.depthAll (r.map PyData.int) + 1) (PyData.depthAll (rs.map lowD)) ≤ 1
    rw [PySem.W.depth_ints]
    have := depth_lows rs
    omega
theorem shaped_lows (rs : List (List Int)) : SeqAt.shaped (.list (rs.map lowD)) = true := by
  have h := depth_lows rs
  unfold SeqAt.shaped
  show (PyData.canLayAll0 (rs.map lowD) && decide (PyData.depthAll (rs.map lowD) + 1 ≤ 64)) = true
  rw [lay_lows, decide_eq_true (by omega)]
  rfl
theorem inD_lows {neg : Bool} {w : List Int} {rs : List (List Int)} {n : Nat} {st : Sto} (h : st[n]? = some (.lst (rs.map lstD))) : inD neg (lstD w) (.loc n) st = .ok (.bl (decide (w ∈ rs) ^^ neg)) st := by
  unfold inD
  simp only [isDct, h, toQ_lst, ofOpt_some, toPs_lsts, itemsL_loc h]
  rw [guardR_pos ⟨(shaped_ints w).1, shaped_lows rs⟩, any_low]
theorem neD_lst {a b : List Int} {st : Sto} : neD (lstD a) (lstD b) st = .ok (.bl (!decide (a = b))) st := by
  unfold neD
  rw [toQ_lst, toQ_lst]
  simp only [ofOpt_some]
  rw [guardR_pos ⟨(shaped_ints a).1, (shaped_ints b).1⟩, eqv_low]
section
variable {α : Type} {P : D → Sto → Prop} {B : Er → Sto → Prop} {ρ : Env} {st : Sto} {m : Env → Sto → R D} {t : Env → Sto → R Bool} {p : Pat}
theorem l_inLsn {w : List Int} {rs : List (List Int)} {n : Nat} (e : st[n]? = some (.lst (rs.map lstD))) (h : P (.bl (!decide (w ∈ rs))) st) : (inD true (lstD w) (.loc n) st).post P B := pe (inD_lows e) (by rw [Bool.xor_true]; exact h)
theorem l_isBT {x y : Bool} (h : P (.bl (!decide (x = y))) st) : (isBD true (.bl x) (.bl y) st).post P B := by
  show P (.bl (decide (x = y) ^^ true)) st
  rw [Bool.xor_true]
  exact h
theorem l_isBF {x y : Bool} (h : P (.bl (decide (x = y))) st) : (isBD false (.bl x) (.bl y) st).post P B := by
  show P (.bl (decide (x = y) ^^ false)) st
  rw [Bool.xor_false]
  exact h
theorem gSlO {n : Nat} {l k : Option Int} (h : (slD (.loc n) l k st).post P B) : (slD (.loc n) l k st).post P B := h
theorem l_slO {n : Nat} {xs : List D} {l k : Option Int} (q : st[n]? = some (.lst xs)) (h : P (.lst (cutD xs l k)) st) : (slD (.loc n) l k st).post P B := by
  show (ofOpt (itemsR st (.loc n)) fun xs => R.ok (D.lst (cutD xs l k)) st).post P B
  rw [itemsR_loc q]
  exact h
theorem l_slL {xs : List D} {l k : Option Int} (h : P (.lst (cutD xs l k)) st) : (slD (.lst xs) l k st).post P B := h
theorem l_slT {xs : List D} {l k : Option Int} (h : P (.tup (cutD xs l k)) st) : (slD (.tup xs) l k st).post P B := h
/-- a comprehension that may change the store -/
theorem p_compI {it : Wk} {Q : List D → Sto → Prop} (Inv : Nat → Sto → List D → Prop) (h0 : Inv 0 st [])
    (step : ∀ (i : Nat) (d : D) (st : Sto) (acc : List D), it.items[i]? = some d → Inv i st acc → it.stay st ∧ acc.length ≤ lim ∧ Som (p.set d ρ) fun ρ1 => (t ρ1 st).post (fun c s => if c = true then (m ρ1 s).post (fun x s2 => Inv (i + 1) s2 (acc ++ [x])) noE else Inv (i + 1) s acc) noE)
    (fin : ∀ st acc, Inv it.items.length st acc → it.stay st ∧ Q acc st) : (compGo it p t m ρ it.items st []).post Q B := by
  obtain ⟨st', acc', e, h⟩ := comp_inv (it := it) (p := p) (t := t) (m := m) (ρ := ρ) Inv (fun i d st acc hd hI => by
    obtain ⟨h1, h2, ρ1, e1, h3⟩ := step i d st acc hd hI
    obtain ⟨c, s1, e2, h4⟩ := post_ex h3
    refine ⟨h1, h2, ρ1, e1, c, s1, e2, fun hc => ?_, fun hc => ?_⟩
    · rw [hc] at h4
      exact post_ex h4
    · rw [hc] at h4
      exact h4) (fun st acc h => (fin st acc h).1) it.items.length 0 st [] (by omega) (Nat.zero_le _) h0
  rw [List.drop_zero] at e
  exact pe e (fin _ _ h).2
end
end Pl
namespace Pl
open PySem PySem.Spec PyProof.Rows L2 Hn
section
variable {nx : Env → Sto → Prop} {rt : D → Sto → Prop} {bk ct : Env → Sto → Prop} {er : Er → Sto → Prop} {ρ : Env} {st : Sto} {a b : Env → Sto → O} {t : Env → Sto → R Bool}
end
end Pl

set_option maxHeartbeats 4000000
/-! finding by going on, turn by turn -/
namespace Hn
open PySem PySem.Spec PyProof.Rows L2 EF
open PySem.W (Frag keepIn)
def Closed (rows : List (List Int)) (ks : List Int) : Prop := ∀ k ∈ ks, ∀ w ∈ rowAt rows k, w ∈ ks
/-- what is known of u's row behind t turns -/
structure Gr (rows : List (List Int)) (u : Int) (t : Nat) (ks : List Int) : Prop where
  nd : ks.Nodup
  me : u ∈ ks
  re : ∀ k ∈ ks, Reach rows u k
  gr : Closed rows ks ∨ t + 1 ≤ ks.length
/-- within a turn: S was there ahead of it; the cards that Pe tells have been followed -/
structure Gm (rows : List (List Int)) (u : Int) (S : List Int) (Pe : Int → Int → Prop) (ks : List Int) : Prop where
  nd : ks.Nodup
  sub : ∀ k ∈ S, k ∈ ks
  re : ∀ k ∈ ks, Reach rows u k
  ed : ∀ k w, Pe k w → w ∈ ks
  cl : Closed rows S → ks = S
section
variable {rows : List (List Int)} {u : Int} {S ks : List Int} {t : Nat} {Pe Pe' : Int → Int → Prop}
theorem Gr.start : Gr rows u 0 [u] := ⟨List.nodup_cons.mpr ⟨List.not_mem_nil, List.nodup_nil⟩, List.mem_singleton.mpr rfl, fun k h => by rw [List.mem_singleton.mp h]; exact .refl, .inr (Nat.le_refl _)⟩
theorem Gr.mid (g : Gr rows u t S) : Gm rows u S (fun _ _ => False) S := ⟨g.nd, fun _ h => h, g.re, fun _ _ h => h.elim, fun _ => rfl⟩
theorem Gm.skip (g : Gm rows u S Pe ks) {w : Int} (h : w ∈ ks) (hp : ∀ k x, Pe' k x → Pe k x ∨ x = w) : Gm rows u S Pe' ks :=
  ⟨g.nd, g.sub, g.re, fun k x p => by
    rcases hp k x p with z | z
    · exact g.ed k x z
    · rw [z]
      exact h, g.cl⟩
theorem Gm.add (g : Gm rows u S Pe ks) {v w : Int} (hv : v ∈ S) (hw : w ∈ rowAt rows v) (n : w ∉ ks) (hp : ∀ k x, Pe' k x → Pe k x ∨ x = w) : Gm rows u S Pe' (ks ++ [w]) := by
  refine ⟨List.nodup_append.mpr ⟨g.nd, List.nodup_cons.mpr ⟨List.not_mem_nil, List.nodup_nil⟩, fun x hx y hy e => ?_⟩, fun k h => List.mem_append_left _ (g.sub k h), fun k h => ?_, fun k x p => ?_, fun c => ?_⟩
  · rw [List.mem_singleton.mp hy] at e
    exact n (e ▸ hx)
  · rcases List.mem_append.mp h with z | z
    · exact g.re k z
    · rw [List.mem_singleton.mp z]
      exact .step (g.re v (g.sub v hv)) hw
  · rcases hp k x p with z | z
    · exact List.mem_append_left _ (g.ed k x z)
    · rw [z]
      exact List.mem_append_right _ (List.mem_singleton.mpr rfl)
  · exact absurd (g.sub w (c v hv w hw)) n
theorem Gm.done (g : Gm rows u S Pe ks) (h : Gr rows u t S) (hp : ∀ k ∈ S, ∀ w ∈ rowAt rows k, Pe k w) : Gr rows u (t + 1) ks := by
  refine ⟨g.nd, g.sub u h.me, g.re, ?_⟩
  by_cases c : Closed rows S
  · rw [g.cl c]
    exact .inl c
  · right
    have z : ∃ k ∈ S, ∃ w ∈ rowAt rows k, w ∉ S := Classical.byContradiction fun n => c fun k hk w hw => Classical.byContradiction fun m => n ⟨k, hk, w, hw, m⟩
    obtain ⟨k, hk, w, hw, m⟩ := z
    have l1 : t + 1 ≤ S.length := by
      rcases h.gr with y | y
      · exact absurd y c
      · exact y
    have nd2 : (w :: S).Nodup := List.nodup_cons.mpr ⟨m, h.nd⟩
    have sub2 : (w :: S) ⊆ ks := fun x hx => by
      rcases List.mem_cons.mp hx with y | y
      · rw [y]
        exact g.ed k w (hp k hk w hw)
      · exact g.sub x y
    have l2 := List.Nodup.length_le_of_subset nd2 sub2
    rw [List.length_cons] at l2
    omega
theorem Gr.few (g : Gr rows u t ks) (h : InRange rows) (hu : 0 ≤ u ∧ u < (rows.length : Int)) : ks.length ≤ rows.length := few_below g.nd fun k hk => (g.re k hk).range h hu
theorem Gm.few (g : Gm rows u S Pe ks) (h : InRange rows) (hu : 0 ≤ u ∧ u < (rows.length : Int)) : ks.length ≤ rows.length := few_below g.nd fun k hk => (g.re k hk).range h hu
theorem Gr.all (g : Gr rows u rows.length ks) (h : InRange rows) (hu : 0 ≤ u ∧ u < (rows.length : Int)) (k : Int) : k ∈ ks ↔ Reach rows u k := by
  have c : Closed rows ks := by
    rcases g.gr with y | y
    · exact y
    · have := g.few h hu
      omega
  refine ⟨g.re k, fun r => ?_⟩
  induction r with
  | refl => exact g.me
  | step _ hw ih => exact c _ ih _ hw
end
/-- a dict of these keys, each True -/
def encS (ks : List Int) : List (Key × V) := ks.map fun k => (Sum.inl k, V.bl true)
/-- R is a new list of new dicts of these keys -/
structure Nets (H0 H : Hp) (R : Addr) (ds : List Addr) (kss : List (List Int)) : Prop where
  sm : Same H0 H
  nR : H0 R = none
  hR : H R = some (.lst (ds.map V.ref))
  len : ds.length = kss.length
  nd : ds.Nodup
  new : ∀ d ∈ ds, H0 d = none
  it : ∀ (i : Nat) (d : Addr) (ks : List Int), ds[i]? = some d → kss[i]? = some ks → H d = some (.dK (encS ks))
section
variable {H0 H H' : Hp} {R : Addr} {ds : List Addr} {kss : List (List Int)}
theorem Nets.same (k : Nets H0 H R ds kss) (s : Same H H') : Nets H0 H' R ds kss := ⟨k.sm.trans s, k.nR, s _ _ k.hR, k.len, k.nd, k.new, fun i d ks e1 e2 => s _ _ (k.it i d ks e1 e2)⟩
theorem Nets.put (k : Nets H0 H R ds kss) {i : Nat} {d : Addr} (hd : ds[i]? = some d) (ks' : List Int) : Nets H0 (upd H d (.dK (encS ks'))) R ds (kss.set i ks') := by
  have hi := (List.getElem?_eq_some_iff.mp hd).1
  have hk : kss[i]? = some (kss[i]'(by have := k.len; omega)) := List.getElem?_eq_getElem (by have := k.len; omega)
  have nRd : R ≠ d := fun z => by
    have h := k.it i d _ hd hk
    rw [← z, k.hR] at h
    cases h
  refine ⟨same_mut k.sm (k.new d (List.mem_of_getElem? hd)), k.nR, by rw [upd_ne nRd]; exact k.hR, by rw [List.length_set]; exact k.len, k.nd, k.new, fun j d' ks e1 e2 => ?_⟩
  rw [List.getElem?_set] at e2
  split at e2
  · rename_i e
    subst e
    obtain rfl := Option.some.inj (hd.symm.trans e1)
    split at e2
    · rw [← Option.some.inj e2]
      exact upd_same
    · cases e2
  · rename_i e
    have ne : d' ≠ d := fun z => by
      subst z
      obtain ⟨h1, z1⟩ := List.getElem?_eq_some_iff.mp hd
      obtain ⟨h2, z2⟩ := List.getElem?_eq_some_iff.mp e1
      rcases Nat.lt_trichotomy i j with y | y | y
      · exact List.pairwise_iff_getElem.mp k.nd i j h1 h2 y (z1.trans z2.symm)
      · exact e y
      · exact List.pairwise_iff_getElem.mp k.nd j i h2 h1 y (z2.trans z1.symm)
    rw [upd_ne ne]
    exact k.it j d' ks e1 e2
end
end Hn

set_option maxHeartbeats 4000000
/-! standings and deeds -/
namespace Pl
open PySem PySem.Spec PyProof.Rows L2 Hn
inductive Deed where
  | sh (u v w : Nat) | gi (u v w : Nat) | tu (u w : Nat) | co (v w : Nat)
def pr (a b : Nat) : List Int := [(a : Int), (b : Int)]
structure Sd (n : Nat) (W L : List (List Int)) : Prop where
  web : IsWeb W
  len : W.length = n
  lok : ∀ x ∈ L, ∃ a b : Nat, a < n ∧ b < n ∧ a ≠ b ∧ x = pr a b
  up : L.Pairwise (· < ·)
def can (W L : List (List Int)) : Deed → Prop
  | .sh u v w => u < W.length ∧ (v : Int) ∈ rowAt W (u : Nat) ∧ v ≠ w ∧ (w = u ∨ (w : Int) ∈ rowAt W (u : Nat))
  | .gi u v w => u < W.length ∧ (v : Int) ∈ rowAt W (u : Nat) ∧ v ≠ w ∧ (w : Int) ∈ rowAt W (u : Nat)
  | .tu u w => u < W.length ∧ (w : Int) ∈ rowAt W (u : Nat)
  | .co v w => pr v w ∈ L
def isTu : Deed → Bool
  | .tu _ _ => true
  | _ => false
def insR (L : List (List Int)) (x : List Int) : List (List Int) := sortRs (L ++ [x])
def woC (W : List (List Int)) (u w : Nat) : List (List Int) := W.set u ((rowAt W (u : Nat)).filter fun y => decide (y ≠ (w : Int)))
def aftW (W : List (List Int)) : Deed → List (List Int)
  | .sh _ _ _ => W
  | .gi u _ w => woC W u w
  | .tu u w => woC W u w
  | .co v w => withC W (v : Nat) (w : Nat)
def aftL (L : List (List Int)) : Deed → List (List Int)
  | .sh _ v w => insR L (pr v w)
  | .gi _ v w => insR L (pr v w)
  | .tu u w => insR L (pr w u)
  | .co v w => L.filter fun x => decide (x ≠ pr v w)
theorem sortRs_up (L : List (List Int)) : (sortRs L).Pairwise (· < ·) := (sortRs_pw L).imp₂ (fun a b h1 h2 => by
  by_cases e : a < b
  · exact e
  · exact absurd (row_tri e h1) h2) (sortRs_nodup L)
theorem ins_mem {L : List (List Int)} {x y : List Int} : y ∈ insR L x ↔ y ∈ L ∨ y = x := by
  unfold insR
  rw [sortRs_mem, List.mem_append, List.mem_singleton]
theorem ins_up {L : List (List Int)} {x : List Int} : (insR L x).Pairwise (· < ·) := sortRs_up _
@[simp] theorem woC_len {W : List (List Int)} {u w : Nat} : (woC W u w).length = W.length := List.length_set ..
theorem woC_mem {W : List (List Int)} {u w x : Nat} {y : Int} (hu : u < W.length) (hx : x < W.length) : y ∈ rowAt (woC W u w) (x : Nat) ↔ y ∈ rowAt W (x : Nat) ∧ ¬ (x = u ∧ y = (w : Int)) := by
  rw [rowAt_nat (by rw [woC_len]; exact hx)]
  unfold woC
  rw [List.getElem_set]
  by_cases e : u = x
  · subst e
    rw [if_pos rfl, List.mem_filter, decide_eq_true_iff]
    exact ⟨fun h => ⟨h.1, fun z => h.2 z.2⟩, fun h => ⟨h.1, fun z => h.2 ⟨rfl, z⟩⟩⟩
  · rw [if_neg e, rowAt_nat hx]
    exact ⟨fun h => ⟨h, fun z => e z.1.symm⟩, fun h => h.1⟩
theorem woC_web {W : List (List Int)} {u w : Nat} (h : IsWeb W) (hu : u < W.length) : IsWeb (woC W u w) := by
  refine ⟨by rw [woC_len]; exact h.pos, by rw [woC_len]; exact h.few, fun x hx => ?_, fun x hx y hy => ?_⟩
  · rw [woC_len] at hx
    rw [rowAt_nat (by rw [woC_len]; exact hx)]
    unfold woC
    rw [List.getElem_set]
    split
    · exact List.Pairwise.filter _ (h.up u hu)
    · have := h.up x hx
      rw [rowAt_nat hx] at this
      exact this
  · rw [woC_len] at hx ⊢
    exact h.rng x hx y ((woC_mem hu hx).mp hy).1
theorem Sd.mem {n : Nat} {W L : List (List Int)} (s : Sd n W L) {a b : Nat} (h : pr a b ∈ L) : a < n ∧ b < n ∧ a ≠ b := by
  obtain ⟨c, d, h1, h2, h3, e⟩ := s.lok _ h
  unfold pr at e
  simp only [List.cons.injEq, and_true] at e
  omega
theorem Sd.card {n : Nat} {W L : List (List Int)} (s : Sd n W L) {u w : Nat} (hu : u < n) (h : (w : Int) ∈ rowAt W (u : Nat)) : w < n ∧ w ≠ u := by
  have := s.web.rng u (by rw [s.len]; exact hu) _ h
  rw [s.len] at this
  omega
theorem Sd.can_rng {n : Nat} {W L : List (List Int)} (s : Sd n W L) {d : Deed} (h : can W L d) : match d with
    | .sh u v w => u < n ∧ v < n ∧ w < n ∧ v ≠ w ∧ v ≠ u
    | .gi u v w => u < n ∧ v < n ∧ w < n ∧ v ≠ w ∧ v ≠ u ∧ w ≠ u
    | .tu u w => u < n ∧ w < n ∧ w ≠ u
    | .co v w => v < n ∧ w < n ∧ v ≠ w := by
  have hl := s.len
  cases d with
  | sh u v w =>
    obtain ⟨h1, h2, h3, h4⟩ := h
    have c := s.card (by omega) h2
    rcases h4 with rfl | h4
    · exact ⟨by omega, c.1, by omega, h3, c.2⟩
    · have c2 := s.card (by omega) h4
      exact ⟨by omega, c.1, c2.1, h3, c.2⟩
  | gi u v w =>
    obtain ⟨h1, h2, h3, h4⟩ := h
    have c := s.card (by omega) h2
    have c2 := s.card (by omega) h4
    exact ⟨by omega, c.1, c2.1, h3, c.2, c2.2⟩
  | tu u w =>
    obtain ⟨h1, h2⟩ := h
    have c := s.card (by omega) h2
    exact ⟨by omega, c.1, c.2⟩
  | co v w => exact s.mem h
theorem lets_ins {n : Nat} {L : List (List Int)} (h : ∀ x ∈ L, ∃ a b : Nat, a < n ∧ b < n ∧ a ≠ b ∧ x = pr a b) {a b : Nat} (ha : a < n) (hb : b < n) (ne : a ≠ b) : ∀ x ∈ insR L (pr a b), ∃ a b : Nat, a < n ∧ b < n ∧ a ≠ b ∧ x = pr a b := fun x hx => by
  rcases ins_mem.mp hx with z | z
  · exact h x z
  · exact ⟨a, b, ha, hb, ne, z⟩
theorem Sd.aft {n : Nat} {W L : List (List Int)} (s : Sd n W L) {d : Deed} (h : can W L d) : Sd n (aftW W d) (aftL L d) := by
  have r := s.can_rng h
  have hl := s.len
  cases d with
  | sh u v w => exact ⟨s.web, s.len, lets_ins s.lok r.2.1 r.2.2.1 r.2.2.2.1, ins_up⟩
  | gi u v w => exact ⟨woC_web s.web (by omega), by show (woC W u w).length = n; rw [woC_len]; exact s.len, lets_ins s.lok r.2.1 r.2.2.1 r.2.2.2.1, ins_up⟩
  | tu u w => exact ⟨woC_web s.web (by omega), by show (woC W u w).length = n; rw [woC_len]; exact s.len, lets_ins s.lok r.2.1 r.1 r.2.2, ins_up⟩
  | co v w => exact ⟨s.web.withC (by omega) (by omega) (by omega), by show (withC W v w).length = n; rw [withC_len]; exact s.len, fun x hx => s.lok x (List.mem_filter.mp hx).1, List.Pairwise.filter _ s.up⟩
/-- a row of deeds, each of which can be done -/
inductive Runs (tn : Bool) : List (List Int) → List (List Int) → List Deed → List (List Int) → List (List Int) → Prop
  | nil {W L : List (List Int)} : Runs tn W L [] W L
  | cons {W L W' L' : List (List Int)} {d : Deed} {ds : List Deed} : can W L d → (isTu d = true → tn = true) → Runs tn (aftW W d) (aftL L d) ds W' L' → Runs tn W L (d :: ds) W' L'
theorem Runs.trans {tn : Bool} {W L W1 L1 W2 L2 : List (List Int)} {ds es : List Deed} (a : Runs tn W L ds W1 L1) (b : Runs tn W1 L1 es W2 L2) : Runs tn W L (ds ++ es) W2 L2 := by
  induction a with
  | nil => exact b
  | cons h t _ ih => exact .cons h t (ih b)
theorem Runs.sd {tn : Bool} {n : Nat} {W L W1 L1 : List (List Int)} {ds : List Deed} (a : Runs tn W L ds W1 L1) (s : Sd n W L) : Sd n W1 L1 := by
  induction a with
  | nil => exact s
  | cons h _ _ ih => exact ih (s.aft h)
/-- the web with all letters come -/
def unOf (W L : List (List Int)) : List (List Int) := (List.range W.length).map fun (u : Nat) => ((List.range W.length).filter fun (w : Nat) => decide ((w : Int) ∈ rowAt W (u : Nat) ∨ pr u w ∈ L)).map fun (w : Nat) => (w : Int)
@[simp] theorem unOf_len {W L : List (List Int)} : (unOf W L).length = W.length := by unfold unOf; rw [List.length_map, List.length_range]
end Pl

namespace Pl
open PySem PySem.Spec PyProof.Rows L2 Hn
local macro_rules | `(tactic| walk_at "sto") => `(tactic| first | assumption | with_reducible exact g_last | ((with_reducible refine g_set ?_); walk_at "sto") | (with_reducible refine g_ne ?_ ?_ <;> first | omega | walk_at "sto") | (with_reducible refine g_app ?_; walk_at "sto"))
local macro_rules | `(tactic| walk_at "len") => `(tactic| first | (refine lim_of ?_; (try simp only [List.length_append, List.length_map, List.length_cons, List.length_nil, List.length_replicate, List.length_range, rowsL_len]); omega) | omega)
local macro_rules | `(tactic| walk_at "stm") => `(tactic| first
  | with_reducible refine w_seq ?_
  | with_reducible refine w_set ?_
  | with_reducible refine w_if ?_
  | with_reducible refine w_for ?_
  | with_reducible refine w_expr ?_
  | with_reducible refine w_ret ?_
  | with_reducible refine w_next ?_
  | with_reducible refine w_asg ?_
  | ((with_reducible refine w_aug ?_); refine atV_i ?_)
  | with_reducible refine w_put ?_
  | (with_reducible refine w_par ?_)
  | (with_reducible refine w_par3 ?_)
  | with_reducible refine w_retN ?_
  | with_reducible refine w_brk ?_
  | with_reducible refine w_cont ?_
  | with_reducible refine w_raise0 ?_
  | with_reducible refine w_raise1 ?_)
local macro_rules | `(tactic| walk_at "exp") => `(tactic| first
  | ((with_reducible refine p_v ?_); refine atV_i ?_)
  | with_reducible refine p_c ?_
  | with_reducible refine p_bin ?_
  | with_reducible refine p_call ?_
  | with_reducible refine p_cons ?_
  | with_reducible refine p_nil ?_
  | with_reducible refine p_tst ?_
  | with_reducible refine p_blOf ?_
  | with_reducible refine p_tru ?_
  | with_reducible refine p_it ?_
  | with_reducible refine p_itA ?_
  | with_reducible refine p_and ?_
  | with_reducible refine p_or ?_
  | with_reducible refine p_not ?_
  | with_reducible refine p_andV ?_
  | with_reducible refine p_orV ?_
  | with_reducible refine p_notV ?_
  | with_reducible refine p_un ?_
  | with_reducible refine p_if ?_
  | with_reducible refine p_tup ?_
  | with_reducible refine p_lst ?_
  | with_reducible refine p_lstM ?_
  | with_reducible refine p_star ?_
  | with_reducible refine p_meth ?_
  | with_reducible refine p_meth0 ?_
  | with_reducible refine p_chain ?_
  | with_reducible refine p_sl ?_
  | with_reducible refine p_noPart ?_
  | with_reducible refine p_part ?_
  | with_reducible refine p_intOf ?_
  | with_reducible refine p_comp ?_
  | with_reducible refine p_compM ?_
  | with_reducible refine p_sortset ?_
  | with_reducible refine p_row ?_
  | with_reducible refine p_comp2 ?_
  | with_reducible refine p_comp2M ?_
  | with_reducible refine p_yes ?_
  | with_reducible refine p_val ?_
  | ((with_reducible refine p_rng ?_ ?_); · omega)
  | with_reducible refine p_ok ?_)
local macro_rules | `(tactic| walk_at "lea") => `(tactic| first
  | with_reducible refine l_add ?_
  | with_reducible refine l_iadd ?_
  | ((with_reducible refine gIadd ?_); refine l_iaddO (by walk_at "sto") ?_)
  | with_reducible refine l_sub ?_
  | with_reducible refine l_cmp ?_
  | with_reducible refine l_lt ?_
  | with_reducible refine l_eq ?_
  | with_reducible refine l_ne ?_
  | with_reducible refine l_eqW ?_
  | with_reducible refine l_neW ?_
  | with_reducible refine l_neB ?_
  | with_reducible refine l_eqB ?_
  | with_reducible refine l_neWs ?_
  | with_reducible refine l_eqWs ?_
  | with_reducible refine l_isiB ?_
  | with_reducible refine l_isiL ?_
  | with_reducible refine l_isiT ?_
  | with_reducible refine l_isiI ?_
  | with_reducible refine l_isiIB ?_
  | with_reducible refine l_isBT ?_
  | with_reducible refine l_isBF ?_
  | ((with_reducible refine gSlO ?_); refine l_slO (by walk_at "sto") ?_)
  | with_reducible refine l_slL ?_
  | with_reducible refine l_slT ?_
  | with_reducible refine l_eqR ?_
  | with_reducible refine l_neR ?_
  | with_reducible refine l_isT rfl ?_
  | with_reducible refine l_isF rfl ?_
  | with_reducible refine l_nisT rfl ?_
  | with_reducible refine l_nisF rfl ?_
  | with_reducible refine l_lenW ?_
  | with_reducible refine l_lenR ?_
  | with_reducible refine l_lenT ?_
  | with_reducible refine l_lenL ?_
  | ((with_reducible refine gLenO ?_); refine l_lenO (by walk_at "sto") ?_)
  | with_reducible refine l_inR ?_
  | with_reducible refine l_inRn ?_
  | with_reducible refine l_inL ?_
  | with_reducible refine l_inLn ?_
  | with_reducible refine l_inRs ?_
  | with_reducible refine l_inRsn ?_
  | with_reducible refine l_inW ?_
  | with_reducible refine l_inWn ?_
  | ((with_reducible refine gInO ?_); refine l_inO (by walk_at "sto") ?_)
  | ((with_reducible refine gInOn ?_); refine l_inOn (by walk_at "sto") ?_)
  | ((with_reducible refine gInO ?_); refine l_inRO (by walk_at "sto") ?_)
  | ((with_reducible refine gInOn ?_); refine l_inLsn (by walk_at "sto") ?_)
  | ((with_reducible refine gInOn ?_); refine l_inROn (by walk_at "sto") ?_)
  | ((with_reducible refine l_ixW ?_ ?_ ?_); (· omega); (· omega))
  | with_reducible refine l_ixT ?_
  | with_reducible refine l_ixR ?_
  | with_reducible refine l_inT ?_
  | with_reducible refine l_inTn ?_
  | with_reducible refine l_inI ?_
  | with_reducible refine l_inIn ?_
  | with_reducible refine l_anyF ?_
  | with_reducible refine l_allF ?_
  | with_reducible refine l_sumF ?_
  | with_reducible refine l_ixL ?_
  | ((with_reducible refine gIxO ?_); refine l_ixO (by walk_at "sto") ?_)
  | ((with_reducible refine gApp ?_); refine l_app (by walk_at "sto") ?_)
  | ((with_reducible refine gExt ?_); refine l_ext (by walk_at "sto") ?_)
  | with_reducible refine l_addL ?_
  | with_reducible refine l_addT ?_
  | with_reducible refine l_addW ?_
  | with_reducible refine l_addR ?_
  | with_reducible refine l_tupL ?_
  | ((with_reducible refine gTupO ?_); refine l_tupO (by walk_at "sto") ?_)
  | with_reducible refine l_listS ?_
  | with_reducible refine l_listM ?_
  | with_reducible refine l_srt ?_
  | with_reducible refine l_int ?_
  | with_reducible refine l_intB ?_
  | with_reducible refine l_abs ?_
  | with_reducible refine l_mul ?_
  | with_reducible refine l_mod ?_
  | with_reducible refine l_fdiv ?_
  | with_reducible refine l_all ?_
  | with_reducible refine l_any ?_
  | with_reducible refine l_sum ?_)
local macro_rules | `(tactic| walk_at "oth") => `(tactic| first
  | ((with_reducible refine atE_i ?_); try dsimp only [List.set_cons_succ, List.set_cons_zero, wipeD_cons, wipeD_nil])
  | with_reducible refine i_t ?_
  | with_reducible refine i_f ?_
  | with_reducible refine i_nt ?_
  | with_reducible refine i_nf ?_
  | ((with_reducible refine gd_i ?_ ?_); · walk_at "len")
  | ((with_reducible refine gd_i ?_ ?_); · first | exact Or.inl (by decide) | exact Or.inr (by decide))
  | with_reducible refine s_itRow ?_
  | with_reducible refine s_itWeb ?_
  | ((with_reducible refine gItr ?_); refine s_itr (by walk_at "sto") ?_)
  | ((with_reducible refine gItL ?_); refine s_itL (by walk_at "sto") ?_)
  | ((with_reducible refine gItS ?_); refine s_itS (by walk_at "sto") ?_)
  | ((with_reducible refine gItR ?_); refine s_itR (by walk_at "sto") ?_)
  | ((with_reducible refine gTru ?_); refine s_tru (by walk_at "sto") ?_)
  | ((with_reducible refine s_id ?_); refine som_i ?_; try dsimp only [List.set_cons_succ, List.set_cons_zero]))
local macro_rules | `(tactic| walk_at "go") => `(tactic| repeat (first | ((with_reducible refine gdW ?_); walk_at "stm") | ((with_reducible refine gdP ?_); first | walk_at "exp" | walk_at "lea" | walk_at "lem") | walk_at "oth" | walk_at "lem"))
local macro_rules | `(tactic| walk_at "gos") => `(tactic| repeat (first | ((with_reducible refine gdW ?_); fail_if_success (with_reducible refine isIf ?_); walk_at "stm") | ((with_reducible refine gdP ?_); first | walk_at "exp" | walk_at "lea" | walk_at "lem") | walk_at "oth" | walk_at "lem"))
local macro_rules | `(tactic| walk_at "gop") => `(tactic| repeat (first | ((with_reducible refine gdW ?_); walk_at "stm") | ((with_reducible refine gdP ?_); first | with_reducible refine p_andPV ?_ | with_reducible refine p_orPV ?_ | with_reducible refine p_andPT ?_ | with_reducible refine p_orPT ?_ | walk_at "exp" | walk_at "lea" | walk_at "lem") | with_reducible refine and_rfl ?_ | walk_at "oth" | walk_at "lem"))
set_option maxHeartbeats 4000000
/-! _law_hand, _law_draw: the drawing hand (Pot: the hand at p; g is p again) -/
section
open PySem PySem.Spec PyProof.Rows L2 Hn
def hdC (cs : List Int) (a gr sd ct : Int) : C := .lst [.lst (cs.map D.int), .int a, .int gr, .int sd, .int ct]
structure Pot (st : Sto) (p g : Nat) : Prop where
  eq : g = p
  is : ∃ (cs : List Int) (a gr sd ct : Int), st[p]? = some (hdC cs a gr sd ct) ∧ 0 ≤ a ∧ 0 ≤ gr ∧ (0 ≤ sd ∧ sd < 2147483647) ∧ ∀ x ∈ cs, 0 ≤ x
theorem Pot.lt {st : Sto} {p g : Nat} (h : Pot st p g) : p < st.length ∧ g < st.length := by
  obtain ⟨cs, a, gr, sd, ct, h1, _⟩ := h.is
  have := (List.getElem?_eq_some_iff.mp h1).1
  exact ⟨this, by rw [h.eq]; exact this⟩
/-- all that stood stands, but the hand -/
structure Keep (p g : Nat) (st st' : Sto) : Prop where
  le : st.length ≤ st'.length
  at_ : ∀ i : Nat, i < st.length → i ≠ p → i ≠ g → st'[i]? = st[i]?
theorem Keep.refl {p g : Nat} {st : Sto} : Keep p g st st := ⟨Nat.le_refl _, fun _ _ _ _ => rfl⟩
theorem Keep.trans {p g : Nat} {a b c : Sto} (x : Keep p g a b) (y : Keep p g b c) : Keep p g a c := ⟨Nat.le_trans x.le y.le, fun i h n1 n2 => (y.at_ i (Nat.lt_of_lt_of_le h x.le) n1 n2).trans (x.at_ i h n1 n2)⟩
theorem Keep.app {p g : Nat} {st x : Sto} : Keep p g st (st ++ x) := ⟨by rw [List.length_append]; omega, fun i h _ _ => List.getElem?_append_left h⟩
theorem Pot.app {st x : Sto} {p g : Nat} (h : Pot st p g) : Pot (st ++ x) p g := by
  obtain ⟨l1, _⟩ := h.lt
  obtain ⟨cs, a, gr, sd, ct, h1, r⟩ := h.is
  exact ⟨h.eq, cs, a, gr, sd, ct, by rw [List.getElem?_append_left l1]; exact h1, r⟩
theorem Keep.get {p g : Nat} {st st' : Sto} (k : Keep p g st st') {i : Nat} {c : C} (h : st[i]? = some c) (n1 : i ≠ p) (n2 : i ≠ g) : st'[i]? = some c := by
  rw [k.at_ i (List.getElem?_eq_some_iff.mp h).1 n1 n2]
  exact h
theorem get_set_ne {st : Sto} {i j : Nat} {c : C} (h : i ≠ j) : (st.set i c)[j]? = st[j]? := List.getElem?_set_ne h
theorem get_set_eq {st : Sto} {i : Nat} {c c' : C} (h : st[i]? = some c') : (st.set i c)[i]? = some c := List.getElem?_set_self (List.getElem?_eq_some_iff.mp h).1
theorem Keep.set {p g : Nat} {st st' : Sto} (k : Keep p g st st') {i : Nat} {c : C} (h : i = p ∨ i = g) : Keep p g st (st'.set i c) := ⟨by rw [List.length_set]; exact k.le, fun j hj n1 n2 => by
  rw [get_set_ne (fun e => by rcases h with h | h <;> omega)]
  exact k.at_ j hj n1 n2⟩
theorem gc_keep {p g : Nat} {st st' : Sto} {d : D} (hp : Pot st p g) (k : Keep p g st st') (h : Pot st' p g) : ∃ st2, gc st (.ok d st') = .ok d st2 ∧ Keep p g st st2 ∧ Pot st2 p g := by
  unfold gc
  simp only
  split
  · refine ⟨_, rfl, ⟨by rw [List.length_take]; have := k.le; omega, fun i hi n1 n2 => ?_⟩, h.eq, ?_⟩
    · rw [List.getElem?_take, if_pos hi]
      exact k.at_ i hi n1 n2
    · obtain ⟨l1, l2⟩ := hp.lt
      obtain ⟨cs, a, gr, sd, ct, h1, r⟩ := h.is
      exact ⟨cs, a, gr, sd, ct, by rw [List.getElem?_take, if_pos l1]; exact h1, r⟩
  · exact ⟨st', rfl, k, h⟩
theorem def_keep {k n : Nat} {m : Env → Sto → O} {ds : List D} {st : Sto} {p g : Nat} {P : D → Prop} (hp : Pot st p g) (h : ds.length = k) (e : (m (ds.map some ++ List.replicate (n - k) none) st).wp { nx := fun _ s => Keep p g st s ∧ Pot s p g ∧ P .non, rt := fun d s => Keep p g st s ∧ Pot s p g ∧ P d }) :
    ∃ d st', mDef k n m ds st = .ok d st' ∧ Keep p g st st' ∧ Pot st' p g ∧ P d := by
  rw [mDef_eq h]
  revert e
  cases m (ds.map some ++ List.replicate (n - k) none) st with
  | nx ρ s => rintro ⟨h1, h2, h3⟩; obtain ⟨st2, e, r1, r2⟩ := gc_keep (d := .non) hp h1 h2; exact ⟨_, _, e, r1, r2, h3⟩
  | rt d s => rintro ⟨h1, h2, h3⟩; obtain ⟨st2, e, r1, r2⟩ := gc_keep (d := d) hp h1 h2; exact ⟨_, _, e, r1, r2, h3⟩
  | er x ρ s => exact fun z => z.elim
  | bk => exact fun z => z.elim
  | ct => exact fun z => z.elim
  | no => exact fun z => z.elim
theorem Keep.setN {p g : Nat} {st s : Sto} {b : Nat} {c : C} (k : Keep p g st s) (h : st.length ≤ b) : Keep p g st (s.set b c) := ⟨by rw [List.length_set]; exact k.le, fun i hi n1 n2 => by
  rw [get_set_ne (by omega)]
  exact k.at_ i hi n1 n2⟩
theorem Pot.setN {p g : Nat} {s : Sto} {b : Nat} {c : C} (k : Pot s p g) (h1 : b ≠ p) (h2 : b ≠ g) : Pot (s.set b c) p g := by
  obtain ⟨cs, a, gr, sd, ct, e1, r⟩ := k.is
  exact ⟨k.eq, cs, a, gr, sd, ct, by rw [get_set_ne h1]; exact e1, r⟩
theorem putL_at {st : Sto} {n : Nat} {xs : List D} {i : Int} {j : Nat} {d : D} (h : st[n]? = some (.lst xs)) (e : ixN xs.length i = some j) : putD (.loc n) (.int i) d st = some (st.set n (.lst (xs.set j d))) := by
  unfold putD
  simp only [h, e]
section
variable {st : Sto} {p : Nat} {cs : List Int} {a gr sd ct : Int} {P : D → Sto → Prop} {F : Sto → Prop} {B : Er → Sto → Prop}
theorem h_ix0 (q : st[p]? = some (hdC cs a gr sd ct)) (h : P (.lst (cs.map D.int)) st) : (ixD (.loc p) (.int 0) st).post P B := l_ixO q (som_e rfl h)
theorem h_ix1 (q : st[p]? = some (hdC cs a gr sd ct)) (h : P (.int a) st) : (ixD (.loc p) (.int 1) st).post P B := l_ixO q (som_e rfl h)
theorem h_ix2 (q : st[p]? = some (hdC cs a gr sd ct)) (h : P (.int gr) st) : (ixD (.loc p) (.int 2) st).post P B := l_ixO q (som_e rfl h)
theorem h_ix3 (q : st[p]? = some (hdC cs a gr sd ct)) (h : P (.int sd) st) : (ixD (.loc p) (.int 3) st).post P B := l_ixO q (som_e rfl h)
theorem h_ix4 (q : st[p]? = some (hdC cs a gr sd ct)) (h : P (.int ct) st) : (ixD (.loc p) (.int 4) st).post P B := l_ixO q (som_e rfl h)
theorem h_put1 {v : Int} (q : st[p]? = some (hdC cs a gr sd ct)) (h : F (st.set p (hdC cs v gr sd ct))) : Som (putD (.loc p) (.int 1) (.int v) st) F := som_e (putL_at q rfl) h
theorem h_put2 {v : Int} (q : st[p]? = some (hdC cs a gr sd ct)) (h : F (st.set p (hdC cs a v sd ct))) : Som (putD (.loc p) (.int 2) (.int v) st) F := som_e (putL_at q rfl) h
theorem h_put3 {v : Int} (q : st[p]? = some (hdC cs a gr sd ct)) (h : F (st.set p (hdC cs a gr v ct))) : Som (putD (.loc p) (.int 3) (.int v) st) F := som_e (putL_at q rfl) h
theorem h_put4 {v : Int} (q : st[p]? = some (hdC cs a gr sd ct)) (h : F (st.set p (hdC cs a gr sd v))) : Som (putD (.loc p) (.int 4) (.int v) st) F := som_e (putL_at q rfl) h
theorem h_get {c c' : C} (q : st[p]? = some c) : (List.set st p c')[p]? = some c' := get_set_eq q
theorem set_set {c c' : C} : (List.set st p c).set p c' = List.set st p c' := List.set_set ..
theorem h_ix0s {c : C} (q : st[p]? = some c) (h : P (.lst (cs.map D.int)) (List.set st p (hdC cs a gr sd ct))) : (ixD (.loc p) (.int 0) (List.set st p (hdC cs a gr sd ct))).post P B := h_ix0 (h_get q) h
theorem h_ix1s {c : C} (q : st[p]? = some c) (h : P (.int a) (List.set st p (hdC cs a gr sd ct))) : (ixD (.loc p) (.int 1) (List.set st p (hdC cs a gr sd ct))).post P B := h_ix1 (h_get q) h
theorem h_ix2s {c : C} (q : st[p]? = some c) (h : P (.int gr) (List.set st p (hdC cs a gr sd ct))) : (ixD (.loc p) (.int 2) (List.set st p (hdC cs a gr sd ct))).post P B := h_ix2 (h_get q) h
theorem h_ix3s {c : C} (q : st[p]? = some c) (h : P (.int sd) (List.set st p (hdC cs a gr sd ct))) : (ixD (.loc p) (.int 3) (List.set st p (hdC cs a gr sd ct))).post P B := h_ix3 (h_get q) h
theorem h_ix4s {c : C} (q : st[p]? = some c) (h : P (.int ct) (List.set st p (hdC cs a gr sd ct))) : (ixD (.loc p) (.int 4) (List.set st p (hdC cs a gr sd ct))).post P B := h_ix4 (h_get q) h
theorem h_put1s {c : C} {v : Int} (q : st[p]? = some c) (h : F (List.set st p (hdC cs v gr sd ct))) : Som (putD (.loc p) (.int 1) (.int v) (List.set st p (hdC cs a gr sd ct))) F := h_put1 (h_get q) (by rw [set_set]; exact h)
theorem h_put2s {c : C} {v : Int} (q : st[p]? = some c) (h : F (List.set st p (hdC cs a v sd ct))) : Som (putD (.loc p) (.int 2) (.int v) (List.set st p (hdC cs a gr sd ct))) F := h_put2 (h_get q) (by rw [set_set]; exact h)
theorem h_put3s {c : C} {v : Int} (q : st[p]? = some c) (h : F (List.set st p (hdC cs a gr v ct))) : Som (putD (.loc p) (.int 3) (.int v) (List.set st p (hdC cs a gr sd ct))) F := h_put3 (h_get q) (by rw [set_set]; exact h)
theorem h_put4s {c : C} {v : Int} (q : st[p]? = some c) (h : F (List.set st p (hdC cs a gr sd v))) : Som (putD (.loc p) (.int 4) (.int v) (List.set st p (hdC cs a gr sd ct))) F := h_put4 (h_get q) (by rw [set_set]; exact h)
end
local macro_rules | `(tactic| walk_at "lem") => `(tactic| first
  | with_reducible refine h_ix0s (by assumption) ?_
  | with_reducible refine h_ix1s (by assumption) ?_
  | with_reducible refine h_ix2s (by assumption) ?_
  | with_reducible refine h_ix3s (by assumption) ?_
  | with_reducible refine h_ix4s (by assumption) ?_
  | with_reducible refine h_put1s (by assumption) ?_
  | with_reducible refine h_put2s (by assumption) ?_
  | with_reducible refine h_put3s (by assumption) ?_
  | with_reducible refine h_put4s (by assumption) ?_
  | with_reducible refine h_ix0 (by assumption) ?_
  | with_reducible refine h_ix1 (by assumption) ?_
  | with_reducible refine h_ix2 (by assumption) ?_
  | with_reducible refine h_ix3 (by assumption) ?_
  | with_reducible refine h_ix4 (by assumption) ?_
  | with_reducible refine h_put1 (by assumption) ?_
  | with_reducible refine h_put2 (by assumption) ?_
  | with_reducible refine h_put3 (by assumption) ?_
  | with_reducible refine h_put4 (by assumption) ?_)
theorem S_draw {st : Sto} {p g : Nat} {m : Int} (hp : Pot st p g) (h0 : 0 < m) (h1 : m < 1073741824) : ∃ d st', M__law_draw [.loc p, .int m] st = .ok d st' ∧ Keep p g st st' ∧ Pot st' p g ∧ ∃ r : Int, d = .int r ∧ 0 ≤ r ∧ r < m := by
  unfold M__law_draw
  refine def_keep hp rfl ?_
  obtain ⟨rfl, cs, a, gr, sd, ct, hP, ha, hg, hs, hc⟩ := hp
  show (mSeq _ _ [some (.loc g), some (.int m), none, none, none] st).wp ⟨_, _, _, _, _⟩
  have mk : ∀ {i j : Int}, (-b64 < j ∧ j < b64) → mulOk i j := fun h => .inr h
  have mk2 : ∀ {i j : Int}, (-b64 < i ∧ i < b64) → mulOk i j := fun h => .inl h
  have big : ∀ {n : Int}, 0 ≤ n → n < 2147483647 → -b64 < n ∧ n < b64 := fun h1 h2 => ⟨Int.lt_of_lt_of_le (by decide) h1, Int.lt_trans h2 (by decide)⟩
  refine w_cut (fun ρ s => ∃ x2 a gr sd, ρ = [some (.loc g), some (.int m), x2, none, none] ∧ s = st.set g (hdC cs a gr sd ct) ∧ 0 ≤ a ∧ 0 ≤ gr ∧ 0 ≤ sd ∧ sd < 2147483647) ?_ ?_
  · have same : st = st.set g (hdC cs a gr sd ct) := by
      obtain ⟨hl, e⟩ := List.getElem?_eq_some_iff.mp hP
      rw [← e, List.set_getElem_self]
    have stay : ∃ x2 a' gr' sd', ([some (.loc g), some (.int m), none, none, none] : Env) = [some (.loc g), some (.int m), x2, none, none] ∧ st = st.set g (hdC cs a' gr' sd' ct) ∧ 0 ≤ a' ∧ 0 ≤ gr' ∧ 0 ≤ sd' ∧ sd' < 2147483647 := ⟨_, a, gr, sd, rfl, same, ha, hg, hs.1, hs.2⟩
    walk_at "go"
    refine i_d (fun z => ?_) (fun z => ?_)
    · walk_at "go"
      refine i_d (fun y => ?_) (fun y => ?_)
      · rw [List.length_map] at y
        obtain ⟨c, e1, e2⟩ := atI_in ha y
        have c0 := hc c (List.mem_of_getElem? e2)
        have at_ : atI (cs.map D.int) a = some (.int c) := by rw [atI_map, e1]; rfl
        walk_at "go"
        refine som_e at_ ?_
        walk_at "go"
        have m1 : 0 ≤ (sd * 69621 + c + 11) % 2147483629 ∧ (sd * 69621 + c + 11) % 2147483629 < 2147483647 := ⟨Int.emod_nonneg _ (by decide), Int.lt_trans (Int.emod_lt_of_pos _ (by decide)) (by decide)⟩
        generalize (sd * 69621 + c + 11) % 2147483629 = sd2 at *
        refine pe (show powD (.int 10) (.int 18) _ = .ok (.int ((10 : Int) ^ (18 : Int).toNat)) _ from guardR_pos (by decide)) ?_
        generalize (10 : Int) ^ (18 : Int).toNat = T
        walk_at "go"
        refine i_d (fun _ => ?_) (fun _ => ?_)
        · walk_at "go"
          exact ⟨_, a + 1, c, sd2, rfl, rfl, by omega, c0, m1.1, m1.2⟩
        · walk_at "go"
          exact ⟨_, a + 1, gr, sd2, rfl, rfl, by omega, hg, m1.1, m1.2⟩
      · walk_at "go"
        exact stay
    · walk_at "go"
      exact stay
  · rintro ρ s ⟨x2, a, gr, sd, rfl, rfl, ha, hg, hs0, hs1⟩
    have q : (st.set g (hdC cs a gr sd ct))[g]? = some (hdC cs a gr sd ct) := get_set_eq hP
    have K1 : ∀ c : C, Keep g g st (st.set g c) := fun c => Keep.refl.set (.inl rfl)
    walk_at "go"
    refine i_d (fun z => ?_) (fun z => ?_)
    · walk_at "go"
      exact ⟨K1 _, ⟨rfl, cs, a, gr / m, sd, ct, get_set_eq hP, ha, Int.ediv_nonneg hg (by omega), ⟨hs0, hs1⟩, hc⟩, _, rfl, Int.emod_nonneg _ (by omega), Int.emod_lt_of_pos _ h0⟩
    · walk_at "go"
      have r1 : 0 ≤ (sd + 7919 * (ct + 1)) * 48271 % 2147483647 ∧ (sd + 7919 * (ct + 1)) * 48271 % 2147483647 < 2147483647 := ⟨Int.emod_nonneg _ (by decide), Int.emod_lt_of_pos _ (by decide)⟩
      generalize (sd + 7919 * (ct + 1)) * 48271 % 2147483647 = n1 at *
      refine gd_i (mk2 (big r1.1 r1.2)) ?_
      walk_at "go"
      have r2 : 0 ≤ n1 * (n1 / 1009 + 69621) % 2147483647 ∧ n1 * (n1 / 1009 + 69621) % 2147483647 < 2147483647 := ⟨Int.emod_nonneg _ (by decide), Int.emod_lt_of_pos _ (by decide)⟩
      generalize n1 * (n1 / 1009 + 69621) % 2147483647 = n2 at *
      refine gd_i (mk2 (big r2.1 r2.2)) ?_
      walk_at "go"
      exact ⟨K1 _, ⟨rfl, cs, a, gr, sd, ct + 1, get_set_eq hP, ha, hg, ⟨hs0, hs1⟩, hc⟩, _, rfl, Int.emod_nonneg _ (by omega), Int.emod_lt_of_pos _ h0⟩
theorem S_hand {ns : List Int} (hl : ns.length ≤ 63) : ∃ st p g, M__law_hand [.rol (ns.map D.int)] [] = .ok (.loc p) st ∧ Pot st p g := by
  have key : ∃ b x, M__law_hand [.rol (ns.map D.int)] [] = .ok (.loc b) ([] ++ x) ∧ ([] : Sto).length ≤ b ∧ Pot ([] ++ x) b b := by
    unfold M__law_hand
    refine loc_def (P := fun b s => Pot s b b) rfl ?_
    show (mSeq _ _ [some (.rol (ns.map D.int)), none, none] []).wp ⟨_, _, _, _, _⟩
    walk_at "go"
    have cut : cutD (ns.map D.int) none (some 63) = ns.map D.int := by
      unfold cutD
      rw [HT.sIx_none, show (63 : Int) = ((63 : Nat) : Int) from rfl, HT.sIx_nat, List.drop_zero, Nat.sub_zero]
      exact List.take_of_length_le (by rw [List.length_map]; omega)
    refine pe ((show slD (.rol (ns.map D.int)) none (some 63) [] = .ok (.lst (ns.map D.int)) [] from by rw [slD_rol, cut])) ?_
    walk_at "go"
    refine p_mapP (it := ⟨ns.map D.int, none⟩) (enc := D.int) (xs := ns) (fun i => .int (if i < 0 then -i else i)) rfl True.intro (by omega) (fun i hi => ?_) ?_
    · refine som_e rfl ?_
      walk_at "go"
      exact ⟨rfl, rfl⟩
    · walk_at "go"
      refine ⟨0, _, rfl, Nat.le_refl _, rfl, rfl, ns.map (fun i => if i < 0 then -i else i), 0, 0, 1 + (ns.length : Nat), 0, ?_, Int.le_refl _, Int.le_refl _, ⟨?_, ?_⟩, fun x hx => ?_⟩
      · show some _ = some _
        unfold hdC
        rw [List.map_map, List.length_map]
        rfl
      · omega
      · omega
      · obtain ⟨i, _, rfl⟩ := List.mem_map.mp hx
        split <;> omega
  obtain ⟨b, x, e, _, h⟩ := key
  exact ⟨_, b, b, e, h⟩
end

section

end
section

end
/-! steps_from, found_from, all_found -/
section
open PySem PySem.Spec PyProof.Rows L2 Hn
/-- what is walked in a turn -/
def LastOk (st junk : Sto) (d : D) (l : List Int) : Prop := ∃ it, it.items = l.map D.int ∧ ∀ (c : C) (y : Sto), itrOf (st ++ c :: (junk ++ y)) d = some it ∧ it.stay (st ++ c :: (junk ++ y)) ∧ truD (st ++ c :: (junk ++ y)) d = some !l.isEmpty
theorem LastOk.lst {st junk : Sto} {l : List Int} : LastOk st junk (.lst (l.map D.int)) l := ⟨⟨l.map D.int, none⟩, rfl, fun c y => ⟨rfl, True.intro, by show some _ = _; rw [map_emp]⟩⟩
theorem LastOk.loc {st junk : Sto} {l : List Int} : LastOk st (junk ++ [.lst (l.map D.int)]) (.loc (st.length + 1 + junk.length)) l := by
  have e : ∀ (c : C) (y : Sto), (st ++ c :: (junk ++ [.lst (l.map D.int)] ++ y))[st.length + 1 + junk.length]? = some (.lst (l.map D.int)) := fun c y => by
    have := get_mid (st ++ c :: junk) y (.lst (l.map D.int))
    rw [show (st ++ c :: junk).length = st.length + 1 + junk.length by simp; omega] at this
    rw [← this]
    simp
  refine ⟨⟨l.map D.int, some (_, l.map D.int)⟩, rfl, fun c y => ⟨itrOf_loc (e c y), e c y, ?_⟩⟩
  simp only [truD, e]
  rw [map_emp]
theorem S_steps {rows : List (List Int)} {pk : D} {u : Int} {st : Sto} (hp : Pk st pk rows) (hin : InRange rows) (hu : 0 ≤ u ∧ u < (rows.length : Int)) (hl : rows.length ≤ 1000) :
    ∃ kvs junk, M_steps_from [pk, .int u] st = .ok (.loc st.length) (st ++ .dct (encD kvs) :: junk) ∧ Dists rows u kvs := by
  have key : (toR ((mSeq (mSet 2 (mDispM [((mV 1), (mC (.int 0)))]))
    (mSeq (mSet 3 (mLst (mCons (mV 1) mNil)))
    (mSeq (mWhile (mTru (mV 3)) (mSeq (mSet 4 (mLstM mNil))
    (mSeq (mFor (mIt (mV 3)) (.nm 5) (mFor (mIt (mBin ixD (mV 0) (mV 5))) (.nm 6) (mIfS (mTst (mBin (inD true) (mV 6) (mV 2))) (mSeq (mPut (mV 2) (mV 6) (mBin addD (mBin ixD (mV 2) (mV 5)) (mC (.int 1))))
    (mExpr (mMeth appD (mV 4) (mCons (mV 6) mNil)))) mNext)))
    (mSet 3 (mV 4)))))
    (mRet (mV 2))))) [some pk, some (.int u), none, none, none, none, none] st)).post (fun d st' => ∃ kvs junk, d = .loc st.length ∧ st' = st ++ .dct (encD kvs) :: junk ∧ Dists rows u kvs) (fun _ _ => False) := by
    refine toR_post (wp_seq ?_)
    simp only [mSet, mDispM, mPairs_cons, mPairs_nil, mV, mC, R.ok_bind, List.getElem?_cons_succ, List.getElem?_cons_zero, keyPs, dkey, ofOpt_some, mergeD, List.foldl, List.length_cons, List.length_nil, O.of_ok, wp_nx]
    rw [guardR_pos (by decide)]
    simp only [O.of_ok, wp_nx, List.set]
    refine wp_seq ?_
    simp only [mSet, mLst, mCons, mNil, mV, R.ok_bind, List.getElem?_cons_succ, List.getElem?_cons_zero, List.length_cons, List.length_nil]
    rw [guardR_pos (by decide)]
    simp only [O.of_ok, wp_nx, List.set]
    refine wp_seq ?_
    refine wp_while (fun k ρ st' => ∃ kvs junk last l m x4 x5 x6, ρ = [some pk, some (.int u), some (.loc st.length), some last, x4, x5, x6] ∧ st' = st ++ .dct (encD kvs) :: junk ∧ LastOk st junk last l ∧ Lay rows u kvs l m ∧ k = 2 * (rows.length - kvs.length) + (if l = [] then 0 else 1)) _ ⟨[(u, 0)], [], _, [u], 0, none, none, none, rfl, rfl, LastOk.lst (l := [u]), .start, rfl⟩ ?_
    rintro k ρ st' ⟨kvs, junk, last, l, m, x4, x5, x6, rfl, rfl, lo, lay, rfl⟩
    obtain ⟨it, e1, h1⟩ := lo
    simp only [mTru, mV, R.ok_bind, List.getElem?_cons_succ, List.getElem?_cons_zero]
    have h2 := h1 (.dct (encD kvs)) []
    rw [List.append_nil] at h2
    rw [h2.2.2]
    simp only [ofOpt_some, post_okR]
    cases l with
    | nil =>
      simp only [List.isEmpty_nil, Bool.not_true, Bool.false_eq_true, if_false]
      simp only [mRet, mV, List.getElem?_cons_succ, List.getElem?_cons_zero, O.of_ok, wp_rt]
      exact ⟨kvs, junk, trivial, rfl, lay.dists⟩
    | cons l0 lr =>
      simp only [List.isEmpty_cons, Bool.not_false, if_true]
      generalize hll : l0 :: lr = l at *
      have hne : l ≠ [] := by rw [← hll]; exact List.cons_ne_nil _ _
      refine wp_seq ?_
      simp only [mSet, mLstM, mNil, R.ok_bind, List.length_nil]
      rw [guardR_pos (by decide)]
      simp only [O.of_ok, wp_nx, List.set]
      have hj : (st ++ C.dct (encD kvs) :: junk).length = st.length + 1 + junk.length := by simp; omega
      rw [hj]
      refine wp_seq ?_
      -- the walk over the last layer
      have hmi : mIt (mV 3) [some pk, some (.int u), some (.loc st.length), some last, some (.loc (st.length + 1 + junk.length)), x5, x6] (st ++ C.dct (encD kvs) :: junk ++ [.lst []]) = .ok it (st ++ C.dct (encD kvs) :: junk ++ [.lst []]) := by
        simp only [mIt, mV, R.ok_bind, List.getElem?_cons_succ, List.getElem?_cons_zero]
        have := (h1 (.dct (encD kvs)) [.lst []]).1
        rw [show st ++ C.dct (encD kvs) :: (junk ++ [.lst []]) = st ++ C.dct (encD kvs) :: junk ++ [.lst []] by simp] at this
        rw [this]
        rfl
      have shp : ∀ (kvs' : List (Int × Int)) (f : List Int), st ++ C.dct (encD kvs') :: junk ++ [C.lst (f.map D.int)] = st ++ C.dct (encD kvs') :: (junk ++ [C.lst (f.map D.int)]) := fun _ _ => by simp
      refine wp_for hmi (fun i ρ st' => ∃ kvs' f y5 y6, ρ = [some pk, some (.int u), some (.loc st.length), some last, some (.loc (st.length + 1 + junk.length)), y5, y6] ∧ st' = st ++ C.dct (encD kvs') :: (junk ++ [C.lst (f.map D.int)]) ∧
        Mid rows u l m (fun v w => v ∈ l.take i ∧ w ∈ rowAt rows v) kvs' f ∧ kvs'.length = kvs.length + f.length) ⟨kvs, [], x5, x6, rfl, by simp, ?_, by simp⟩ ?_ ?_
      · have := lay.mid
        exact ⟨this.nd, this.re, this.st, this.low, this.lay, this.fu, this.dn, fun k w p => by rw [List.take_zero] at p; exact absurd p.1 List.not_mem_nil, this.m0⟩
      · rintro i d ρ st2 hd ⟨kvs', f, y5, y6, rfl, rfl, mid, hlen⟩
        rw [e1, List.getElem?_map] at hd
        obtain ⟨v, hv, rfl⟩ := Option.map_eq_some_iff.mp hd
        have hvl : v ∈ l := List.mem_of_getElem? hv
        obtain ⟨dv, hdv⟩ : ∃ d, dist kvs' v = some d := ⟨m, (mid.lay v).mp hvl⟩
        have hdv' : dist kvs' v = some m := (mid.lay v).mp hvl
        have hvr := (mid.re v _ hdv').range hin hu
        refine ⟨(h1 _ _).2.1, _, rfl, ?_⟩
        simp only [List.set]
        obtain ⟨e, it2, e2, h3⟩ := hp.ix v hvr.1 hvr.2
        have hmi2 : mIt (mBin ixD (mV 0) (mV 5)) [some pk, some (.int u), some (.loc st.length), some last, some (.loc (st.length + 1 + junk.length)), some (.int v), y6] (st ++ C.dct (encD kvs') :: (junk ++ [C.lst (f.map D.int)])) = .ok it2 (st ++ C.dct (encD kvs') :: (junk ++ [C.lst (f.map D.int)])) := by
          simp only [mIt, mBin, mV, R.ok_bind, List.getElem?_cons_succ, List.getElem?_cons_zero]
          rw [(h3 _).1]
          simp only [R.ok_bind]
          rw [(h3 _).2.1]
          rfl
        refine wp_for hmi2 (fun j ρ st' => ∃ kvs' f y6, ρ = [some pk, some (.int u), some (.loc st.length), some last, some (.loc (st.length + 1 + junk.length)), some (.int v), y6] ∧ st' = st ++ C.dct (encD kvs') :: (junk ++ [C.lst (f.map D.int)]) ∧
          Mid rows u l m (fun a w => (a ∈ l.take i ∧ w ∈ rowAt rows a) ∨ (a = v ∧ w ∈ (rowAt rows v).take j)) kvs' f ∧ kvs'.length = kvs.length + f.length) ⟨kvs', f, y6, rfl, rfl, ?_, hlen⟩ ?_ ?_
        · exact ⟨mid.nd, mid.re, mid.st, mid.low, mid.lay, mid.fu, mid.dn, fun k w p => by
            rcases p with p | ⟨_, p⟩
            · exact mid.cur k w p
            · rw [List.take_zero] at p; exact absurd p List.not_mem_nil, mid.m0⟩
        · clear hdv' hdv hlen mid
          rintro j d ρ st2 hd ⟨kvs', f, y6, rfl, rfl, mid, hlen⟩
          rw [e2, List.getElem?_map] at hd
          obtain ⟨w, hw, rfl⟩ := Option.map_eq_some_iff.mp hd
          have hwl : w ∈ rowAt rows v := List.mem_of_getElem? hw
          have hst := (h3 (C.dct (encD kvs') :: (junk ++ [C.lst (f.map D.int)]))).2.2
          refine ⟨hst, _, rfl, ?_⟩
          simp only [List.set]
          have hPe : ∀ k x, ((k ∈ l.take i ∧ x ∈ rowAt rows k) ∨ (k = v ∧ x ∈ (rowAt rows v).take (j + 1))) → ((k ∈ l.take i ∧ x ∈ rowAt rows k) ∨ (k = v ∧ x ∈ (rowAt rows v).take j)) ∨ x = w := fun k x p => by
            rcases p with p | ⟨p, q⟩
            · exact .inl (.inl p)
            · rw [List.take_add_one, hw] at q
              rcases List.mem_append.mp q with q | q
              · exact .inl (.inr ⟨p, q⟩)
              · exact .inr (List.mem_singleton.mp q)
          have g1 : (st ++ C.dct (encD kvs') :: (junk ++ [C.lst (f.map D.int)]))[st.length]? = some (.dct (encD kvs')) := get_mid _ _ _
          have i1 : inD true (.int w) (.loc st.length) (st ++ C.dct (encD kvs') :: (junk ++ [C.lst (f.map D.int)])) = .ok (.bl (!(dist kvs' w).isSome)) (st ++ C.dct (encD kvs') :: (junk ++ [C.lst (f.map D.int)])) := by
            simp only [inD, isDct, dlook, g1, dkey, ofOpt_some, encD_get, Option.isSome_map]
            cases (dist kvs' w).isSome <;> rfl
          simp only [mIfS, mTst, mBin, mV, R.ok_bind, List.getElem?_cons_succ, List.getElem?_cons_zero, i1, blOf, O.of_ok]
          cases hd : dist kvs' w with
          | some dw =>
            simp only [Option.isSome_some, Bool.not_true, Bool.false_eq_true, if_false, mNext, wp_nx]
            exact ⟨kvs', f, _, rfl, rfl, mid.skip hd hPe, hlen⟩
          | none =>
            simp only [Option.isSome_none, Bool.not_false, if_true]
            have hdv' : dist kvs' v = some m := (mid.lay v).mp hvl
            have i2 : ixD (.loc st.length) (.int v) (st ++ C.dct (encD kvs') :: (junk ++ [C.lst (f.map D.int)])) = .ok (.int m) (st ++ C.dct (encD kvs') :: (junk ++ [C.lst (f.map D.int)])) := by
              simp only [ixD, isDct, dlook, g1, dkey, ofOpt_some, encD_get, hdv', Option.map_some]
            have few : kvs'.length ≤ lim := by have := mid.few hin hu; unfold lim; omega
            have i3 : putD (.loc st.length) (.int w) (.int (m + 1)) (st ++ C.dct (encD kvs') :: (junk ++ [C.lst (f.map D.int)])) = some (st ++ C.dct (encD (kvs' ++ [(w, m + 1)])) :: (junk ++ [C.lst (f.map D.int)])) := by
              simp only [putD, g1, dkey]
              rw [if_pos (by unfold encD; rw [List.length_map]; exact few), encD_put hd, set_mid]
            have g2 : (st ++ C.dct (encD (kvs' ++ [(w, m + 1)])) :: (junk ++ [C.lst (f.map D.int)]))[st.length + 1 + junk.length]? = some (.lst (f.map D.int)) := by
              have := get_mid (st ++ C.dct (encD (kvs' ++ [(w, m + 1)])) :: junk) [] (.lst (f.map D.int))
              rw [show (st ++ C.dct (encD (kvs' ++ [(w, m + 1)])) :: junk).length = st.length + 1 + junk.length by simp; omega] at this
              rw [← this]
              simp
            have ff : f.length ≤ lim := by omega
            have i4 : appD (.loc (st.length + 1 + junk.length)) [.int w] (st ++ C.dct (encD (kvs' ++ [(w, m + 1)])) :: (junk ++ [C.lst (f.map D.int)])) = .ok .non (st ++ C.dct (encD (kvs' ++ [(w, m + 1)])) :: (junk ++ [C.lst ((f ++ [w]).map D.int)])) := by
              simp only [appD, lstOf_loc g2, ofOpt_some]
              rw [guardR_pos (by rw [List.length_map]; exact ff)]
              have := set_mid (st ++ C.dct (encD (kvs' ++ [(w, m + 1)])) :: junk) [] (.lst (f.map D.int)) (.lst (f.map D.int ++ [.int w]))
              rw [show (st ++ C.dct (encD (kvs' ++ [(w, m + 1)])) :: junk).length = st.length + 1 + junk.length by simp; omega] at this
              congr 1
              rw [show st ++ C.dct (encD (kvs' ++ [(w, m + 1)])) :: (junk ++ [C.lst (f.map D.int)]) = st ++ C.dct (encD (kvs' ++ [(w, m + 1)])) :: junk ++ [C.lst (f.map D.int)] by simp, this]
              simp
            simp only [mSeq, mPut, mBin, mV, mC, R.ok_bind, List.getElem?_cons_succ, List.getElem?_cons_zero, i2, addD_int, O.of_ok, i3, ofOptO_some, mExpr, mMeth, itemsL_loc g2, ofOpt_some, mCons, mNil, i4, wp_nx]
            refine ⟨kvs' ++ [(w, m + 1)], f ++ [w], _, rfl, rfl, mid.add hvl hwl hd hPe, ?_⟩
            rw [List.length_append, List.length_append, hlen]
            simp only [List.length_cons, List.length_nil]
            omega
        · rintro ρ st2 ⟨kvs2, f2, y6', rfl, rfl, mid2, hlen2⟩
          refine ⟨(h3 _).2.2, kvs2, f2, _, _, rfl, rfl, ?_, hlen2⟩
          refine ⟨mid2.nd, mid2.re, mid2.st, mid2.low, mid2.lay, mid2.fu, mid2.dn, fun k w p => mid2.cur k w ?_, mid2.m0⟩
          obtain ⟨p, q⟩ := p
          rw [List.take_add_one, hv] at p
          rcases List.mem_append.mp p with p | p
          · exact .inl ⟨p, q⟩
          · have : k = v := List.mem_singleton.mp p
            subst this
            refine .inr ⟨rfl, ?_⟩
            rw [show it2.items.length = (rowAt rows k).length by rw [e2, List.length_map], List.take_length]
            exact q
      · rintro ρ st2 ⟨kvs2, f2, y5, y6, rfl, rfl, mid2, hlen2⟩
        refine ⟨(h1 _ _).2.1, ?_⟩
        simp only [mSet, mV, List.getElem?_cons_succ, List.getElem?_cons_zero, O.of_ok, wp_nx, List.set]
        have hit : it.items.length = l.length := by rw [e1, List.length_map]
        have few := mid2.few hin hu
        have lp : 0 < l.length := List.length_pos_iff.mpr hne
        refine ⟨2 * (rows.length - kvs2.length) + (if f2 = [] then 0 else 1), ?_, kvs2, junk ++ [C.lst (f2.map D.int)], _, f2, m + 1, _, _, _, rfl, rfl, LastOk.loc, mid2.lay_next fun k hk w hw => ⟨by rw [hit, List.take_length]; exact hk, hw⟩, rfl⟩
        rw [if_neg hne]
        by_cases z : f2 = []
        · rw [if_pos z]
          subst z
          simp at hlen2
          omega
        · rw [if_neg z]
          have : 0 < f2.length := List.length_pos_iff.mpr z
          omega
  obtain ⟨d, st', e, kvs, junk, rfl, rfl, ds⟩ := post_ex key
  refine ⟨kvs, junk, ?_, ds⟩
  unfold M_steps_from
  rw [mDef_eq (k := 2) (ds := [pk, .int u]) rfl]
  show gc st (toR _) = _
  erw [e]
  unfold gc
  simp only
  rw [if_neg]
  intro z
  exact absurd (show st.length < st.length from z.1) (Nat.lt_irrefl _)
end

/-! found_from, all_found -/
section
open PySem PySem.Spec PyProof.Rows L2 Hn
open Classical in
/-- whom u finds, ascending -/
noncomputable def foundOf (rows : List (List Int)) (u : Int) : List Int := ((List.range rows.length).filter fun w => decide (Reach rows u (w : Nat))).map fun (w : Nat) => (w : Int)
noncomputable def findsOf (rows : List (List Int)) : List (List Int) := (List.range rows.length).map fun (u : Nat) => foundOf rows (u : Nat)
theorem foundOf_up {rows : List (List Int)} {u : Int} : (foundOf rows u).Pairwise (· < ·) := by
  unfold foundOf
  rw [List.pairwise_map]
  exact (List.Pairwise.filter _ List.pairwise_lt_range).imp fun h => by exact_mod_cast h
theorem foundOf_mem {rows : List (List Int)} (hin : InRange rows) {u : Int} (hu : 0 ≤ u ∧ u < (rows.length : Int)) (w : Int) : w ∈ foundOf rows u ↔ Reach rows u w := by
  unfold foundOf
  simp only [List.mem_map, List.mem_filter, List.mem_range, decide_eq_true_eq]
  constructor
  · rintro ⟨a, ⟨_, h⟩, rfl⟩
    exact h
  · intro h
    obtain ⟨h1, h2⟩ := h.range hin hu
    refine ⟨w.toNat, ⟨by omega, ?_⟩, by omega⟩
    rw [show ((w.toNat : Nat) : Int) = w by omega]
    exact h
@[simp] theorem findsOf_len {rows : List (List Int)} : (findsOf rows).length = rows.length := by unfold findsOf; rw [List.length_map, List.length_range]
theorem foundOf_uniq {rows : List (List Int)} (hin : InRange rows) {u : Int} (hu : 0 ≤ u ∧ u < (rows.length : Int)) {ks : List Int} (nd : ks.Nodup) (h : ∀ k, k ∈ ks ↔ Reach rows u k) : sortZ ks = foundOf rows u := by
  refine (sortZ_uniq ?_ (foundOf_up.imp fun h => Int.le_of_lt h)).symm
  refine (List.perm_ext_iff_of_nodup (asc_nodup foundOf_up) nd).mpr fun w => ?_
  rw [foundOf_mem hin hu, h]
theorem keysI_enc : ∀ kvs : List (Int × Int), keysI ((encD kvs).map (·.1)) = some (kvs.map (·.1))
  | [] => rfl
  | p :: r => by
    have ih := keysI_enc r
    unfold encD at ih ⊢
    rw [List.map_cons, List.map_cons]
    unfold keysI
    rw [ih]
    rfl
theorem S_found {rows : List (List Int)} {pk : D} {u : Int} {st : Sto} (hp : Pk st pk rows) (hin : InRange rows) (hu : 0 ≤ u ∧ u < (rows.length : Int)) (hl : rows.length ≤ 60) : M_found_from [pk, .int u] st = .ok (rowD' (foundOf rows u)) st := by
  obtain ⟨kvs, junk, e, ds⟩ := S_steps hp hin hu (by omega)
  unfold M_found_from
  rw [mDef_eq (k := 2) (ds := [pk, .int u]) rfl]
  have few : kvs.length ≤ rows.length := by
    have z := few_below ds.nd fun k hk => ((ds.re k).mp hk).range hin hu
    rw [List.length_map] at z
    exact z
  have g := get_mid st junk (.dct (encD kvs))
  have e2 : sortedD [.loc st.length] (st ++ .dct (encD kvs) :: junk) = .ok (.lst ((foundOf rows u).map D.int)) (st ++ .dct (encD kvs) :: junk) := by
    simp only [sortedD, g, sortedKs, keysI_enc, ofOpt_some]
    rw [guardR_pos (by rw [List.length_map]; omega), foundOf_uniq hin hu ds.nd ds.re]
  simp only [List.map_cons, List.map_nil, List.cons_append, List.nil_append, mRet, mCall, mCons, mNil, mV, List.getElem?_cons_succ, List.getElem?_cons_zero, R.ok_bind, e, e2, tupleD_lst, O.of_ok, toR_rt]
  exact gc_app cl_row
theorem S_all {rows : List (List Int)} {pk : D} {st : Sto} (hp : Pk st pk rows) (hin : InRange rows) (hl : rows.length ≤ 60) : M_all_found [pk] st = .ok (webD (findsOf rows)) st := by
  unfold M_all_found
  rw [mDef_eq (k := 1) (ds := [pk]) rfl]
  have hlen := hp.len []
  rw [List.append_nil] at hlen
  have hmi : mItA rng1R (mCons (mCall lenD (mCons (mV 0) mNil)) mNil) [some pk, none] st = .ok ⟨rngD 0 rows.length, none⟩ st := by
    refine itA_ok (ds := [.int rows.length]) ?_ (rng_ok (by omega))
    simp only [mCons, mCall, mNil, mV, List.getElem?_cons_zero, R.ok_bind, hlen]
  have hc := mComp_pure (vs := [1]) (p := .nm 1) (t := mYes) (m := mCall M_found_from (mCons (mV 0) (mCons (mV 1) mNil))) (ρ := [some pk, none]) (fun _ => true) (fun d => match d with | .int u => rowD' (foundOf rows u) | d => d) hmi True.intro (lim_rng (by omega)) (fun d hd => by
    obtain ⟨i, hi⟩ := List.getElem?_of_mem hd
    obtain ⟨h1, rfl⟩ := rngD_at hi
    refine ⟨_, rfl, rfl, fun _ => ?_⟩
    simp only [wipeD, List.set, mCall, mCons, mNil, mV, List.getElem?_cons_succ, List.getElem?_cons_zero, R.ok_bind]
    exact S_found hp hin (by omega) hl)
  simp only [List.map_cons, List.map_nil, List.cons_append, List.nil_append, mRet, mCall, mCons, mNil, R.ok_bind, show List.replicate (2 - 1) (none : Option D) = [none] from rfl] at hc ⊢
  rw [hc]
  simp only [R.ok_bind, tupleD_lst, O.of_ok, toR_rt, gcs]
  congr 1
  unfold webD rowsL findsOf rngD
  rw [List.filter_eq_self.mpr (fun _ _ => rfl), List.map_map, List.map_map]
  congr 1
  refine List.map_congr_left fun k hk => ?_
  show rowD' (foundOf rows (0 + (k : Int))) = rowD' (foundOf rows (k : Int))
  rw [Int.zero_add]
end

/-! is_web, check_web, check_webs of webs -/
section
open PySem PySem.Spec PyProof.Rows L2 Hn
theorem S_integer {i : Int} {st : Sto} : M_is_integer [.int i] st = .ok (.bl true) st := by
  unfold M_is_integer
  rw [mDef_eq (k := 1) (ds := [.int i]) rfl]
  exact gcs
theorem S_between {i a b : Int} {st : Sto} : M_is_between [.int i, .int a, .int b] st = .ok (.bl (decide (a ≤ i) && decide (i ≤ b))) st := by
  unfold M_is_between
  refine def_rt rfl (ret_ok ?_)
  refine (andV_t ((call_ok (one_ok rfl)).trans (S_integer (i := i)))).trans ?_
  simp only [List.map_cons, List.map_nil, List.cons_append, mChain, mV, List.getElem?_cons_succ, List.getElem?_cons_zero, R.ok_bind, cmpI, blOf]
  by_cases h : a ≤ i
  · simp only [h, decide_true, if_true, Bool.true_and]
  · simp only [h, decide_false, Bool.false_eq_true, if_false, Bool.false_and]
theorem S_person {i n : Int} {st : Sto} : M_is_person [.int i, .int n] st = .ok (.bl (decide (0 ≤ i) && decide (i ≤ n - 1))) st := by
  unfold M_is_person
  rw [mDef_eq (k := 2) (ds := [.int i, .int n]) rfl]
  show gc st (toR (mRet (mCall _ _) [some (.int i), some (.int n)] st)) = _
  simp only [mRet, mCall, mCons, mV, mC, mNil, mBin, subD, List.getElem?_cons_succ, List.getElem?_cons_zero, R.ok_bind]
  rw [S_between]
  exact gcs
theorem rng_mem {n : Nat} {d : D} (h : d ∈ rngD 0 n) : ∃ i : Nat, i < n ∧ d = .int (i : Nat) := by
  obtain ⟨i, hi⟩ := List.getElem?_of_mem h
  obtain ⟨h1, h2⟩ := rngD_at hi
  exact ⟨i, h1, by rw [h2, Int.zero_add]⟩
theorem rowD_ix {r : List Int} {i : Nat} {st : Sto} (h : i < r.length) : ixD (rowD' r) (.int (i : Nat)) st = .ok (.int r[i]) st := by
  unfold rowD'
  rw [ixD_tup, atI_nat (j := i) (v := .int r[i]) (by rw [List.getElem?_map, List.getElem?_eq_getElem h]; rfl)]
  rfl
theorem rowD_len {r : List Int} {st : Sto} : lenD [rowD' r] st = .ok (.int r.length) st := by
  unfold rowD'
  rw [lenD_tup, List.length_map]
theorem S_ascending {r : List Int} {st : Sto} (h : r.Pairwise (· < ·)) (hl : r.length ≤ 1000) : M_is_ascending [rowD' r] st = .ok (.bl true) st := by
  unfold M_is_ascending
  rw [mDef_eq (k := 1) (ds := [rowD' r]) rfl]
  have hmi : mItA rng1R (mCons (mBin subD (mCall lenD (mCons (mV 0) mNil)) (mC (.int 1))) mNil) [some (rowD' r), none] st = .ok ⟨rngD 0 (r.length - 1), none⟩ st := by
    by_cases hz : r.length = 0
    · refine itA_ok (ds := [.int (-1)]) (st1 := st) ?_ ?_
      · simp only [mCons, mCall, mBin, mC, mNil, mV, List.getElem?_cons_zero, R.ok_bind, rowD_len, subD, hz]
        rfl
      · have e : rng1R [.int (-1)] st = guardR (-b62 ≤ (-1 : Int) ∧ (-1 : Int) < b62) (.ok ⟨rngD 0 (-1 : Int).toNat, none⟩ st) := rngR_one
        rw [e, guardR_pos (by decide), hz]
        rfl
    · refine itA_ok (ds := [.int ((r.length - 1 : Nat) : Int)]) ?_ (rng_ok (by omega))
      simp only [mCons, mCall, mBin, mC, mNil, mV, List.getElem?_cons_zero, R.ok_bind, rowD_len, subD]
      rw [show (r.length : Int) - 1 = ((r.length - 1 : Nat) : Int) by omega]
  have ha := all_comp (vs := [1]) (p := .nm 1) (m := mBin ltD (mBin ixD (mV 0) (mV 1)) (mBin ixD (mV 0) (mBin addD (mV 1) (mC (.int 1))))) (fun _ => true) hmi True.intro (lim_rng (by omega)) (fun d hd => by
    obtain ⟨i, h1, rfl⟩ := rng_mem hd
    refine ⟨_, rfl, ?_⟩
    have i1 : i < r.length := by omega
    have i2 : i + 1 < r.length := by omega
    simp only [wipeD, List.set, mBin, mV, mC, List.getElem?_cons_succ, List.getElem?_cons_zero, R.ok_bind, addD_int, rowD_ix i1]
    rw [show (i : Int) + 1 = ((i + 1 : Nat) : Int) by omega]
    simp only [rowD_ix i2, R.ok_bind, ltD_int]
    rw [decide_eq_true (List.pairwise_iff_getElem.mp h i (i + 1) i1 i2 (by omega))])
  show gc st (toR (mRet _ [some (rowD' r), none] st)) = _
  simp only [mRet]
  rw [ha]
  simp only [O.of_ok, toR_rt]
  rw [gcs, List.all_eq_true.mpr fun _ _ => rfl]
theorem S_pocket {r : List Int} {u n : Nat} {st : Sto} (h : r.Pairwise (· < ·)) (hl : r.length ≤ 1000) (hr : ∀ w ∈ r, 0 ≤ w ∧ w < (n : Int) ∧ w ≠ (u : Int)) : M_is_pocket [rowD' r, .int (u : Nat), .int (n : Nat)] st = .ok (.bl true) st := by
  unfold M_is_pocket
  rw [mDef_eq (k := 3) (ds := [rowD' r, .int (u : Nat), .int (n : Nat)]) rfl]
  have hmi : mIt (mV 0) [some (rowD' r), some (.int (u : Nat)), some (.int (n : Nat)), none] st = .ok ⟨r.map D.int, none⟩ st := itm_row rfl
  have ha := all_comp (vs := [3]) (p := .nm 3) (m := mAndV (mCall M_is_person (mCons (mV 3) (mCons (mV 2) mNil))) (mBin neD (mV 3) (mV 1))) (fun _ => true) hmi True.intro (by show (r.map D.int).length ≤ lim; rw [List.length_map]; exact lim_of (by omega)) (fun d hd => by
    obtain ⟨w, hw, rfl⟩ := List.mem_map.mp hd
    refine ⟨_, rfl, ?_⟩
    obtain ⟨h1, h2, h3⟩ := hr w hw
    simp only [wipeD, List.set, mAndV, mCall, mCons, mNil, mBin, mV, mC, List.getElem?_cons_succ, List.getElem?_cons_zero, R.ok_bind, S_person]
    rw [decide_eq_true h1, decide_eq_true (show w ≤ (n : Int) - 1 by omega)]
    simp only [Bool.and_self, blOf, R.ok_bind, if_true, neD_int]
    rw [decide_eq_false h3]
    rfl)
  rw [← mDef_eq (k := 3) (n := 4) (ds := [rowD' r, .int (u : Nat), .int (n : Nat)]) rfl]
  refine def_rt rfl ?_
  refine (seq_nx (ifS_f (not_ok (b := true) (tru_bl rfl)))).trans (ret_ok ?_)
  refine (andV_t (ha.trans (by rw [List.all_eq_true.mpr fun _ _ => rfl]))).trans ?_
  exact (call_ok (one_ok rfl)).trans (S_ascending h hl)
theorem webD_len {rows : List (List Int)} {st : Sto} : lenD [webD rows] st = .ok (.int rows.length) st := by
  unfold webD
  rw [lenD_tup, rowsL_len]
theorem S_is_web {rows : List (List Int)} {st : Sto} (h : IsWeb rows) : M_is_web [webD rows] st = .ok (.bl true) st := by
  unfold M_is_web
  rw [mDef_eq (k := 1) (ds := [webD rows]) rfl]
  have hmi : mItA rng1R (mCons (mCall lenD (mCons (mV 0) mNil)) mNil) [some (webD rows), none] st = .ok ⟨rngD 0 rows.length, none⟩ st := by
    refine itA_ok (ds := [.int rows.length]) ?_ (rng_ok (by have := h.few; omega))
    simp only [mCons, mCall, mNil, mV, List.getElem?_cons_zero, R.ok_bind, webD_len]
  have ha := all_comp (vs := [1]) (p := .nm 1) (m := mCall M_is_pocket (mCons (mBin ixD (mV 0) (mV 1)) (mCons (mV 1) (mCons (mCall lenD (mCons (mV 0) mNil)) mNil)))) (fun _ => true) hmi True.intro (lim_rng (by have := h.few; omega)) (fun d hd => by
    obtain ⟨i, h1, rfl⟩ := rng_mem hd
    refine ⟨_, rfl, ?_⟩
    simp only [wipeD, List.set, mCall, mCons, mNil, mBin, mV, mC, List.getElem?_cons_succ, List.getElem?_cons_zero, R.ok_bind, webD_ix (rows := rows) (v := (i : Nat)) (by omega) (by omega), webD_len]
    exact S_pocket (h.up i h1) (by have := h.row h1; omega) (h.rng i h1))
  rw [← mDef_eq (k := 1) (n := 2) (ds := [webD rows]) rfl]
  refine def_rt rfl ?_
  have h1 := h.pos
  have h2 := h.few
  have e2 : (mTst (mChain (cmpI fun i j => decide (i ≤ j)) (cmpI fun i j => decide (i ≤ j)) (mC (.int 1)) (mCall lenD (mCons (mV 0) mNil)) (mC (.int 9)))) [some (webD rows), none] st = .ok true st :=
    tst_ok ((chain_t (x := .int 1) (y := .int rows.length) (z := .int 9) rfl ((call_ok (one_ok rfl)).trans webD_len) (by show R.ok (D.bl (decide ((1 : Int) ≤ rows.length))) st = _; rw [decide_eq_true (show (1 : Int) ≤ rows.length by omega)]) rfl).trans (by
      show R.ok (D.bl (decide ((rows.length : Int) ≤ 9))) st = _
      rw [decide_eq_true (show (rows.length : Int) ≤ 9 by omega)]))
  refine (seq_nx (ifS_f ((or_f (not_ok (b := true) (tru_bl rfl))).trans (not_ok (b := true) e2)))).trans (ret_ok ?_)
  exact ha.trans (by rw [List.all_eq_true.mpr fun _ _ => rfl])
theorem S_check_web {rows : List (List Int)} {st : Sto} (h : IsWeb rows) : M_check_web [webD rows] st = .ok .non st :=
  def_nx rfl (ifS_f (not_ok (b := true) (tru_bl ((call_ok (one_ok rfl)).trans (S_is_web h)))))
end

/-! _law_pairs, _law_web, _law_cards, _law_drawn_web -/
section
open PySem PySem.Spec PyProof.Rows L2 Hn
/-- the web of the cards of L -/
def lwebOf (L : List (List Int)) (n : Nat) : List (List Int) := (List.range n).map fun (u : Nat) => ((List.range n).filter fun (w : Nat) => decide ([(u : Int), (w : Int)] ∈ L)).map fun (w : Nat) => (w : Int)
@[simp] theorem lwebOf_len {L : List (List Int)} {n : Nat} : (lwebOf L n).length = n := by unfold lwebOf; rw [List.length_map, List.length_range]
theorem lwebOf_mem {L : List (List Int)} {n u : Nat} (hu : u < n) (w : Int) : w ∈ rowAt (lwebOf L n) (u : Nat) ↔ (0 ≤ w ∧ w < (n : Int)) ∧ [(u : Int), w] ∈ L := by
  unfold rowAt lwebOf
  rw [Int.toNat_natCast, List.getD_eq_getElem?_getD, List.getElem?_map, List.getElem?_range hu]
  simp only [Option.map_some, Option.getD_some, List.mem_map, List.mem_filter, List.mem_range, decide_eq_true_eq]
  constructor
  · rintro ⟨a, ⟨h1, h2⟩, rfl⟩
    exact ⟨by omega, h2⟩
  · rintro ⟨h1, h2⟩
    exact ⟨w.toNat, ⟨by omega, by rw [show ((w.toNat : Nat) : Int) = w by omega]; exact h2⟩, by omega⟩
theorem lwebOf_web {L : List (List Int)} {n : Nat} (h1 : 1 ≤ n) (h9 : n ≤ 9) (h : ∀ u : Nat, u < n → [(u : Int), (u : Int)] ∉ L) : IsWeb (lwebOf L n) := by
  refine ⟨by rw [lwebOf_len]; exact h1, by rw [lwebOf_len]; exact h9, fun u hu => ?_, fun u hu w hw => ?_⟩
  · rw [lwebOf_len] at hu
    unfold rowAt lwebOf
    rw [Int.toNat_natCast, List.getD_eq_getElem?_getD, List.getElem?_map, List.getElem?_range hu]
    simp only [Option.map_some, Option.getD_some]
    rw [List.pairwise_map]
    exact (List.Pairwise.filter _ List.pairwise_lt_range).imp fun h => by exact_mod_cast h
  · rw [lwebOf_len] at hu ⊢
    obtain ⟨h2, h3⟩ := (lwebOf_mem hu w).mp hw
    exact ⟨h2.1, h2.2, fun e => h u hu (by rw [e] at h3; exact h3)⟩
def cardRow (rows : List (List Int)) (u : Nat) : List (List Int) := (rowAt rows (u : Nat)).map fun w => [(u : Int), w]
def cardsOf (rows : List (List Int)) : List (List Int) := (List.range rows.length).flatMap fun u => cardRow rows u
theorem cardsOf_mem {rows : List (List Int)} {x : List Int} : x ∈ cardsOf rows ↔ ∃ (u : Nat) (w : Int), u < rows.length ∧ w ∈ rowAt rows (u : Nat) ∧ x = [(u : Int), w] := by
  unfold cardsOf cardRow
  simp only [List.mem_flatMap, List.mem_map, List.mem_range]
  constructor
  · rintro ⟨u, hu, w, hw, rfl⟩
    exact ⟨u, w, hu, hw, rfl⟩
  · rintro ⟨u, w, hu, hw, rfl⟩
    exact ⟨u, hu, w, hw, rfl⟩
end

/-! _law_finds -/
section
open PySem PySem.Spec PyProof.Rows L2 Hn
theorem rowAt_set {kss : List (List Int)} {u v : Nat} {r : List Int} (h : u < kss.length) : rowAt (kss.set u r) (v : Nat) = if v = u then r else rowAt kss (v : Nat) := by
  unfold rowAt
  rw [Int.toNat_natCast, List.getD_eq_getElem?_getD, List.getD_eq_getElem?_getD]
  by_cases e : v = u
  · subst e
    rw [if_pos rfl, List.getElem?_set_self h]
    rfl
  · rw [if_neg e, List.getElem?_set_ne (Ne.symm e)]
theorem _root_.Hn.Gm.addAll {rows : List (List Int)} {u : Int} {S ks : List Int} {Pe Pe' : Int → Int → Prop} (g : Gm rows u S Pe ks) {v : Int} (hv : v ∈ S) (nd : (rowAt rows v).Nodup) (hp : ∀ k x, Pe' k x → Pe k x ∨ (k = v ∧ x ∈ rowAt rows v)) : Gm rows u S Pe' (ks ++ (rowAt rows v).filter fun x => decide (x ∉ ks)) := by
  refine ⟨List.nodup_append.mpr ⟨g.nd, nd.filter _, fun x hx y hy e => ?_⟩, fun k h => List.mem_append_left _ (g.sub k h), fun k h => ?_, fun k x p => ?_, fun c => ?_⟩
  · have := of_decide_eq_true (List.mem_filter.mp hy).2
    exact this (by rw [← e]; exact hx)
  · rcases List.mem_append.mp h with z | z
    · exact g.re k z
    · exact .step (g.re v (g.sub v hv)) (List.mem_filter.mp z).1
  · rcases hp k x p with z | ⟨z1, z2⟩
    · exact List.mem_append_left _ (g.ed k x z)
    · by_cases q : x ∈ ks
      · exact List.mem_append_left _ q
      · exact List.mem_append_right _ (List.mem_filter.mpr ⟨z2, decide_eq_true q⟩)
  · have e := g.cl c
    rw [List.filter_eq_nil_iff.mpr fun x hx => by
      have : x ∈ ks := by rw [e]; exact c v hv x hx
      simp [this], List.append_nil, e]
def cell (ks : List Int) : C := .lst (ks.map D.int)
section
variable {rows : List (List Int)} {st : Sto} {n : Nat} {N : Int}
end
end

/-! joined, with_card, first_beyond, news -/
section
open PySem PySem.Spec PyProof.Rows L2 Hn
end

/-! spread, widened -/
section
open PySem PySem.Spec PyProof.Rows L2 Hn
/-- a web on its way from one to its widest -/
structure Way (rows fs W : List (List Int)) : Prop where
  web : IsWeb W
  sub : Sub rows W
  clo : ∀ u : Nat, u < rows.length → ∀ w ∈ rowAt W (u : Nat), Clo rows fs (u : Nat) w
theorem Way.add {rows fs W : List (List Int)} (h : IsWeb rows) (hf : InRange fs) (hl : fs.length = rows.length) (a : Way rows fs W) {v w : Int} (hv : 0 ≤ v ∧ v < (rows.length : Int)) (c : Clo rows fs v w) : Way rows fs (withC W v w) := by
  have hn := a.sub.1
  have r := c.rng h hf hl
  have hv' : 0 ≤ v ∧ v < (W.length : Int) := by omega
  refine ⟨a.web.withC hv' (by omega) r.2.2, a.sub.trans (sub_with hv'), fun u hu x hx => ?_⟩
  rcases (withC_mem hv' (by omega)).mp hx with z | ⟨z1, z2⟩
  · exact a.clo u hu x z
  · rw [z1, z2]
    exact c
end

/-! widened, bar, is_led, leads, full, lack, finds -/
section
open PySem PySem.Spec PyProof.Rows L2 Hn
section
variable {rows ws : List (List Int)} {st : Sto}
end
end

/-! _law_full -/
section
open PySem PySem.Spec PyProof.Rows L2 Hn
/-- the cards on their way to the widest web -/
structure LC (rows fs L : List (List Int)) : Prop where
  nd : L.Nodup
  base : ∀ x ∈ cardsOf rows, x ∈ L
  clo : ∀ x ∈ L, ∃ (u : Nat) (w : Int), u < rows.length ∧ x = [(u : Int), w] ∧ Clo rows fs (u : Nat) w
section
variable {rows fs L : List (List Int)}
theorem cardsOf_nd (h : IsWeb rows) : (cardsOf rows).Nodup := by
  unfold cardsOf
  refine List.pairwise_flatMap.mpr ⟨fun u hu => ?_, ?_⟩
  · unfold cardRow
    rw [List.pairwise_map]
    refine (asc_nodup (h.up u (List.mem_range.mp hu))).imp fun {a b} ne e => ne ?_
    injection e with _ e
    injection e
  · refine List.pairwise_lt_range.imp_of_mem fun {a b} ha hb lt => ?_
    intro x hx y hy e
    unfold cardRow at hx hy
    obtain ⟨w, _, rfl⟩ := List.mem_map.mp hx
    obtain ⟨w', _, rfl⟩ := List.mem_map.mp hy
    injection e with e _
    omega
theorem LC.start (h : IsWeb rows) : LC rows fs (cardsOf rows) := ⟨cardsOf_nd h, fun _ h => h, fun x hx => by
  obtain ⟨u, w, hu, hw, rfl⟩ := cardsOf_mem.mp hx
  exact ⟨u, w, hu, rfl, .base (by omega) hw⟩⟩
theorem LC.len (h : IsWeb rows) (hf : InRange fs) (hl : fs.length = rows.length) (c : LC rows fs L) : L.length ≤ 81 := by
  have sub : L ⊆ (cells rows.length).map fun p => [(p.1 : Int), (p.2 : Int)] := fun x hx => by
    obtain ⟨u, w, hu, rfl, k⟩ := c.clo x hx
    have r := (k.rng h hf hl).2.1
    exact List.mem_map.mpr ⟨(u, w.toNat), mem_cells.mpr ⟨hu, by omega⟩, by simp only; rw [show ((w.toNat : Nat) : Int) = w by omega]⟩
  have z := List.Nodup.length_le_of_subset c.nd sub
  rw [List.length_map, len_cells] at z
  have := Nat.mul_le_mul h.few h.few
  omega
theorem LC.add (c : LC rows fs L) {v : Nat} {w : Int} (hv : v < rows.length) (n : [(v : Int), w] ∉ L) (k : Clo rows fs (v : Nat) w) : LC rows fs (L ++ [[(v : Int), w]]) :=
  ⟨List.nodup_append.mpr ⟨c.nd, by simp, fun a ha b hb e => n (by rw [← List.mem_singleton.mp hb, ← e]; exact ha)⟩, fun x hx => List.mem_append_left _ (c.base x hx), fun x hx => by
    rcases List.mem_append.mp hx with z | z
    · exact c.clo x z
    · exact ⟨v, w, hv, List.mem_singleton.mp z, k⟩⟩
/-- nothing more to be shown by these cards -/
def OkL (fs L : List (List Int)) (v w : Int) : Prop := ¬ (w ≠ v ∧ [v, w] ∉ L ∧ w ∈ rowAt fs v)
def ClosedL (fs L : List (List Int)) : Prop := ∀ u v : Int, [u, v] ∈ L → ∀ w : Int, (w = u ∨ [u, w] ∈ L) → OkL fs L v w
theorem LC.done (h : IsWeb rows) (hf : InRange fs) (hl : fs.length = rows.length) (c : LC rows fs L) (k : ClosedL fs L) : lwebOf L rows.length = widOf rows fs := by
  have inl : ∀ u : Nat, ∀ w : Int, [(u : Int), w] ∈ L → Clo rows fs (u : Nat) w := fun u w hx => by
    obtain ⟨u', w', _, e, q⟩ := c.clo _ hx
    injection e with e1 e
    injection e with e2 _
    rw [e1, e2]
    exact q
  have web : IsWeb (lwebOf L rows.length) := lwebOf_web h.pos h.few fun u _ hm => ((inl u _ hm).rng h hf hl).2.2 rfl
  refine wid_eq h hf hl web ⟨lwebOf_len.symm, fun u hu w hw => ?_⟩ (fun u v hu hv w h1 h2 ne hm => ?_) fun u hu w hw => inl u w ((lwebOf_mem hu w).mp hw).2
  · refine (lwebOf_mem hu w).mpr ⟨?_, c.base _ (cardsOf_mem.mpr ⟨u, w, hu, hw, rfl⟩)⟩
    have := h.rng u hu w hw
    exact ⟨this.1, this.2.1⟩
  · rw [lwebOf_len] at hu hv
    have a1 := ((lwebOf_mem hu _).mp h1).2
    have a2 : w = (u : Int) ∨ [(u : Int), w] ∈ L := h2.elim (fun z => .inr ((lwebOf_mem hu _).mp z).2) .inl
    have a3 := k u v a1 w a2
    have hr := row_range hf hm
    rw [hl] at hr
    refine (lwebOf_mem hv w).mpr ⟨hr, Classical.byContradiction fun z => a3 ⟨ne, z, hm⟩⟩
end
/-- whom u may show: themselves, and whose cards they hold -/
def nxt (L : List (List Int)) (u : Int) : List Int := u :: (L.filter fun x => decide (x.getD 0 0 = u)).map fun x => x.getD 1 0
end

section
open PySem PySem.Spec PyProof.Rows L2 Hn
section
variable {rows ws F G : List (List Int)} {st : Sto}
end
end

/-! _law_full, _law_lack -/
section
open PySem PySem.Spec PyProof.Rows L2 Hn
section
variable {rows ws : List (List Int)} {st : Sto}
end
end

/-! what full webs find -/
section
open PySem PySem.Spec PyProof.Rows L2 Hn
section
variable {rows ws : List (List Int)}
end
end

/-! leads, full, lack -/
section
open PySem PySem.Spec PyProof.Rows L2 Hn
section
variable {rows ws : List (List Int)} {st : Sto}
end
end

/-! _law_drawn_web, _law_union -/
section
open PySem PySem.Spec PyProof.Rows L2 Hn
/-- letters on the way -/
structure IsLets (n : Nat) (ls : List (List Int)) : Prop where
  ok : ∀ x ∈ ls, ∃ a b : Nat, a < n ∧ b < n ∧ a ≠ b ∧ x = [(a : Int), (b : Int)]
end

/-! knots, what is next, least pairs -/
section
open PySem PySem.Spec PyProof.Rows L2 Hn
section
variable {st : Sto} {p g n : Nat} {rows F : List (List Int)}
def knotF (F : List (List Int)) (u : Int) : List Int := (rowAt F u).filter fun w => decide (u ∈ rowAt F w)
/-- rows of whom they find: oneself among them, ascending, within -/
structure IsFnd (F : List (List Int)) (n : Nat) : Prop where
  len : F.length = n
  pos : 1 ≤ n
  few : n ≤ 9
  up : ∀ u : Nat, u < n → (rowAt F (u : Nat)).Pairwise (· < ·)
  rng : ∀ u : Nat, u < n → ∀ w ∈ rowAt F (u : Nat), 0 ≤ w ∧ w < (n : Int)
  own : ∀ u : Nat, u < n → (u : Int) ∈ rowAt F (u : Nat)
  trans : ∀ u : Nat, u < n → ∀ v w : Int, v ∈ rowAt F (u : Nat) → w ∈ rowAt F v → w ∈ rowAt F (u : Nat)
theorem IsFnd.row (h : IsFnd F n) {u : Nat} (hu : u < n) : (rowAt F (u : Nat)).length ≤ 9 := by
  have := few_below (n := n) (asc_nodup (h.up u hu)) fun w hw => h.rng u hu w hw
  have := h.few
  omega
/-! knots -/
def hd (k : List Int) : Int := k.headD 0
structure KnotOk (F : List (List Int)) (n : Nat) (k : List Int) : Prop where
  ne : k ≠ []
  up : k.Pairwise (· < ·)
  rng : ∀ w ∈ k, 0 ≤ w ∧ w < (n : Int)
  cls : ∀ w ∈ k, knotF F w = k
  len : k.length ≤ 9
  hd0 : 0 ≤ hd k
  hd1 : hd k < (n : Int)
  hdm : hd k ∈ k
/-! what is next -/
end
end

/-! least pairs -/
section
open PySem PySem.Spec PyProof.Rows L2 Hn
section
variable {st : Sto} {p g n : Nat} {rows F : List (List Int)}
end
end

/-! _law_deeds (without turns) -/
section
open PySem PySem.Spec PyProof.Rows L2 Hn
section
variable {rows ls : List (List Int)} {st : Sto} {n : Nat} {N : Int}
end
end

/-! _law_done -/
section
open PySem PySem.Spec PyProof.Rows L2 Hn
section
variable {rows ls kss : List (List Int)} {st : Sto} {n : Nat} {N : Int}
/-- a pocket that is being changed -/
structure Pkt (n : Nat) (kss : List (List Int)) : Prop where
  len : kss.length = n
  few : ∀ u : Nat, u < n → (rowAt kss (u : Nat)).length ≤ 20
  rng : ∀ u : Nat, u < n → ∀ w ∈ rowAt kss (u : Nat), 0 ≤ w ∧ w < (n : Int) ∧ w ≠ (u : Int)
theorem Pkt.set {n : Nat} {kss : List (List Int)} (k : Pkt n kss) {u : Nat} (hu : u < n) {r : List Int} (h1 : r.length ≤ 20) (h2 : ∀ w ∈ r, 0 ≤ w ∧ w < (n : Int) ∧ w ≠ (u : Int)) : Pkt n (kss.set u r) := by
  refine ⟨by rw [List.length_set]; exact k.len, fun v hv => ?_, fun v hv w hw => ?_⟩
  · rw [rowAt_set (by rw [k.len]; exact hu)]
    split
    · exact h1
    · exact k.few v hv
  · rw [rowAt_set (by rw [k.len]; exact hu)] at hw
    split at hw
    · rename_i e
      subst e
      exact h2 w hw
    · exact k.rng v hv w hw
end
end

/-! _law_done -/
section
open PySem PySem.Spec PyProof.Rows L2 Hn
section
variable {rows ls kss : List (List Int)} {st : Sto} {n : Nat}
end
end

/-! _law_wish -/
section
open PySem PySem.Spec PyProof.Rows L2 Hn
section
variable {rows : List (List Int)} {st : Sto} {p g n : Nat} {N K : Int}
end
end

/-! _law_any, _law_like -/
section
open PySem PySem.Spec PyProof.Rows L2 Hn
section
variable {st : Sto} {p g n : Nat} {xs : List D}
end
end

/-! _law_like -/
section
open PySem PySem.Spec PyProof.Rows L2 Hn
section
variable {st : Sto} {p g n : Nat} {xs : List D} {rows : List (List Int)}
end
end

/-! are_kin, the law's own; lots, webs within; all webs -/
section
open PySem PySem.Spec PyProof.Rows L2 Hn
section
variable {st : Sto} {p g n : Nat} {xs : List D} {a b : List (List Int)}
end
end

/-! lots, webs within, kin -/
section
open PySem PySem.Spec PyProof.Rows L2 Hn
section
variable {st : Sto} {p g n : Nat} {xs : List D} {a b rows : List (List Int)}
end
end

/-! kin; all webs -/
section
open PySem PySem.Spec PyProof.Rows L2 Hn
section
variable {st : Sto} {p g n : Nat} {xs : List D} {a b o rows : List (List Int)}
/-! all webs -/
end
end

/-! pockets and webs that are none -/
section
open PySem PySem.Spec PyProof.Rows L2 Hn
section
variable {st : Sto} {rows : List (List Int)}
/-- is_pocket answers b of x -/
def Pkv (x : D) (u n : Nat) (b : Bool) : Prop := ∀ st : Sto, M_is_pocket [x, .int (u : Nat), .int (n : Nat)] st = .ok (.bl b) st
/-- is_web answers False of x -/
def NoWb (x : D) : Prop := ∀ st : Sto, M_is_web [x] st = .ok (.bl false) st
theorem S_asc_any (r : List Int) (hl : r.length ≤ 1000) : ∃ b, (∀ st : Sto, M_is_ascending [rowD' r] st = .ok (.bl b) st) ∧ (b = true → ∀ (k : Nat) (h : k + 1 < r.length), r[k] < r[k + 1]) := by
  refine ⟨(List.range ((r.length : Int) - 1).toNat).all fun k => decide ((atI r (k : Int)).getD 0 < (atI r ((k : Int) + 1)).getD 0), fun st => ?_, fun h k hk => ?_⟩
  · unfold M_is_ascending
    refine def_eq rfl True.intro ?_
    show (mRet _ [some (rowD' r), none] st).wp ⟨_, _, _, _, _⟩
    walk_at "go"
    refine p_rngZ (by omega) (by omega) ?_
    walk_at "go"
    refine p_mapR (n := ((r.length : Int) - 1).toNat) (fun k => .bl (decide ((atI r (k : Int)).getD 0 < (atI r ((k : Int) + 1)).getD 0))) (by omega) (fun k K hK hk => ?_) ?_
    · walk_at "go"
      refine som_e (atI_nat (j := k) (v := r[k]) (List.getElem?_eq_getElem (by omega)) |> fun e => by rw [← hK]; exact e) ?_
      walk_at "go"
      refine som_e (atI_nat (j := k + 1) (v := r[k + 1]) (List.getElem?_eq_getElem (by omega)) |> fun e => by rw [← hK]; exact e) ?_
      walk_at "go"
      refine ⟨rfl, ?_⟩
      rw [show atI r ((k : Nat) : Int) = some r[k] from atI_nat (List.getElem?_eq_getElem (by omega)), show atI r ((k : Int) + 1) = some r[k + 1] from (atI_nat (j := k + 1) (List.getElem?_eq_getElem (by omega)) : atI r ((k + 1 : Nat) : Int) = _)]
      rfl
    · walk_at "go"
      exact ⟨ex_same, rfl⟩
  · have := List.all_eq_true.mp h k (List.mem_range.mpr (by omega))
    rw [decide_eq_true_iff, show atI r ((k : Nat) : Int) = some r[k] from atI_nat (List.getElem?_eq_getElem (by omega)), show atI r ((k : Int) + 1) = some r[k + 1] from (atI_nat (j := k + 1) (List.getElem?_eq_getElem (by omega)) : atI r ((k + 1 : Nat) : Int) = _)] at this
    exact this
/-- of a tuple whose things is_person judges -/
theorem S_pkt {xs : List D} (c : D → Bool) (u n : Nat) (hl : xs.length ≤ 1000) (hc : ∀ x ∈ xs, ∀ st : Sto, (mAndV (mCall M_is_person (mCons (mV 3) (mCons (mV 2) mNil))) (mBin neD (mV 3) (mV 1)) [some (.tup xs), some (.int (u : Nat)), some (.int (n : Nat)), some x] st).post (fun d s' => s' = st ∧ d = .bl (c x)) noE)
    (b : Bool) (ha : xs.all c = true → ∀ st : Sto, M_is_ascending [.tup xs] st = .ok (.bl b) st) : Pkv (.tup xs) u n (xs.all c && b) := by
  intro st
  unfold M_is_pocket
  refine def_eq rfl True.intro ?_
  show (mSeq _ _ [some (.tup xs), some (.int (u : Nat)), some (.int (n : Nat)), none] st).wp ⟨_, _, _, _, _⟩
  walk_at "go"
  refine p_mapP (it := ⟨xs, none⟩) (enc := id) (xs := xs) (fun x => .bl (c x)) (List.map_id xs).symm True.intro (by omega) (fun x hx => ?_) ?_
  · exact som_e rfl (hc x hx st)
  · walk_at "go"
    refine i_b (fun z => ?_) (fun z => ?_)
    · walk_at "go"
      refine pe (ha z st) ?_
      walk_at "go"
      exact ⟨ex_same, by rw [z, Bool.true_and]⟩
    · exact ⟨ex_same, by rw [z, Bool.false_and]⟩
end
end

/-! checks that refuse; _law_told -/
section
open PySem PySem.Spec PyProof.Rows L2 Hn
theorem def_er {k n : Nat} {m : Env → Sto → O} {ds : List D} {st : Sto} {e : Er} (h : ds.length = k) (c : ClDs st.length (e.fs.map (·.2))) (w : (m (ds.map some ++ List.replicate (n - k) none) st).wp ⟨fun _ _ => False, fun _ _ => False, fun _ _ => False, fun _ _ => False, fun x s => x = e ∧ ∃ y, s = st ++ y⟩) : mDef k n m ds st = .er e st := by
  rw [mDef_eq h]
  revert w
  cases m (ds.map some ++ List.replicate (n - k) none) st with
  | nx ρ s => exact fun z => z.elim
  | rt d s => exact fun z => z.elim
  | er x ρ s => rintro ⟨rfl, y, rfl⟩; exact gc_er_app c
  | bk => exact fun z => z.elim
  | ct => exact fun z => z.elim
  | no => exact fun z => z.elim
section
variable {st : Sto} {rows ws : List (List Int)} {x y : D}
abbrev eNW : Er := ⟨"NoWeb", []⟩
theorem S_check_no (h : NoWb x) : M_check_web [x] st = .er eNW st := by
  unfold M_check_web
  refine def_er rfl True.intro ?_
  show (mIfS _ _ _ [some x] st).wp ⟨_, _, _, _, _⟩
  walk_at "go"
  refine pe (h st) ?_
  walk_at "go"
  exact ⟨rfl, ex_same⟩
theorem w_tryE {mb : Env → Sto → O} {l : List MCl} {e : Er} {ρ ρ' : Env} {st st' : Sto} {K : Kt} (h : mb ρ st = .er e ρ' st') (k : (mTryC l e ρ' st').wp K) : (mTry mb l ρ st).wp K := by
  unfold mTry
  rw [h]
  exact k
theorem w_tryN {mb : Env → Sto → O} {l : List MCl} {ρ ρ' : Env} {st st' : Sto} {K : Kt} (h : mb ρ st = .nx ρ' st') (k : K.nx ρ' st') : (mTry mb l ρ st).wp K := by
  unfold mTry
  rw [h]
  exact k
theorem expr_er {m : Env → Sto → R D} {ρ : Env} {e : Er} (h : m ρ st = .er e st) : mExpr m ρ st = .er e ρ st := by
  unfold mExpr
  rw [h]
  rfl
end
end

/-! things that are no tuples; _law_deep -/
section
open PySem PySem.Spec PyProof.Rows L2 Hn
section
variable {st : Sto}
def NoTup (d : D) : Prop := ∀ st : Sto, isiD "tuple" d st = .ok (.bl false) st
end
end

/-! pockets and webs that are none: all that _law_odd makes -/
section
open PySem PySem.Spec PyProof.Rows L2 Hn
section
variable {st : Sto} {rows : List (List Int)} {p g u n : Nat}
def NoInt (d : D) : Prop := ∀ st : Sto, M_is_integer [d] st = .ok (.bl false) st
theorem S_btw_no {d a b : D} (h : NoInt d) : M_is_between [d, a, b] st = .ok (.bl false) st := by
  unfold M_is_between
  refine def_eq rfl True.intro ?_
  show (mRet _ [some d, some a, some b] st).wp ⟨_, _, _, _, _⟩
  walk_at "go"
  refine pe (h st) ?_
  walk_at "go"
  exact ⟨ex_same, rfl⟩
theorem S_per_no {d : D} {N : Int} (h : NoInt d) : M_is_person [d, .int N] st = .ok (.bl false) st := by
  unfold M_is_person
  refine def_eq rfl True.intro ?_
  show (mRet _ [some d, some (.int N)] st).wp ⟨_, _, _, _, _⟩
  walk_at "go"
  refine pe (S_btw_no h) ?_
  walk_at "go"
  exact ⟨ex_same, rfl⟩
theorem noint_bl {b : Bool} : NoInt (.bl b) := fun st => by
  unfold M_is_integer
  refine def_eq rfl True.intro ?_
  show (mRet _ [some (.bl b)] st).wp ⟨_, _, _, _, _⟩
  walk_at "go"
  refine pe (show isiD "int" (.bl b) st = .ok (.bl true) st from rfl) ?_
  walk_at "go"
  exact ⟨ex_same, rfl⟩
theorem noint_str {s : Str} : NoInt (.str s) := fun st => by
  unfold M_is_integer
  refine def_eq rfl True.intro ?_
  show (mRet _ [some (.str s)] st).wp ⟨_, _, _, _, _⟩
  walk_at "go"
  refine pe (show isiD "int" (.str s) st = .ok (.bl false) st from rfl) ?_
  walk_at "go"
  exact ⟨ex_same, rfl⟩
theorem noint_tup {xs : List D} : NoInt (.tup xs) := fun st => by
  unfold M_is_integer
  refine def_eq rfl True.intro ?_
  show (mRet _ [some (.tup xs)] st).wp ⟨_, _, _, _, _⟩
  walk_at "go"
  refine pe (show isiD "int" (.tup xs) st = .ok (.bl false) st from rfl) ?_
  walk_at "go"
  exact ⟨ex_same, rfl⟩
def okW (u n : Nat) : D → Bool
  | .int w => (decide (0 ≤ w) && decide (w ≤ (n : Int) - 1)) && !decide (w = (u : Int))
  | _ => false
theorem pk_row (r : List Int) (u n : Nat) (hl : r.length ≤ 1000) : ∃ b, Pkv (rowD' r) u n b ∧ (b = true → (∀ w ∈ r, 0 ≤ w ∧ w ≤ (n : Int) - 1 ∧ w ≠ (u : Int)) ∧ ∀ (k : Nat) (h : k + 1 < r.length), r[k] < r[k + 1]) := by
  obtain ⟨b, h1, h2⟩ := S_asc_any r hl
  refine ⟨(r.map D.int).all (okW u n) && b, S_pkt (xs := r.map D.int) (okW u n) u n (by simpa using hl) (fun x hx st => ?_) b (fun _ st => h1 st), fun hb => ?_⟩
  · obtain ⟨w, hw, rfl⟩ := List.mem_map.mp hx
    walk_at "go"
    refine pe (S_person) ?_
    walk_at "go"
    refine i_b (fun z => ?_) (fun z => ?_)
    · walk_at "go"
      exact ⟨rfl, by show _ = D.bl ((decide (0 ≤ w) && decide (w ≤ (n : Int) - 1)) && !decide (w = (u : Int))); rw [z, Bool.true_and]⟩
    · exact ⟨rfl, by show _ = D.bl ((decide (0 ≤ w) && decide (w ≤ (n : Int) - 1)) && !decide (w = (u : Int))); rw [z, Bool.false_and]⟩
  · rw [Bool.and_eq_true, List.all_eq_true] at hb
    refine ⟨fun w hw => ?_, h2 hb.2⟩
    have := hb.1 (.int w) (List.mem_map.mpr ⟨w, hw, rfl⟩)
    unfold okW at this
    simp only [Bool.and_eq_true, decide_eq_true_iff, Bool.not_eq_true', decide_eq_false_iff_not] at this
    exact ⟨this.1.1, this.1.2, this.2⟩
theorem pk_no {r : List Int} (hl : r.length ≤ 1000) (h : ¬ ((∀ w ∈ r, 0 ≤ w ∧ w ≤ (n : Int) - 1 ∧ w ≠ (u : Int)) ∧ ∀ (k : Nat) (h : k + 1 < r.length), r[k] < r[k + 1])) : Pkv (rowD' r) u n false := by
  obtain ⟨b, h1, h2⟩ := pk_row r u n hl
  cases b with
  | true => exact absurd (h2 rfl) h
  | false => exact h1
theorem pk_not {d : D} (h : NoTup d) : Pkv d u n false := fun st => by
  unfold M_is_pocket
  refine def_eq rfl True.intro ?_
  show (mSeq _ _ [some d, some (.int (u : Nat)), some (.int (n : Nat)), none] st).wp ⟨_, _, _, _, _⟩
  walk_at "go"
  refine pe (h st) ?_
  walk_at "go"
  exact ⟨ex_same, rfl⟩
theorem nw_not {d : D} (h : NoTup d) : NoWb d := fun st => by
  unfold M_is_web
  refine def_eq rfl True.intro ?_
  show (mSeq _ _ [some d, none] st).wp ⟨_, _, _, _, _⟩
  walk_at "go"
  refine pe (h st) ?_
  walk_at "go"
  exact ⟨ex_same, rfl⟩
theorem nw_len {xs : List D} (h : xs.length = 0 ∨ 9 < xs.length) : NoWb (.tup xs) := fun st => by
  unfold M_is_web
  refine def_eq rfl True.intro ?_
  show (mSeq _ _ [some (.tup xs), none] st).wp ⟨_, _, _, _, _⟩
  walk_at "go"
  refine i_d (fun z => ?_) (fun z => ?_)
  · walk_at "go"
    rw [decide_eq_false (by omega)]
    walk_at "go"
    exact ⟨ex_same, rfl⟩
  · walk_at "go"
    exact ⟨ex_same, rfl⟩
end
end

/-! bits of numbers from nought: what & ~ | do to single bits -/
section
open PySem PySem.W PyProof.Rows
/-- a step of the search: what must be there, what goes, what comes -/
structure Bst where
  nd : Nat
  gn : Nat
  nw : Nat
def Bst.can (x : Bst) (s : Nat) : Prop := s &&& x.nd = x.nd
def Bst.aft (x : Bst) (s : Nat) : Nat := (s - (s &&& x.gn)) ||| x.nw
end

/-! rules for bits and for sets of ints in the store -/
section
open PySem PySem.Spec PyProof.Rows L2 Hn
section
variable {P : D → Sto → Prop} {B : Er → Sto → Prop} {ρ : Env} {st : Sto} {m mo : Env → Sto → R D} {n : Nat} {ns : List Int} {i j k : Int}
end
end

/-! rules for what came with P29, P30 -/
section
open PySem PySem.Spec PyProof.Rows L2 Hn
section
variable {nx : Env → Sto → Prop} {rt : D → Sto → Prop} {bk ct : Env → Sto → Prop} {er : Er → Sto → Prop} {m : Env → Sto → R D} {ρ : Env} {st : Sto}
end
end
section
open PySem PySem.Spec PyProof.Rows L2 Hn
section
variable {st : Sto} {P : D → Sto → Prop} {B : Er → Sto → Prop}
end
end

/-! _law_is_web: one pocket -/
section
open PySem PySem.Spec PyProof.Rows L2 Hn
section
variable {st : Sto} {u n p g : Nat} {x d : D} {b : Bool} {w N : Int} {rows : List (List Int)}
def okZ (r : List Int) (u n : Nat) : Prop := (∀ w ∈ r, 0 ≤ w ∧ w < (n : Int) ∧ w ≠ (u : Int)) ∧ r.Pairwise (· < ·)
theorem pw_ofZ {r : List Int} (h : ∀ (k : Nat) (hk : k + 1 < r.length), r[k] < r[k + 1]) : r.Pairwise (· < ·) := by
  rw [List.pairwise_iff_getElem]
  intro i j hi hj lt
  induction j with
  | zero => omega
  | succ j ih =>
    by_cases e : i = j
    · subst e; exact h i hj
    · exact Int.lt_trans (ih (by omega) (by omega)) (h j hj)
noncomputable def webLz : Env → Sto → O := (mSeq (mIfS (mOr (mNot (mTru (mUn (isiD "tuple") (mV 2)))) (mNot (mTru (mCall allD (mCons (mComp (mIt (mV 2)) [3] (.nm 3) mYes (mCall M__law_is_person (mCons (mV 3) (mCons (mCall lenD (mCons (mV 0) mNil)) mNil)))) mNil))))) (mRet (mC (.bl false))) mNext)
    (mIfS (mOr (mTst (mBin (inD false) (mV 1) (mV 2))) (mTst (mBin neD (mCall listD (mCons (mV 2) mNil)) (mUn sortSetD (mV 2))))) (mRet (mC (.bl false))) mNext))
/-- the law's look at a pocket -/
def Lz (x : D) (u n : Nat) (b : Bool) : Prop := ∀ (xs : List D) (st : Sto) (x3 : Option D), xs.length = n → (webLz [some (.tup xs), some (.int (u : Nat)), some x, x3] st).wp ⟨fun ρ s => b = true ∧ s = st ∧ ∃ x3, ρ = [some (.tup xs), some (.int (u : Nat)), some x, x3], fun d s => b = false ∧ d = .bl false ∧ s = st, fun _ _ => False, fun _ _ => False, fun _ _ => False⟩
def NoPr (d : D) : Prop := ∀ (st : Sto) (N : Int), M__law_is_person [d, .int N] st = .ok (.bl false) st
theorem nopr (h : ∀ st : Sto, isiD "int" d st = .ok (.bl false) st) : NoPr d := fun st N => by
  unfold M__law_is_person
  refine def_eq rfl True.intro ?_
  show (mRet _ [some d, some (.int N)] st).wp ⟨_, _, _, _, _⟩
  walk_at "go"
  refine pe (h st) ?_
  walk_at "go"
  exact ⟨ex_same, rfl⟩
theorem nopr_bl : NoPr (.bl b) := fun st N => by
  unfold M__law_is_person
  refine def_eq rfl True.intro ?_
  show (mRet _ [some (.bl b), some (.int N)] st).wp ⟨_, _, _, _, _⟩
  walk_at "go"
  refine pe (show isiD "int" (.bl b) st = .ok (.bl true) st from rfl) ?_
  walk_at "go"
  exact ⟨ex_same, rfl⟩
theorem S_lpr : M__law_is_person [.int w, .int N] st = .ok (.bl (decide (0 ≤ w) && decide (w < N))) st := by
  unfold M__law_is_person
  refine def_eq rfl True.intro ?_
  show (mRet _ [some (.int w), some (.int N)] st).wp ⟨_, _, _, _, _⟩
  walk_at "go"
  refine i_d (fun z => ?_) (fun z => ?_)
  · walk_at "go"
    exact ⟨ex_same, by rw [decide_eq_true z, Bool.true_and]⟩
  · exact ⟨ex_same, by rw [decide_eq_false z, Bool.false_and]⟩
theorem lz_not (h : NoTup x) : Lz x u n false := by
  intro xs st x3 hl
  unfold webLz
  walk_at "go"
  refine pe (h st) ?_
  walk_at "go"
  exact ⟨rfl, rfl, rfl⟩
theorem lz_no {ys : List D} (h0 : ys ≠ []) (hl : ys.length ≤ 1000) (h : ∀ y ∈ ys, NoPr y) : Lz (.tup ys) u n false := by
  intro xs st x3 hx
  unfold webLz
  walk_at "go"
  refine p_mapP (it := ⟨ys, none⟩) (enc := id) (xs := ys) (fun x => .bl false) (List.map_id ys).symm True.intro (by omega) (fun y hy => ?_) ?_
  · refine som_e rfl ?_
    walk_at "go"
    refine pe (h y hy st _) ?_
    walk_at "go"
    exact ⟨rfl, rfl⟩
  · walk_at "go"
    have e : (ys.all fun _ => false) = false := by
      cases ys with
      | nil => exact absurd rfl h0
      | cons y ys => rfl
    rw [e]
    walk_at "go"
    exact ⟨rfl, rfl, rfl⟩
theorem lz_row (r : List Int) (hr : r.length < 64) : ∃ b, Lz (rowD' r) u n b ∧ (b = true ↔ okZ r u n) := by
  classical
  refine ⟨decide (okZ r u n), fun xs st x3 hl => ?_, decide_eq_true_iff⟩
  unfold webLz
  walk_at "go"
  refine pe ((show isiD "tuple" (rowD' r) st = .ok (.bl true) st from rfl)) ?_
  walk_at "go"
  refine p_mapP (it := ⟨r.map D.int, none⟩) (enc := D.int) (xs := r) (fun w => .bl (decide (0 ≤ w) && decide (w < (n : Int)))) rfl True.intro (by omega) (fun w hw => ?_) ?_
  · refine som_e rfl ?_
    walk_at "go"
    refine pe (S_lpr) ?_
    walk_at "go"
    exact ⟨rfl, by rw [hl]⟩
  · walk_at "go"
    generalize hall : (r.all fun w => decide (0 ≤ w) && decide (w < (n : Int))) = c
    cases c with
    | false =>
      walk_at "go"
      refine ⟨?_, rfl, rfl⟩
      rw [decide_eq_false_iff_not]
      intro k
      have : (r.all fun w => decide (0 ≤ w) && decide (w < (n : Int))) = true := List.all_eq_true.mpr fun w hw => by
        have := k.1 w hw
        rw [decide_eq_true this.1, decide_eq_true this.2.1]
        rfl
      rw [hall] at this
      cases this
    | true =>
      have ha := List.all_eq_true.mp hall
      walk_at "go"
      refine i_d (fun z => ?_) (fun z => ?_)
      · walk_at "go"
        exact ⟨by rw [decide_eq_false_iff_not]; exact fun k => (k.1 u z).2.2 rfl, rfl, rfl⟩
      · walk_at "go"
        refine pe ((show sortSetD (rowD' r) st = .ok (.lst ((sortU r).map D.int)) st from (sortSetL_ints).trans (guardR_pos hr))) ?_
        walk_at "go"
        refine pe ((show neD (.lst (r.map D.int)) (.lst ((sortU r).map D.int)) st = .ok (.bl (!decide (r = sortU r))) st from neD_lst)) ?_
        walk_at "go"
        refine i_nd (fun y => ?_) (fun y => ?_)
        · walk_at "go"
          exact ⟨by rw [decide_eq_false_iff_not]; exact fun k => y (asc_uniq (sortU_lt r) k.2 fun k => sortU_mem).symm, rfl, rfl⟩
        · walk_at "go"
          refine ⟨?_, rfl, _, rfl⟩
          rw [decide_eq_true_iff]
          refine ⟨fun w hw => ?_, by rw [y]; exact sortU_lt r⟩
          have := ha w hw
          rw [Bool.and_eq_true, decide_eq_true_iff, decide_eq_true_iff] at this
          exact ⟨this.1, this.2, fun e => z (by rw [← e]; exact hw)⟩
end
end

/-! is it a web: judged by both, whole; _law_deep -/
section
open PySem PySem.Spec PyProof.Rows L2 Hn
section
variable {st : Sto} {u n p g : Nat} {x d : D} {b : Bool} {w N : Int} {rows : List (List Int)}
def Pz (x : D) (u n : Nat) (b : Bool) : Prop := Pkv x u n b ∧ Lz x u n b ∧ (b = true → ∃ r, x = rowD' r ∧ okZ r u n)
theorem pz_row (r : List Int) (hr : r.length < 64) : ∃ b, Pz (rowD' r) u n b := by
  obtain ⟨b, h1, h2⟩ := lz_row (u := u) (n := n) r hr
  refine ⟨b, ?_, h1, fun e => ⟨r, rfl, h2.mp e⟩⟩
  cases b with
  | true =>
    have k := h2.mp rfl
    exact fun st => S_pocket k.2 (by omega) k.1
  | false => exact pk_no (by omega) fun k => by cases h2.mpr ⟨fun w hw => by have := k.1 w hw; omega, pw_ofZ k.2⟩
theorem pz_not (h : NoTup x) : Pz x u n false := ⟨pk_not h, lz_not h, fun e => by cases e⟩
theorem pz_no {ys : List D} (h0 : ys ≠ []) (hl : ys.length ≤ 1000) (h : ∀ y ∈ ys, NoPr y ∧ NoInt y) : Pz (.tup ys) u n false := by
  refine ⟨?_, lz_no h0 hl fun y hy => (h y hy).1, fun e => by cases e⟩
  have e : (ys.all fun _ => false) = false := by
    cases ys with
    | nil => exact absurd rfl h0
    | cons y ys => rfl
  have := S_pkt (xs := ys) (fun _ => false) u n hl (fun x hx st => by
    walk_at "go"
    refine pe (S_per_no (h x hx).2) ?_
    walk_at "go"
    exact ⟨rfl, rfl⟩) false (fun z => by rw [e] at z; cases z)
  rw [e] at this
  exact this
theorem pz_one {y : D} (h : NoPr y) (k : NoInt y) : Pz (.tup [y]) u n false := pz_no (by simp) (by simp) fun z hz => by
  rw [List.mem_singleton.mp hz]
  exact ⟨h, k⟩
def Jz (d : D) (b : Bool) : Prop := (∀ st, M_is_web [d] st = .ok (.bl b) st) ∧ (∀ st, M__law_is_web [d] st = .ok (.bl b) st) ∧ (b = true → ∃ rows, d = webD rows ∧ IsWeb rows)
theorem jz_not (h : NoTup x) : Jz x false := ⟨nw_not h, fun st => by
  unfold M__law_is_web
  refine def_eq rfl True.intro ?_
  show (mSeq _ _ [some x, none, none, none] st).wp ⟨_, _, _, _, _⟩
  walk_at "go"
  refine pe (h st) ?_
  walk_at "go"
  exact ⟨ex_same, rfl⟩, fun e => by cases e⟩
theorem jz_len {xs : List D} (h : xs.length = 0 ∨ 9 < xs.length) : Jz (.tup xs) false := ⟨nw_len h, fun st => by
  unfold M__law_is_web
  refine def_eq rfl True.intro ?_
  show (mSeq _ _ [some (.tup xs), none, none, none] st).wp ⟨_, _, _, _, _⟩
  walk_at "go"
  refine i_d (fun z => ?_) (fun z => ?_)
  · walk_at "go"
    rw [decide_eq_false (by omega)]
    walk_at "go"
    exact ⟨ex_same, rfl⟩
  · walk_at "go"
    exact ⟨ex_same, rfl⟩, fun e => by cases e⟩
theorem enumD_zip : ∀ (xs : List D) (k : Nat), enumD k xs = (xs.zipIdx k).map fun q : D × Nat => D.tup [.int (q.2 : Nat), q.1]
  | [], _ => rfl
  | x :: xs, k => by
    rw [List.zipIdx_cons, List.map_cons, ← enumD_zip xs (k + 1)]
    rfl
theorem w_enumZ {xs : List D} {ρ : Env} {st : Sto} {p : Pat} {b : Env → Sto → O} {nx : Env → Sto → Prop} {rt : D → Sto → Prop} {bk ct : Env → Sto → Prop} {er : Er → Sto → Prop} (Inv : Nat → Env → Sto → Prop) (h0 : Inv 0 ρ st)
    (step : ∀ (i : Nat) (hi : i < xs.length) (ρ : Env) (st : Sto), Inv i ρ st → Som (p.set (.tup [.int (i : Nat), xs[i]]) ρ) fun ρ1 => (b ρ1 st).wp ⟨Inv (i + 1), rt, nx, Inv (i + 1), er⟩)
    (fin : ∀ ρ st, Inv xs.length ρ st → nx ρ st) : (forGo ⟨enumD 0 xs, none⟩ p b (enumD 0 xs) ρ st).wp ⟨nx, rt, bk, ct, er⟩ :=
  w_forP (it := ⟨enumD 0 xs, none⟩) (enc := fun q : D × Nat => D.tup [.int (q.2 : Nat), q.1]) (xs := xs.zipIdx 0) Inv (by
    exact enumD_zip xs 0) h0 (fun _ _ _ _ => True.intro) (fun i hi ρ st h => by
    have hi' : i < xs.length := by simpa using hi
    have := step i hi' ρ st h
    simpa using this) (fun ρ st h => fin ρ st (by simpa using h))
theorem jz_tup {xs : List D} (h1 : 1 ≤ xs.length) (h9 : xs.length ≤ 9) (hb : ∀ i (h : i < xs.length), ∃ b, Pz xs[i] i xs.length b) : ∃ b, Jz (.tup xs) b := by
  obtain ⟨bs, hbs⟩ : ∃ bs : Nat → Bool, ∀ i (h : i < xs.length), Pz xs[i] i xs.length (bs i) := by
    classical
    refine ⟨fun i => if h : i < xs.length then Classical.choose (hb i h) else false, fun i h => ?_⟩
    simp only [h, dite_true]
    exact Classical.choose_spec (hb i h)
  refine ⟨(List.range xs.length).all bs, fun st => ?_, fun st => ?_, fun e => ?_⟩
  · unfold M_is_web
    refine def_eq rfl True.intro ?_
    show (mSeq _ _ [some (.tup xs), none] st).wp ⟨_, _, _, _, _⟩
    walk_at "go"
    refine i_d (fun z => ?_) (fun z => absurd (by omega) z)
    walk_at "go"
    rw [decide_eq_true (show (xs.length : Int) ≤ 9 by omega)]
    walk_at "go"
    refine p_mapR (n := xs.length) (fun i => .bl (bs i)) (by omega) (fun i I hI hi => ?_) ?_
    · walk_at "go"
      refine som_e (by rw [← hI]; exact atI_nat (List.getElem?_eq_getElem hi)) ?_
      walk_at "go"
      rw [← hI]
      refine pe ((hbs i hi).1 st) ?_
      walk_at "go"
      exact ⟨rfl, rfl⟩
    · walk_at "go"
      exact ⟨ex_same, rfl⟩
  · unfold M__law_is_web
    refine def_eq rfl True.intro ?_
    show (mSeq _ (mSeq (mFor _ _ webLz) _) [some (.tup xs), none, none, none] st).wp ⟨_, _, _, _, _⟩
    walk_at "go"
    refine i_d (fun z => ?_) (fun z => absurd (by omega) z)
    walk_at "go"
    rw [decide_eq_true (show (xs.length : Int) ≤ 9 by omega)]
    walk_at "go"
    refine w_enumZ (fun i ρ s => s = st ∧ (∀ j, j < i → bs j = true) ∧ ∃ x1 x2 x3, ρ = [some (.tup xs), x1, x2, x3]) ⟨rfl, fun j hj => by omega, _, _, _, rfl⟩ ?_ ?_
    · rintro i hi ρ s ⟨rfl, all, x1, x2, x3, rfl⟩
      refine som_e rfl ?_
      refine wp_mono ((hbs i hi).2.1 xs s x3 rfl) (fun ρ s' ⟨e, e2, x3, e3⟩ => ⟨e2, fun j hj => ?_, _, _, _, e3⟩) (fun d s' ⟨e, e2, e3⟩ => ?_) (fun _ _ z => z.elim) (fun _ _ z => z.elim) fun _ _ z => z.elim
      · rcases Nat.lt_succ_iff_lt_or_eq.mp hj with k | rfl
        · exact all j k
        · exact e
      · refine ⟨⟨[], by rw [e3]; simp⟩, ?_⟩
        rw [e2, List.all_eq_false.mpr ⟨i, List.mem_range.mpr hi, by rw [e]; decide⟩]
    · rintro ρ s ⟨rfl, all, x1, x2, x3, rfl⟩
      walk_at "go"
      exact ⟨ex_same, by rw [List.all_eq_true.mpr fun j hj => all j (List.mem_range.mp hj)]⟩
  · have each := List.all_eq_true.mp e
    have : ∀ i (h : i < xs.length), ∃ r, xs[i] = rowD' r ∧ okZ r i xs.length := fun i h => (hbs i h).2.2 (each i (List.mem_range.mpr h))
    obtain ⟨rows, er, hr⟩ : ∃ rows : List (List Int), xs = rowsL rows ∧ ∀ i (h : i < rows.length), okZ rows[i] i xs.length := by
      refine ⟨(List.range xs.length).map fun i => if h : i < xs.length then Classical.choose (this i h) else [], ?_, fun i h => ?_⟩
      · unfold rowsL
        refine List.ext_getElem (by simp) fun i h1 h2 => ?_
        simp only [List.getElem_map, List.getElem_range, h1, dite_true]
        exact (Classical.choose_spec (this i h1)).1
      · have h2 : i < xs.length := by simpa using h
        simp only [List.getElem_map, List.getElem_range, h2, dite_true]
        exact (Classical.choose_spec (this i h2)).2
    have el : rows.length = xs.length := by rw [er, rowsL_len]
    refine ⟨rows, by rw [er]; rfl, by omega, by omega, fun u hu => ?_, fun u hu => ?_⟩
    · rw [rowAt_nat hu]
      exact (hr u hu).2
    · rw [rowAt_nat hu, el]
      exact (hr u hu).1
theorem jz_web (h : IsWeb rows) : Jz (webD rows) true := by
  obtain ⟨b, j⟩ := jz_tup (xs := rowsL rows) (by rw [rowsL_len]; exact h.pos) (by rw [rowsL_len]; exact h.few) fun i hi => by
    rw [rowsL_len] at hi
    have e2 : (rowsL rows)[i]'(by rw [rowsL_len]; exact hi) = rowD' rows[i] := by
      unfold rowsL
      rw [List.getElem_map]
    rw [e2]
    have := h.row hi
    rw [rowAt_nat hi] at this
    exact pz_row _ (by omega)
  have e := (S_is_web (st := []) h).symm.trans (j.1 [])
  injection e with e
  injection e with e
  rw [e]
  exact j
theorem rowsL_atZ {rs : List (List Int)} {i : Nat} (h : i < (rowsL rs).length) : (rowsL rs)[i] = rowD' (rs[i]'(by rw [rowsL_len] at h; exact h)) := List.getElem_map rowD'
theorem jz_rows {rs : List (List Int)} (h : ∀ r ∈ rs, r.length < 64) : ∃ b, Jz (.tup (rowsL rs)) b := by
  by_cases z : rs.length = 0 ∨ 9 < rs.length
  · exact ⟨_, jz_len (by rw [rowsL_len]; exact z)⟩
  · refine jz_tup (by rw [rowsL_len]; omega) (by rw [rowsL_len]; omega) fun i hi => ?_
    rw [rowsL_atZ hi]
    exact pz_row _ (h _ (List.getElem_mem _))
theorem jz_set (h : IsWeb rows) {x : D} (hu : u < rows.length) (hx : ∃ b, Pz x u rows.length b) : ∃ b, Jz (.tup ((rowsL rows).take u ++ [x] ++ (rowsL rows).drop (u + 1))) b := by
  have e : (rowsL rows).take u ++ [x] ++ (rowsL rows).drop (u + 1) = (rowsL rows).set u x := by
    rw [List.set_eq_take_append_cons_drop, if_pos (by rw [rowsL_len]; exact hu), List.append_assoc]
    rfl
  rw [e]
  have l : ((rowsL rows).set u x).length = rows.length := by rw [List.length_set, rowsL_len]
  refine jz_tup (by rw [l]; exact h.pos) (by rw [l]; exact h.few) fun i hi => ?_
  rw [l] at hi
  rw [List.getElem_set]
  by_cases z : u = i
  · subst z
    rw [if_pos rfl, l]
    exact hx
  · rw [if_neg z, rowsL_atZ]
    have := h.row hi
    rw [rowAt_nat hi] at this
    exact pz_row _ (by omega)
def dpT : Nat → D
  | 0 => .non
  | k + 1 => .tup [dpT k]
def dpL : Nat → D
  | 0 => .non
  | k + 1 => .lst [dpL k]
theorem dpT_cl {m : Nat} : ∀ k, ClD m (dpT k)
  | 0 => True.intro
  | k + 1 => ⟨dpT_cl k, True.intro⟩
theorem dpL_cl {m : Nat} : ∀ k, ClD m (dpL k)
  | 0 => True.intro
  | k + 1 => ⟨dpL_cl k, True.intro⟩
theorem S_dpT : M__law_deep [.int 1] st = .ok (dpT 28) st := by
  unfold M__law_deep
  refine def_eq rfl (dpT_cl 28) ?_
  show (mSeq _ _ [some (.int 1), none, none] st).wp ⟨_, _, _, _, _⟩
  walk_at "go"
  refine p_rng (n := 28) (by decide) ?_
  refine w_forR (fun i ρ s => s = st ∧ ∃ x2, ρ = [some (.int 1), some (dpT i), x2]) ⟨rfl, _, rfl⟩ ?_ ?_
  · rintro i I ρ s hI hi ⟨rfl, x1, rfl⟩
    refine som_e rfl ?_
    walk_at "go"
    show R.post (mTup (mCons (mV 1) mNil) [some (.int 1), some (dpT i), some (.int I)] s) _ _
    walk_at "go"
    exact ⟨rfl, _, rfl⟩
  · rintro ρ s ⟨rfl, x1, rfl⟩
    walk_at "go"
    exact ⟨ex_same, rfl⟩
theorem S_dpL : M__law_deep [.int 0] st = .ok (dpL 28) st := by
  unfold M__law_deep
  refine def_eq rfl (dpL_cl 28) ?_
  show (mSeq _ _ [some (.int 0), none, none] st).wp ⟨_, _, _, _, _⟩
  walk_at "go"
  refine p_rng (n := 28) (by decide) ?_
  refine w_forR (fun i ρ s => s = st ∧ ∃ x2, ρ = [some (.int 0), some (dpL i), x2]) ⟨rfl, _, rfl⟩ ?_ ?_
  · rintro i I ρ s hI hi ⟨rfl, x1, rfl⟩
    refine som_e rfl ?_
    walk_at "go"
    show R.post (mLst (mCons (mV 1) mNil) [some (.int 0), some (dpL i), some (.int I)] s) _ _
    walk_at "go"
    exact ⟨rfl, _, rfl⟩
  · rintro ρ s ⟨rfl, x1, rfl⟩
    walk_at "go"
    exact ⟨ex_same, rfl⟩
theorem jz_deep : ∃ b, Jz (dpT 28) b := jz_tup (xs := [dpT 27]) (by decide) (by decide) fun i hi => by
  have : i = 0 := by simpa using hi
  subst this
  exact ⟨_, pz_one (y := dpT 26) (nopr fun _ => rfl) noint_tup⟩
end
end

/-! _law_some, _law_web (many, share), _law_drawn_web (most) -/
section
open PySem PySem.Spec PyProof.Rows L2 Hn
section
variable {st : Sto} {p g n : Nat} {xs : List D}
theorem S_some (hp : Pot st p g) (h0 : 0 < xs.length) (hl : xs.length ≤ 1000000) : ∃ d st', M__law_some [.loc p, .lst xs] st = .ok d st' ∧ Keep p g st st' ∧ Pot st' p g ∧ d ∈ xs := by
  unfold M__law_some
  refine def_keep hp rfl ?_
  show (mRet _ [some (.loc p), some (.lst xs)] st).wp ⟨_, _, _, _, _⟩
  walk_at "go"
  obtain ⟨dd, st1, e1, k1, pot1, r, rfl, r0, r1⟩ := S_draw (m := xs.length) hp (by omega) (by omega)
  refine pe (e1) ?_
  walk_at "go"
  obtain ⟨x, h1, h2⟩ := atI_in r0 r1
  exact som_e h1 ⟨k1, pot1, List.mem_of_getElem? h2⟩
theorem asc_snoc {r : List Int} {j : Int} (h : r.Pairwise (· < ·)) (k : ∀ x ∈ r, x < j) : (r ++ [j]).Pairwise (· < ·) := by
  rw [List.pairwise_append]
  exact ⟨h, by simp, fun x hx y hy => by rw [List.mem_singleton.mp hy]; exact k x hx⟩
theorem S_hweb {N S : Int} (hp : Pot st p g) (hN : (n : Int) = N) (h1 : 1 ≤ n) (h9 : n ≤ 9) : ∃ d st', M__law_web [.loc p, .int N, .int S] st = .ok d st' ∧ Keep p g st st' ∧ Pot st' p g ∧ ∃ W, d = webD W ∧ IsWeb W ∧ W.length = n := by
  have lt := hp.lt
  unfold M__law_web
  refine def_keep hp rfl ?_
  show (mSeq _ _ [some (.loc p), some (.int N), some (.int S), none, none, none] st).wp ⟨_, _, _, _, _⟩
  walk_at "go"
  subst hN
  refine p_rng (n := n) (by omega) ?_
  refine w_forR (fun i ρ s => ∃ (R : List (List Int)) (x4 x5 : Option D), ρ = [some (.loc p), some (.int (n : Nat)), some (.int S), some (.loc st.length), x4, x5] ∧ Keep p g st s ∧ Pot s p g ∧ s[st.length]? = some (.lst (R.map rowD')) ∧ R.length = i ∧ ∀ u (hu : u < R.length), R[u].Pairwise (· < ·) ∧ ∀ w ∈ R[u], 0 ≤ w ∧ w < (n : Int) ∧ w ≠ (u : Int)) ⟨[], _, _, rfl, Keep.app, hp.app, g_last, rfl, fun u hu => absurd hu (Nat.not_lt_zero _)⟩ ?_ ?_
  · rintro i I ρ s hI hi ⟨R, x4, x5, rfl, k, pot, q, lR, hR⟩
    subst hI
    refine som_e rfl ?_
    walk_at "go"
    refine p_compI (it := ⟨rngD 0 n, none⟩) (fun j s' acc => ∃ r : List Int, acc = r.map D.int ∧ Keep p g s s' ∧ Pot s' p g ∧ r.Pairwise (· < ·) ∧ (∀ w ∈ r, 0 ≤ w ∧ w < (j : Int) ∧ w ≠ (i : Int)) ∧ r.length ≤ j) ⟨[], rfl, .refl, pot, .nil, fun w h => (by cases h), Nat.le_refl _⟩ ?_ ?_
    · rintro j d s' acc hd ⟨r, rfl, k', pot', up, rg, ln⟩
      obtain ⟨hj, rfl⟩ := rngD_at hd
      refine ⟨True.intro, by rw [List.length_map]; exact lim_of (by omega), som_e rfl ?_⟩
      rw [Int.zero_add]
      have keepR : ∀ w ∈ r, 0 ≤ w ∧ w < ((j + 1 : Nat) : Int) ∧ w ≠ (i : Int) := fun w hw => by have := rg w hw; omega
      walk_at "go"
      refine i_nd (fun z => ?_) (fun z => ?_)
      · walk_at "go"
        obtain ⟨dd, s2, e2, k2, pot2, t, rfl, t0, t1⟩ := S_draw (m := 12) pot' (by decide) (by decide)
        refine pe (e2) ?_
        walk_at "go"
        refine i_d (fun y => ?_) (fun y => ?_)
        · walk_at "go"
          refine ⟨r ++ [(j : Int)], by rw [List.map_append]; rfl, k'.trans k2, pot2, asc_snoc up fun x hx => (rg x hx).2.1, fun w hw => ?_, by rw [List.length_append, List.length_singleton]; omega⟩
          rcases List.mem_append.mp hw with y | y
          · exact keepR w y
          · rw [List.mem_singleton.mp y]
            omega
        · exact ⟨r, rfl, k'.trans k2, pot2, up, keepR, by omega⟩
      · exact ⟨r, rfl, k', pot', up, keepR, by omega⟩
    · rintro s' acc ⟨r, rfl, k', pot', up, rg, ln⟩
      have e : (Wk.items ⟨rngD 0 n, none⟩).length = n := rngD_len
      rw [e] at rg
      have q' := k'.get q (by omega) (by omega)
      refine ⟨True.intro, ?_⟩
      walk_at "go"
      refine ⟨R ++ [r], _, _, rfl, (k.trans k').setN (by omega), pot'.setN (by omega) (by omega), by rw [g_set q', List.map_append]; rfl, by rw [List.length_append, lR]; rfl, fun u hu => ?_⟩
      rw [List.getElem_append]
      split
      · rename_i hu2
        exact hR u hu2
      · rename_i hu2
        rw [List.length_append, List.length_singleton] at hu
        have e : u = i := by omega
        subst e
        simp only [List.getElem_singleton]
        exact ⟨up, rg⟩
  · rintro ρ s ⟨R, x4, x5, rfl, k, pot, q, lR, hR⟩
    walk_at "go"
    refine ⟨k, pot, R, rfl, ⟨by omega, by omega, fun u hu => ?_, fun u hu => ?_⟩, lR⟩
    · rw [rowAt_nat hu]
      exact (hR u hu).1
    · rw [rowAt_nat hu, lR]
      exact (hR u hu).2
end
end

/-! _law_bent_web -/
section
open PySem PySem.Spec PyProof.Rows L2 Hn
section
variable {st : Sto} {u n p g : Nat} {x d : D} {b : Bool} {w N : Int} {rows : List (List Int)}
theorem l_addZ {a b : List Int} {st : Sto} {P : D → Sto → Prop} {B : Er → Sto → Prop} (hl : a.length + b.length ≤ 1000) (h : P (rowD' (a ++ b)) st) : (addD (rowD' a) (rowD' b) st).post P B := by
  refine l_addR (w := a) ⟨by rw [List.length_map]; exact lim_of (by omega), ?_⟩
  rw [← List.map_append]
  exact h
theorem noint_non : NoInt .non := fun st => by
  unfold M_is_integer
  refine def_eq rfl True.intro ?_
  show (mRet _ [some .non] st).wp ⟨_, _, _, _, _⟩
  walk_at "go"
  refine pe (show isiD "int" .non st = .ok (.bl false) st from rfl) ?_
  walk_at "go"
  exact ⟨ex_same, rfl⟩
theorem slR_one {r : List Int} : slD (rowD' r) none (some (1 : Int)) st = .ok (rowD' (r.take 1)) st := by
  cases r with
  | nil => rfl
  | cons a r =>
    show R.ok (D.tup (cutD (((a :: r).map D.int)) none (some ((1 : Nat) : Int)))) st = _
    rw [cut_take _ _ (by simp), ← List.map_take]
    rfl
theorem S_bentZ (h : IsWeb rows) (hp : Pot st p g) : ∃ d st', M__law_bent_web [.loc p, webD rows] st = .ok d st' ∧ Keep p g st st' ∧ Pot st' p g ∧ ∃ b, Jz d b := by
  have h1 := h.pos
  have h9 := h.few
  unfold M__law_bent_web
  refine def_keep hp rfl ?_
  show (mSeq _ _ [some (.loc p), some (webD rows), none, none, none, none] st).wp ⟨_, _, _, _, _⟩
  walk_at "go"
  obtain ⟨dd, st1, e1, k1, pot1, r, rfl, r0, r1⟩ := S_draw (m := rows.length) hp (by omega) (by omega)
  refine pe (e1) ?_
  walk_at "go"
  obtain ⟨u, rfl⟩ : ∃ u : Nat, r = (u : Int) := ⟨r.toNat, by omega⟩
  have hu : u < rows.length := by omega
  have hrow := h.row hu
  walk_at "go"
  refine pe ((show slD (rowD' (rowAt rows (u : Nat))) none (some (1 : Int)) st1 = .ok (rowD' ((rowAt rows (u : Nat)).take 1)) st1 from slR_one)) ?_
  walk_at "go"
  refine l_addZ (by rw [List.length_take]; omega) ?_
  walk_at "go"
  refine pe ((show ∀ r : List Int, revD (rowD' r) st1 = .ok (rowD' r.reverse) st1 from fun r => by show R.ok (D.tup (r.map D.int).reverse) st1 = _; rw [← List.map_reverse]; rfl) _) ?_
  walk_at "go"
  refine pe ((show negD (.int 1) st1 = .ok (.int (-1)) st1 from rfl)) ?_
  walk_at "go"
  refine pe ((show powD (.int 10) (.int 30) st1 = .ok (.int ((10 : Int) ^ (30 : Int).toNat)) st1 from guardR_pos (by decide))) ?_
  walk_at "go"
  refine pe (S_dpT) ?_
  walk_at "go"
  refine pe ((show mDct0 _ st1 = .ok (.dct [] []) st1 from rfl)) ?_
  walk_at "go"
  have lt := pot1.lt
  generalize hT30 : (10 : Int) ^ (30 : Int).toNat = T30
  generalize hps : ([D.tup ((rowAt rows (u : Nat)).map D.int ++ [.int (u : Nat)]), D.tup ((rowAt rows (u : Nat)).map D.int ++ [.int (rows.length : Nat)]), rowD' (rowAt rows (u : Nat) ++ (rowAt rows (u : Nat)).take 1), rowD' (rowAt rows (u : Nat)).reverse, .lst ((rowAt rows (u : Nat)).map D.int), .non, .int 0, .str "", .tup [.non], .tup [.int (-1)]] ++ [.tup [.bl true], .tup [.bl false], .tup [.str "0"], .tup [.tup [.int 0]], .tup ((rowAt rows (u : Nat)).map D.int ++ [.int T30]), dpT 28, .dct [] [], .tup [.int 0, .int 1], .tup [.int 1, .int 0]] : List D) = ps
  have pz : ∀ x ∈ ps, ∃ b, Pz x u rows.length b := fun x hx => by
    subst hps
    have more : ∀ w : Int, ∃ b, Pz (D.tup ((rowAt rows (u : Nat)).map D.int ++ [.int w])) u rows.length b := fun w => by
      have := pz_row (u := u) (n := rows.length) (rowAt rows (u : Nat) ++ [w]) (by rw [List.length_append, List.length_singleton]; omega)
      unfold rowD' at this
      rw [List.map_append] at this
      exact this
    simp only [List.mem_append, List.mem_cons, List.not_mem_nil, or_false] at hx
    rcases hx with (rfl | rfl | rfl | rfl | rfl | rfl | rfl | rfl | rfl | rfl) | (rfl | rfl | rfl | rfl | rfl | rfl | rfl | rfl | rfl)
    · exact more _
    · exact more _
    · exact pz_row _ (by rw [List.length_append, List.length_take]; omega)
    · exact pz_row _ (by rw [List.length_reverse]; omega)
    · exact ⟨_, pz_not fun _ => rfl⟩
    · exact ⟨_, pz_not fun _ => rfl⟩
    · exact ⟨_, pz_not fun _ => rfl⟩
    · exact ⟨_, pz_not fun _ => rfl⟩
    · exact ⟨_, pz_one (nopr fun _ => rfl) noint_non⟩
    · exact pz_row [-1] (by simp)
    · exact ⟨_, pz_one nopr_bl noint_bl⟩
    · exact ⟨_, pz_one nopr_bl noint_bl⟩
    · exact ⟨_, pz_one (nopr fun _ => rfl) noint_str⟩
    · exact ⟨_, pz_one (nopr fun _ => rfl) noint_tup⟩
    · exact more _
    · exact ⟨_, pz_one (y := dpT 27) (nopr fun _ => rfl) noint_tup⟩
    · exact ⟨_, pz_not fun _ => rfl⟩
    · exact pz_row [0, 1] (by simp)
    · exact pz_row [1, 0] (by simp)
  have hp0 : 0 < ps.length := by subst hps; simp
  have hp1 : ps.length ≤ 1000000 := by subst hps; simp
  refine pe ((show ∀ s : Sto, slD (webD rows) none (some (u : Int)) s = .ok (.tup (cutD (rowsL rows) none (some (u : Int)))) s from fun _ => rfl) _) ?_
  walk_at "go"
  rw [cut_take _ _ (by rw [rowsL_len]; omega)]
  obtain ⟨x, st3, e3, k3, pot3, hx⟩ := S_some (st := st1) (xs := ps) pot1 hp0 hp1
  have hT : ((rowsL rows).take u).length ≤ 9 := by rw [List.length_take, rowsL_len]; omega
  have hD : ((rowsL rows).drop (u + 1)).length ≤ 9 := by rw [List.length_drop, rowsL_len]; omega
  refine pe (e3) ?_
  walk_at "go"
  refine pe ((show ∀ s : Sto, slD (webD rows) (some ((u : Int) + 1)) none s = .ok (.tup (cutD (rowsL rows) (some ((u : Int) + 1)) none)) s from fun _ => rfl) _) ?_
  walk_at "go"
  rw [show (u : Int) + 1 = ((u + 1 : Nat) : Int) by omega, cut_drop _ _ (by rw [rowsL_len]; omega)]
  walk_at "go"
  have j1 := jz_set h hu (pz x hx)
  have ej1 : ∃ A1, D.tup ((rowsL rows).take u ++ [x] ++ (rowsL rows).drop (u + 1)) = A1 := ⟨_, rfl⟩
  obtain ⟨A1, ej1⟩ := ej1
  rw [ej1] at j1 ⊢
  refine pe ((show mulD (.lst [A1]) (.int 6) st3 = .ok (.lst [A1, A1, A1, A1, A1, A1]) st3 from by rw [mulD_lst, guardR_pos (by simp)]; rfl)) ?_
  walk_at "go"
  refine pe ((show negD (.int 1) st3 = .ok (.int (-1)) st3 from rfl)) ?_
  walk_at "go"
  obtain ⟨rs, ers, hrs⟩ : ∃ rs : List (List Int), cutD (rowsL rows) none (some (-1)) = rowsL rs ∧ ∀ r ∈ rs, r ∈ rows := by
    refine ⟨(rows.drop (HT.sIx (rowsL rows).length 0 none)).take (HT.sIx (rowsL rows).length (rowsL rows).length (some (-1)) - HT.sIx (rowsL rows).length 0 none), ?_, fun r hr => List.mem_of_mem_drop (List.mem_of_mem_take hr)⟩
    unfold cutD rowsL
    rw [List.map_take, List.map_drop]
  refine pe ((show ∀ s : Sto, slD (webD rows) none (some (-1)) s = .ok (.tup (cutD (rowsL rows) none (some (-1)))) s from fun _ => rfl) _) ?_
  walk_at "go"
  rw [ers]
  refine pe ((show mDct0 _ st3 = .ok (.dct [] []) st3 from rfl)) ?_
  walk_at "go"
  refine pe (S_dpL) ?_
  walk_at "go"
  refine pe (S_dpT) ?_
  walk_at "go"
  refine pe ((show mulD (.tup [.tup []]) (.int 10) st3 = .ok (.tup (List.replicate 10 (.tup []))) st3 from by rw [mulD_tup, guardR_pos (by decide)]; rfl)) ?_
  walk_at "go"
  refine pe ((show mulD (.tup [.tup []]) (.int 9) st3 = .ok (.tup (List.replicate 9 (.tup []))) st3 from by rw [mulD_tup, guardR_pos (by decide)]; rfl)) ?_
  walk_at "go"
  obtain ⟨d, st4, e4, k4, pot4, hd⟩ := S_some (st := st3) (xs := [A1, A1, A1, A1, A1, A1] ++ [D.lst (rowsL rows), D.tup (rowsL rows ++ [D.tup []]), D.tup (rowsL rs), D.tup [], D.non, D.int 3] ++ [D.str "web", D.dct [] [], D.bl true, dpL 28, dpT 28, D.tup (List.replicate 10 (D.tup [])), D.tup (List.replicate 9 (D.tup [])), D.tup [webD rows], webD rows]) pot3 (by simp) (by simp)
  refine pe (e4) ?_
  walk_at "go"
  refine ⟨k1.trans (k3.trans k4), pot4, ?_⟩
  have short : ∀ r ∈ rows, r.length < 64 := fun r hr => by
    obtain ⟨i, hi, rfl⟩ := List.getElem_of_mem hr
    have := h.row hi
    rw [rowAt_nat hi] at this
    omega
  have j2 : ∃ b, Jz (D.tup (rowsL rows ++ [D.tup []])) b := by
    have := jz_rows (rs := rows ++ [[]]) fun r hr => by
      rcases List.mem_append.mp hr with z | z
      · exact short r z
      · rw [List.mem_singleton.mp z]; simp
    unfold rowsL at this ⊢
    rw [List.map_append] at this
    exact this
  have j3 : ∃ b, Jz (D.tup (rowsL rs)) b := jz_rows fun r hr => short r (hrs r hr)
  have j4 : ∃ b, Jz (D.tup [webD rows]) b := jz_tup (by simp) (by simp) fun i hi => by
    have : i = 0 := by simpa using hi
    subst this
    refine ⟨_, pz_no (ys := rowsL rows) (fun z => ?_) (by rw [rowsL_len]; omega) fun y hy => ?_⟩
    · have := congrArg List.length z
      rw [rowsL_len] at this
      simp only [List.length_nil] at this
      omega
    · obtain ⟨r, _, rfl⟩ := List.mem_map.mp hy
      exact ⟨nopr fun _ => rfl, noint_tup⟩
  simp only [List.mem_append, List.mem_cons, List.not_mem_nil, or_false] at hd
  rcases hd with ((rfl | rfl | rfl | rfl | rfl | rfl) | (rfl | rfl | rfl | rfl | rfl | rfl)) | (rfl | rfl | rfl | rfl | rfl | rfl | rfl | rfl | rfl)
  · exact j1
  · exact j1
  · exact j1
  · exact j1
  · exact j1
  · exact j1
  · exact ⟨_, jz_not fun _ => rfl⟩
  · exact j2
  · exact j3
  · exact ⟨_, jz_len (.inl rfl)⟩
  · exact ⟨_, jz_not fun _ => rfl⟩
  · exact ⟨_, jz_not fun _ => rfl⟩
  · exact ⟨_, jz_not fun _ => rfl⟩
  · exact ⟨_, jz_not fun _ => rfl⟩
  · exact ⟨_, jz_not fun _ => rfl⟩
  · exact ⟨_, jz_not fun _ => rfl⟩
  · exact jz_deep
  · exact ⟨_, jz_len (.inr (by simp))⟩
  · exact jz_rows (rs := List.replicate 9 []) fun r hr => by rw [(List.mem_replicate.mp hr).2]; simp
  · exact j4
  · exact ⟨_, jz_web h⟩
end
end

/-! who is left when some vanish: without, is_whole -/
section
open PySem PySem.Spec PyProof.Rows L2 Hn
section
variable {st : Sto} {W R : List (List Int)} {G : List Int} {n : Nat}
theorem enumD_ix {α : Type} (e : α → D) (z : α) : ∀ (xs : List α) (i : Nat), enumD i (xs.map e) = (List.range xs.length).map fun k : Nat => D.tup [.int ((i + k : Nat) : Int), e (xs.getD k z)]
  | [], _ => rfl
  | x :: xs, i => by
    rw [List.map_cons]
    unfold enumD
    rw [enumD_ix e z xs (i + 1), List.length_cons, List.range_succ_eq_map, List.map_cons, List.map_map]
    refine List.cons_eq_cons.mpr ⟨rfl, List.map_congr_left fun k _ => ?_⟩
    show _ = D.tup [.int ((i + (k + 1) : Nat) : Int), _]
    rw [show i + 1 + k = i + (k + 1) by omega]
    rfl
/-- the rows where these have vanished -/
def woG (R : List (List Int)) (G : List Int) : List (List Int) := (List.range R.length).map fun u : Nat => if (u : Int) ∈ G then [] else (R.getD u []).filter fun w => decide (w ∉ G)
@[simp] theorem woG_len : (woG R G).length = R.length := by unfold woG; rw [List.length_map, List.length_range]
theorem S_withoutV (hl : R.length ≤ 1000) (hr : ∀ r ∈ R, r.length ≤ 1000) : M_without [webD R, rowD' G] st = .ok (webD (woG R G)) st := by
  unfold M_without
  refine def_eq rfl cl_web ?_
  show (mRet _ [some (webD R), some (rowD' G), none, none, none] st).wp ⟨_, _, _, _, _⟩
  walk_at "go"
  refine pe (show enumR [webD R] st = .ok ⟨enumD 0 (R.map rowD'), none⟩ st from rfl) ?_
  refine p_mapP (it := ⟨enumD 0 (R.map rowD'), none⟩) (enc := fun k : Nat => D.tup [.int ((0 + k : Nat) : Int), rowD' (R.getD k [])]) (xs := List.range R.length) (fun u : Nat => rowD' (if (u : Int) ∈ G then [] else (R.getD u []).filter fun w => decide (w ∉ G))) (enumD_ix rowD' [] R 0) True.intro (by rw [List.length_range]; omega) (fun k hk => ?_) ?_
  · have hk2 := List.mem_range.mp hk
    have hm : R.getD k [] ∈ R := by
      rw [List.getD_eq_getElem?_getD, List.getElem?_eq_getElem hk2]
      exact List.getElem_mem _
    have hlr := hr _ hm
    generalize R.getD k [] = r at hlr ⊢
    refine som_e rfl ?_
    rw [Nat.zero_add]
    walk_at "go"
    refine i_d (fun z => ?_) (fun z => ?_)
    · walk_at "go"
      exact ⟨rfl, by rw [if_pos z]; rfl⟩
    · walk_at "go"
      refine p_compL (enc := D.int) (xs := r) (fun w => decide (w ∉ G)) D.int (by omega) (fun w hw => ?_) ?_
      · refine som_e rfl ⟨?_, fun _ => ?_⟩
        · walk_at "go"
          exact ⟨rfl, by simp⟩
        · walk_at "go"
          exact ⟨rfl, rfl⟩
      · walk_at "go"
        exact ⟨rfl, by rw [if_neg z]; rfl⟩
  · walk_at "go"
    refine ⟨ex_same, ?_⟩
    unfold webD rowsL woG
    rw [List.map_map]
    rfl
end
end

/-! is_whole -/
section
open PySem PySem.Spec PyProof.Rows L2 Hn
section
variable {st : Sto} {W : List (List Int)} {G : List Int} {n : Nat}
theorem woG_inr (h : InRange W) : InRange (woG W G) := fun r hr w hw => by
  unfold woG at hr
  obtain ⟨u, hu, rfl⟩ := List.mem_map.mp hr
  have hu := List.mem_range.mp hu
  rw [woG_len]
  split at hw
  · cases hw
  · have hm : W.getD u [] ∈ W := by
      rw [List.getD_eq_getElem?_getD, List.getElem?_eq_getElem hu]
      exact List.getElem_mem _
    exact h _ hm w (List.mem_filter.mp hw).1
theorem finds_short (h : W.length ≤ 9) : ∀ r ∈ findsOf W, r.length ≤ 9 := fun r hr => by
  unfold findsOf at hr
  obtain ⟨u, _, rfl⟩ := List.mem_map.mp hr
  unfold foundOf
  rw [List.length_map]
  exact Nat.le_trans (List.length_filter_le _ _) (by rw [List.length_range]; exact h)
noncomputable def wB (W : List (List Int)) (G : List Int) : Bool := ((List.range W.length).filter fun u : Nat => decide ((u : Int) ∉ G)).all fun u => decide (((rowAt (woG (findsOf (woG W G)) G) (u : Nat)).length : Int) = (W.length : Int) - G.length)
theorem S_whole (h : IsWeb W) : M_is_whole [webD W, rowD' G] st = .ok (.bl (wB W G)) st := by
  have h9 := h.few
  have hw := h.inr
  have l1 : (woG W G).length = W.length := woG_len
  have l2 : (findsOf (woG W G)).length = W.length := by rw [findsOf_len, l1]
  have l3 : (woG (findsOf (woG W G)) G).length = W.length := by rw [woG_len, l2]
  have hs : ∀ r ∈ W, r.length ≤ 1000 := fun r hr => by
    obtain ⟨i, hi, rfl⟩ := List.getElem_of_mem hr
    have := h.row hi
    rw [rowAt_nat hi] at this
    omega
  unfold M_is_whole
  refine def_eq rfl True.intro ?_
  show (mSeq _ _ [some (webD W), some (rowD' G), none, none, none, none] st).wp ⟨_, _, _, _, _⟩
  walk_at "go"
  refine pe (S_withoutV (R := W) (by omega) hs) ?_
  walk_at "go"
  refine pe (S_all Pk.web (woG_inr hw) (by omega)) ?_
  walk_at "go"
  refine pe (S_withoutV (by omega) (fun r hr => by have := finds_short (W := woG W G) (by omega) r hr; omega)) ?_
  walk_at "go"
  refine pe (show enumR [webD (woG (findsOf (woG W G)) G)] st = .ok ⟨enumD 0 ((woG (findsOf (woG W G)) G).map rowD'), none⟩ st from rfl) ?_
  refine p_compP (it := ⟨enumD 0 ((woG (findsOf (woG W G)) G).map rowD'), none⟩) (enc := fun k : Nat => D.tup [.int ((0 + k : Nat) : Int), rowD' ((woG (findsOf (woG W G)) G).getD k [])]) (xs := List.range (woG (findsOf (woG W G)) G).length) (fun u : Nat => decide ((u : Int) ∉ G)) (fun u : Nat => .bl (decide (((rowAt (woG (findsOf (woG W G)) G) (u : Nat)).length : Int) = (W.length : Int) - G.length))) (enumD_ix rowD' [] _ 0) True.intro (by rw [List.length_range, l3]; omega) (fun k hk => ?_) ?_
  · have hk2 := List.mem_range.mp hk
    have hm : (woG (findsOf (woG W G)) G).getD k [] = rowAt (woG (findsOf (woG W G)) G) (k : Nat) := by
      rw [rowAt_nat hk2, List.getD_eq_getElem?_getD, List.getElem?_eq_getElem hk2]
      rfl
    rw [hm]
    generalize rowAt (woG (findsOf (woG W G)) G) (k : Nat) = r
    refine som_e rfl ⟨?_, fun _ => ?_⟩
    · rw [Nat.zero_add]
      walk_at "go"
      exact ⟨rfl, by simp⟩
    · walk_at "go"
      exact ⟨rfl, rfl⟩
  · walk_at "go"
    refine ⟨ex_same, ?_⟩
    unfold wB
    rw [l3]
end
end

/-! is_whole, as maths -/
section
open PySem PySem.Spec PyProof.Rows L2 Hn
section
variable {W : List (List Int)} {G : List Int} {n : Nat}
/-- so many numbers, each once, below n -/
structure Lot (n : Nat) (G : List Int) : Prop where
  nd : G.Nodup
  rng : ∀ x ∈ G, 0 ≤ x ∧ x < (n : Int)
end
end

/-! weak_lot, weak, firm, greatest_firm -/
section
open PySem PySem.Spec PyProof.Rows L2 Hn Cmb
section
variable {st : Sto} {W : List (List Int)} {G : List Int} {n m : Nat}
/-- the lots of so many of n people -/
def cm (n s : Nat) : List (List Int) := (cmb (List.range n) s).map fun c => c.map fun u : Nat => (u : Int)
def lotsN (n : Nat) : Nat → List (List Int)
  | 0 => cm n 0
  | m + 1 => lotsN n m ++ cm n (m + 1)
noncomputable def wkOf (W : List (List Int)) (m : Nat) : Option (List Int) := (lotsN W.length m).find? fun c => !wB W c
def optD : Option (List Int) → D
  | some c => rowD' c
  | none => .non
theorem lots_mem {c : List Int} {m : Nat} : c ∈ lotsN n m ↔ ∃ s, s ≤ m ∧ c ∈ cm n s := by
  induction m with
  | zero =>
    refine ⟨fun h => ⟨0, Nat.le_refl _, h⟩, fun ⟨s, hs, h⟩ => ?_⟩
    obtain rfl : s = 0 := by omega
    exact h
  | succ m ih =>
    show c ∈ lotsN n m ++ cm n (m + 1) ↔ _
    rw [List.mem_append, ih]
    constructor
    · rintro (⟨s, hs, h⟩ | h)
      · exact ⟨s, by omega, h⟩
      · exact ⟨m + 1, Nat.le_refl _, h⟩
    · rintro ⟨s, hs, h⟩
      by_cases z : s = m + 1
      · subst z; exact .inr h
      · exact .inl ⟨s, by omega, h⟩
theorem lots_pre {s m : Nat} (h : s ≤ m) : ∃ rest, lotsN n m = lotsN n s ++ rest := by
  induction m with
  | zero =>
    obtain rfl : s = 0 := by omega
    exact ⟨[], by simp⟩
  | succ m ih =>
    by_cases z : s = m + 1
    · subst z; exact ⟨[], by simp⟩
    · obtain ⟨r, e⟩ := ih (by omega)
      exact ⟨r ++ cm n (m + 1), by show lotsN n m ++ _ = _; rw [e, List.append_assoc]⟩
theorem lots_last (s : Nat) : ∃ pre, lotsN n s = pre ++ cm n s ∧ ∀ x ∈ pre, ∃ s', s' < s ∧ x ∈ cm n s' := by
  cases s with
  | zero => exact ⟨[], rfl, fun x h => by cases h⟩
  | succ s => exact ⟨lotsN n s, rfl, fun x h => by
      obtain ⟨s', h1, h2⟩ := lots_mem.mp h
      exact ⟨s', by omega, h2⟩⟩
theorem find_first {α : Type} {p : α → Bool} {c : α} {post : List α} : ∀ {pre : List α}, (∀ x ∈ pre, p x = false) → p c = true → (pre ++ c :: post).find? p = some c
  | [], _, h => by rw [List.nil_append, List.find?_cons, h]
  | x :: pre, hp, h => by
    rw [List.cons_append, List.find?_cons, hp x List.mem_cons_self]
    exact find_first (fun y hy => hp y (List.mem_cons_of_mem _ hy)) h
theorem find_lot {p : List Int → Bool} {s m j : Nat} (hs : s ≤ m) (hj : j < (cm n s).length) (h1 : ∀ s', s' < s → ∀ c ∈ cm n s', p c = false) (h2 : ∀ i (hi : i < j), p ((cm n s)[i]'(by omega)) = false) (h3 : p (cm n s)[j] = true) : (lotsN n m).find? p = some (cm n s)[j] := by
  obtain ⟨rest, e⟩ := lots_pre (n := n) hs
  obtain ⟨pre, e2, hp⟩ := lots_last (n := n) s
  have e3 : cm n s = (cm n s).take j ++ (cm n s)[j] :: (cm n s).drop (j + 1) := by
    rw [← List.drop_eq_getElem_cons hj, List.take_append_drop]
  rw [e, e2]
  have e4 : pre ++ cm n s ++ rest = (pre ++ (cm n s).take j) ++ (cm n s)[j] :: ((cm n s).drop (j + 1) ++ rest) := by
    have e5 : pre ++ cm n s ++ rest = pre ++ ((cm n s).take j ++ (cm n s)[j] :: (cm n s).drop (j + 1)) ++ rest := by rw [← e3]
    rw [e5]
    simp only [List.append_assoc, List.cons_append]
  rw [e4]
  refine find_first (fun x hx => ?_) h3
  rcases List.mem_append.mp hx with z | z
  · obtain ⟨s', a, b⟩ := hp x z
    exact h1 s' a x b
  · obtain ⟨i, hi, rfl⟩ := List.getElem_of_mem z
    rw [List.length_take] at hi
    rw [List.getElem_take]
    exact h2 i (by omega)
theorem combW_rng (n s : Nat) : (combW (rngD 0 n) s).items = (cm n s).map rowD' := by
  unfold combW cm
  rw [rng_map, cmb_map, List.map_map, List.map_map]
  refine List.map_congr_left fun c _ => ?_
  show D.tup (c.map _) = rowD' (c.map _)
  unfold rowD'
  rw [List.map_map]
  rfl
theorem p_combR {ma mb : Env → Sto → R (List D)} {ρ : Env} {P : Wk → Sto → Prop} {B : Er → Sto → Prop} (h : (ma ρ st).post (fun a s => ∃ n : Nat, a = [.int (n : Nat)] ∧ n ≤ 1000 ∧ (mb ρ s).post (fun b s2 => ∃ r : Nat, b = [.int (r : Nat)] ∧ r ≤ 1000 ∧ P ⟨(cm n r).map rowD', none⟩ s2) B) B) : (mItCombR ma mb ρ st).post P B := by
  unfold mItCombR
  refine post_bindI (R.post_mono h (fun a s ⟨n, e, hn, h⟩ => ?_) fun _ _ h => h)
  subst e
  show (guardR _ _ : R Wk).post P B
  rw [guardR_pos ⟨by omega, by omega⟩]
  refine post_bindI (R.post_mono h (fun b s2 ⟨r, e, hr, h⟩ => ?_) fun _ _ h => h)
  subst e
  show (guardR _ _ : R Wk).post P B
  rw [guardR_pos ⟨by omega, by omega⟩]
  show P (combW (rngD 0 (n : Int).toNat) (r : Int).toNat) s2
  rw [Int.toNat_natCast, Int.toNat_natCast]
  have e := combW_rng n r
  have : combW (rngD 0 n) r = ⟨(cm n r).map rowD', none⟩ := by rw [← e]; rfl
  rw [this]
  exact h
theorem S_weak_lot (h : IsWeb W) {k : Nat} (hk : k ≤ 9) : M_weak_lot [webD W, .int (k : Nat)] st = .ok (optD (wkOf W (min k W.length))) st := by
  have h9 := h.few
  have cl : ClD st.length (optD (wkOf W (min k W.length))) := by
    cases wkOf W (min k W.length) with
    | none => exact True.intro
    | some c => exact cl_row
  unfold M_weak_lot
  refine def_eq rfl cl ?_
  show (mSeq _ _ [some (webD W), some (.int (k : Nat)), none, none] st).wp ⟨_, _, _, _, _⟩
  walk_at "go"
  refine pe (show min2D [.int (k : Nat), .int (W.length : Nat)] st = .ok (.int ((min k W.length : Nat) : Int)) st from ?_) ?_
  · show R.ok (D.int (if ((W.length : Nat) : Int) < (k : Nat) then ((W.length : Nat) : Int) else (k : Nat))) st = _
    congr 2
    split <;> omega
  have hm : min k W.length ≤ 9 ∧ min k W.length ≤ W.length := by omega
  generalize hM : min k W.length = M at hm ⊢
  walk_at "go"
  rw [show ((M : Nat) : Int) + 1 = ((M + 1 : Nat) : Int) by omega]
  refine p_rng (n := M + 1) (by omega) ?_
  refine w_forR (fun i ρ s => s = st ∧ (∀ s', s' < i → ∀ c ∈ cm W.length s', wB W c = true) ∧ ∃ x2 x3, ρ = [some (webD W), some (.int (k : Nat)), x2, x3]) ⟨rfl, fun s' h => by omega, _, _, rfl⟩ ?_ ?_
  · rintro i I ρ s hI hi ⟨rfl, all, x2, x3, rfl⟩
    subst hI
    refine som_e rfl ?_
    refine w_for ?_
    refine p_combR ?_
    walk_at "go"
    refine ⟨W.length, rfl, by omega, ?_⟩
    walk_at "go"
    refine ⟨i, rfl, by omega, ?_⟩
    refine w_forL (enc := rowD') (xs := cm W.length i) (fun j ρ s' => s' = s ∧ (∀ q (hq : q < j) (hc : q < (cm W.length i).length), wB W (cm W.length i)[q] = true) ∧ ∃ x3, ρ = [some (webD W), some (.int (k : Nat)), some (.int (i : Nat)), x3]) ⟨rfl, fun q hq => by omega, _, rfl⟩ ?_ ?_
    · rintro j hj ρ s' ⟨rfl, alj, x3, rfl⟩
      walk_at "go"
      refine pe (S_whole h) ?_
      walk_at "go"
      cases hw : wB W (cm W.length i)[j] with
      | true =>
        walk_at "go"
        refine ⟨rfl, fun q hq hc => ?_, _, rfl⟩
        by_cases z : q = j
        · subst z; exact hw
        · exact alj q (by omega) hc
      | false =>
        walk_at "go"
        refine ⟨ex_same, ?_⟩
        have e : wkOf W M = some (cm W.length i)[j] := find_lot (p := fun c => !wB W c) (s := i) (m := M) (by omega) hj (fun s' hs c hc => by rw [all s' hs c hc]; rfl) (fun q hq => by rw [alj q hq (by omega)]; rfl) (by rw [hw]; rfl)
        rw [e]
        rfl
    · rintro ρ s' ⟨rfl, alj, x3, rfl⟩
      refine ⟨rfl, fun s1 hs c hc => ?_, _, _, rfl⟩
      by_cases z : s1 = i
      · subst z
        obtain ⟨q, hq, rfl⟩ := List.getElem_of_mem hc
        exact alj q hq hq
      · exact all s1 (by omega) c hc
  · rintro ρ s ⟨rfl, all, x2, x3, rfl⟩
    walk_at "go"
    refine ⟨ex_same, ?_⟩
    have e : wkOf W M = none := by
      unfold wkOf
      rw [List.find?_eq_none]
      intro c hc
      obtain ⟨s', h1, h2⟩ := lots_mem.mp hc
      rw [all s' (by omega) c h2]
      decide
    rw [e]
    rfl
end
end

/-! weak, firm, greatest_firm -/
section
open PySem PySem.Spec PyProof.Rows L2 Hn Cmb
section
variable {st : Sto} {W : List (List Int)} {G : List Int} {n m : Nat}
theorem S_weak (h : IsWeb W) {k : Nat} (hk : k ≤ 9) : M_weak [webD W, .int (k : Nat)] st = .ok (optD (wkOf W (min k W.length))) st := by
  have cl : ClD st.length (optD (wkOf W (min k W.length))) := by
    cases wkOf W (min k W.length) with
    | none => exact True.intro
    | some c => exact cl_row
  unfold M_weak
  refine def_eq rfl cl ?_
  show (mSeq _ _ [some (webD W), some (.int (k : Nat))] st).wp ⟨_, _, _, _, _⟩
  walk_at "go"
  refine pe (S_check_web h) ?_
  walk_at "go"
  refine pe (S_between) ?_
  walk_at "go"
  rw [show (decide ((0 : Int) ≤ (k : Nat)) && decide (((k : Nat) : Int) ≤ 9)) = true by rw [decide_eq_true (by omega), decide_eq_true (by omega)]; rfl]
  walk_at "go"
  refine pe (S_weak_lot h hk) ?_
  walk_at "go"
  exact ⟨ex_same, rfl⟩
theorem S_firm (h : IsWeb W) {k : Nat} (hk : k ≤ 9) : M_firm [webD W, .int (k : Nat)] st = .ok (.bl (wkOf W (min k W.length)).isNone) st := by
  unfold M_firm
  refine def_eq rfl True.intro ?_
  show (mRet _ [some (webD W), some (.int (k : Nat))] st).wp ⟨_, _, _, _, _⟩
  walk_at "go"
  refine pe (S_weak h hk) ?_
  walk_at "go"
  cases wkOf W (min k W.length) with
  | none => walk_at "go"; exact ⟨ex_same, rfl⟩
  | some c =>
    refine pe (show isD false (optD (some c)) .non st = .ok (.bl false) st from rfl) ?_
    exact ⟨ex_same, rfl⟩
noncomputable def gfOf (W : List (List Int)) : Int := match wkOf W W.length with
  | some c => (c.length : Int) - 1
  | none => W.length
theorem S_gf (h : IsWeb W) : M_greatest_firm [webD W] st = .ok (.int (gfOf W)) st := by
  have h9 := h.few
  unfold M_greatest_firm
  refine def_eq rfl True.intro ?_
  show (mSeq _ _ [some (webD W), none] st).wp ⟨_, _, _, _, _⟩
  walk_at "go"
  refine pe (S_check_web h) ?_
  walk_at "go"
  refine pe (S_weak_lot h h9) ?_
  walk_at "go"
  rw [Nat.min_self]
  unfold gfOf
  cases wkOf W W.length with
  | none => walk_at "go"; exact ⟨ex_same, rfl⟩
  | some c =>
    refine pe (show isD false (optD (some c)) .non st = .ok (.bl false) st from rfl) ?_
    walk_at "go"
    refine pe (show lenD [optD (some c)] st = .ok (.int ((c.length : Nat) : Int)) st from by show lenD [.tup (c.map D.int)] st = _; rw [lenD_tup, List.length_map]) ?_
    walk_at "go"
    exact ⟨ex_same, rfl⟩
end
end

/-! what is refused; _law_call, _law_told -/
section
open PySem PySem.Spec PyProof.Rows L2 Hn
section
variable {st : Sto} {u n p g : Nat} {x y d : D} {b : Bool} {w N : Int} {W : List (List Int)}
theorem p_callN {tab : List (Str × (List D → Sto → R D))} {mf : Env → Sto → R D} {ms : Env → Sto → R (List D)} {ρ : Env} {P : D → Sto → Prop} {B : Er → Sto → Prop} (h : (mf ρ st).post (fun d s1 => ∃ x f, d = .nam x ∧ tab.lookup x = some f ∧ (ms ρ s1).post (fun ds s2 => (f ds s2).post P B) B) B) : (mCallN tab mf ms ρ st).post P B := by
  unfold mCallN
  revert h
  cases mf ρ st with
  | ok d s1 =>
    rintro ⟨x, f, rfl, e, h⟩
    simp only [R.ok_bind, e]
    exact post_bindI h
  | er e s => exact fun h => h
  | no => exact fun h => h.elim
theorem p_errIs {e : Er} {tb : List (Str × Bool)} {i : Nat} {ρ : Env} {c : Str} {fs : List D} {P : D → Sto → Prop} {B : Er → Sto → Prop} (h : ρ[i]? = some (some (.err c fs))) (hl : tb.lookup e.cls = some b) (k : P (.bl b) st) : (mErrIs e tb i ρ st).post P B := by
  refine pe (?_ : mErrIs e tb i ρ st = .ok (.bl b) st) k
  unfold mErrIs
  rw [h]
  simp only
  rw [hl]
abbrev eNN : Er := ⟨"NoNumber", []⟩
def Vz (d : D) (b : Bool) : Prop := (∀ st : Sto, M_is_between [d, .int 0, .int 9] st = .ok (.bl b) st) ∧ (∀ st : Sto, M__law_is_person [d, .int 10] st = .ok (.bl b) st) ∧ (b = true → ∃ k : Nat, d = .int (k : Nat) ∧ k ≤ 9)
theorem vz_no (h : NoPr d) (k : NoInt d) : Vz d false := ⟨fun st => S_btw_no k, fun st => h st _, fun e => by cases e⟩
theorem vz_int (i : Int) : ∃ b, Vz (.int i) b := ⟨decide (0 ≤ i) && decide (i ≤ 9), fun st => S_between, fun st => by
  rw [S_lpr]
  congr 4
  exact propext ⟨fun z => by omega, fun z => by omega⟩, fun e => by
  rw [Bool.and_eq_true, decide_eq_true_iff, decide_eq_true_iff] at e
  exact ⟨i.toNat, by rw [Int.toNat_of_nonneg e.1], by omega⟩⟩
theorem noiZ (h : ∀ st : Sto, isiD "int" d st = .ok (.bl false) st) : NoInt d := fun st => by
  unfold M_is_integer
  refine def_eq rfl True.intro ?_
  show (mRet _ [some d] st).wp ⟨_, _, _, _, _⟩
  walk_at "go"
  refine pe (h st) ?_
  walk_at "go"
  exact ⟨ex_same, rfl⟩
theorem vz_out (h : ∀ st : Sto, isiD "int" d st = .ok (.bl false) st) : ∃ b, Vz d b := ⟨_, vz_no (nopr h) (noiZ h)⟩
theorem weak_nw (h : NoWb x) : M_weak [x, y] st = .er eNW st := by
  unfold M_weak
  refine def_er rfl True.intro ?_
  show (mSeq _ _ [some x, some y] st).wp ⟨_, _, _, _, _⟩
  walk_at "go"
  exact p_er (S_check_no h) ⟨rfl, ex_same⟩
theorem firm_nw (h : NoWb x) : M_firm [x, y] st = .er eNW st := by
  unfold M_firm
  refine def_er rfl True.intro ?_
  show (mRet _ [some x, some y] st).wp ⟨_, _, _, _, _⟩
  walk_at "go"
  exact p_er (weak_nw h) ⟨rfl, ex_same⟩
theorem gf_nw (h : NoWb x) : M_greatest_firm [x] st = .er eNW st := by
  unfold M_greatest_firm
  refine def_er rfl True.intro ?_
  show (mSeq _ _ [some x, none] st).wp ⟨_, _, _, _, _⟩
  walk_at "go"
  exact p_er (S_check_no h) ⟨rfl, ex_same⟩
theorem txt_nw (h : NoWb x) : M_web_text [x] st = .er eNW st := by
  unfold M_web_text
  refine def_er rfl True.intro ?_
  show (mSeq _ _ [some x, none, none] st).wp ⟨_, _, _, _, _⟩
  walk_at "go"
  exact p_er (S_check_no h) ⟨rfl, ex_same⟩
theorem weak_nn (h : IsWeb W) (k : Vz d false) : M_weak [webD W, d] st = .er eNN st := by
  unfold M_weak
  refine def_er rfl True.intro ?_
  show (mSeq _ _ [some (webD W), some d] st).wp ⟨_, _, _, _, _⟩
  walk_at "go"
  refine pe (S_check_web h) ?_
  walk_at "go"
  refine pe (k.1 st) ?_
  walk_at "go"
  exact ⟨rfl, ex_same⟩
theorem firm_nn (h : IsWeb W) (k : Vz d false) : M_firm [webD W, d] st = .er eNN st := by
  unfold M_firm
  refine def_er rfl True.intro ?_
  show (mRet _ [some (webD W), some d] st).wp ⟨_, _, _, _, _⟩
  walk_at "go"
  exact p_er (weak_nn h k) ⟨rfl, ex_same⟩
theorem call0_er {e : Er} (c : ClDs st.length (e.fs.map (·.2))) (h : M_firm [x, y] st = .er e st) : M__law_call [.int 0, x, y] st = .er e st := by
  unfold M__law_call
  refine def_er rfl c ?_
  show (mSeq _ _ [some (.int 0), some x, some y] st).wp ⟨_, _, _, _, _⟩
  walk_at "go"
  refine i_d (fun _ => ?_) (fun z => absurd (by decide) z)
  walk_at "go"
  refine p_callN ?_
  walk_at "go"
  refine ⟨"firm", M_firm, rfl, by rfl, ?_⟩
  walk_at "go"
  exact p_er h ⟨rfl, ex_same⟩
theorem call1_er {e : Er} (c : ClDs st.length (e.fs.map (·.2))) (h : M_weak [x, y] st = .er e st) : M__law_call [.int 1, x, y] st = .er e st := by
  unfold M__law_call
  refine def_er rfl c ?_
  show (mSeq _ _ [some (.int 1), some x, some y] st).wp ⟨_, _, _, _, _⟩
  walk_at "go"
  refine i_d (fun _ => ?_) (fun z => absurd (by decide) z)
  walk_at "go"
  refine p_callN ?_
  walk_at "go"
  refine ⟨"weak", M_weak, rfl, by rfl, ?_⟩
  walk_at "go"
  exact p_er h ⟨rfl, ex_same⟩
theorem call2_er {e : Er} (c : ClDs st.length (e.fs.map (·.2))) (h : M_greatest_firm [x] st = .er e st) : M__law_call [.int 2, x, y] st = .er e st := by
  unfold M__law_call
  refine def_er rfl c ?_
  show (mSeq _ _ [some (.int 2), some x, some y] st).wp ⟨_, _, _, _, _⟩
  walk_at "go"
  refine i_d (fun z => absurd z (by decide)) (fun _ => ?_)
  walk_at "go"
  refine p_callN ?_
  walk_at "go"
  refine ⟨"greatest_firm", M_greatest_firm, rfl, by rfl, ?_⟩
  walk_at "go"
  exact p_er h ⟨rfl, ex_same⟩
theorem call3_er {e : Er} (c : ClDs st.length (e.fs.map (·.2))) (h : M_web_text [x] st = .er e st) : M__law_call [.int 3, x, y] st = .er e st := by
  unfold M__law_call
  refine def_er rfl c ?_
  show (mSeq _ _ [some (.int 3), some x, some y] st).wp ⟨_, _, _, _, _⟩
  walk_at "go"
  refine i_d (fun z => absurd z (by decide)) (fun _ => ?_)
  walk_at "go"
  refine p_callN ?_
  walk_at "go"
  refine ⟨"web_text", M_web_text, rfl, by rfl, ?_⟩
  walk_at "go"
  exact p_er h ⟨rfl, ex_same⟩
theorem call0_ok (c : ClD st.length d) (h : M_firm [x, y] st = .ok d st) : M__law_call [.int 0, x, y] st = .ok d st := by
  unfold M__law_call
  refine def_eq rfl c ?_
  show (mSeq _ _ [some (.int 0), some x, some y] st).wp ⟨_, _, _, _, _⟩
  walk_at "go"
  refine i_d (fun _ => ?_) (fun z => absurd (by decide) z)
  walk_at "go"
  refine p_callN ?_
  walk_at "go"
  refine ⟨"firm", M_firm, rfl, by rfl, ?_⟩
  walk_at "go"
  refine pe (h) ?_
  walk_at "go"
  exact ⟨ex_same, rfl⟩
theorem call1_ok (c : ClD st.length d) (h : M_weak [x, y] st = .ok d st) : M__law_call [.int 1, x, y] st = .ok d st := by
  unfold M__law_call
  refine def_eq rfl c ?_
  show (mSeq _ _ [some (.int 1), some x, some y] st).wp ⟨_, _, _, _, _⟩
  walk_at "go"
  refine i_d (fun _ => ?_) (fun z => absurd (by decide) z)
  walk_at "go"
  refine p_callN ?_
  walk_at "go"
  refine ⟨"weak", M_weak, rfl, by rfl, ?_⟩
  walk_at "go"
  refine pe (h) ?_
  walk_at "go"
  exact ⟨ex_same, rfl⟩
theorem call2_ok (c : ClD st.length d) (h : M_greatest_firm [x] st = .ok d st) : M__law_call [.int 2, x, y] st = .ok d st := by
  unfold M__law_call
  refine def_eq rfl c ?_
  show (mSeq _ _ [some (.int 2), some x, some y] st).wp ⟨_, _, _, _, _⟩
  walk_at "go"
  refine i_d (fun z => absurd z (by decide)) (fun _ => ?_)
  walk_at "go"
  refine p_callN ?_
  walk_at "go"
  refine ⟨"greatest_firm", M_greatest_firm, rfl, by rfl, ?_⟩
  walk_at "go"
  refine pe (h) ?_
  walk_at "go"
  exact ⟨ex_same, rfl⟩
theorem call3_ok (c : ClD st.length d) (h : M_web_text [x] st = .ok d st) : M__law_call [.int 3, x, y] st = .ok d st := by
  unfold M__law_call
  refine def_eq rfl c ?_
  show (mSeq _ _ [some (.int 3), some x, some y] st).wp ⟨_, _, _, _, _⟩
  walk_at "go"
  refine i_d (fun z => absurd z (by decide)) (fun _ => ?_)
  walk_at "go"
  refine p_callN ?_
  walk_at "go"
  refine ⟨"web_text", M_web_text, rfl, by rfl, ?_⟩
  walk_at "go"
  refine pe (h) ?_
  walk_at "go"
  exact ⟨ex_same, rfl⟩
end
end

/-! _law_told -/
section
open PySem PySem.Spec PyProof.Rows L2 Hn
section
variable {st : Sto} {u n p g : Nat} {x y d : D} {b : Bool} {w N m : Int} {W : List (List Int)}
theorem wp_nxeq {o : O} {ρ' : Env} {st' : Sto} (h : o.wp ⟨fun ρ s => ρ = ρ' ∧ s = st', fun _ _ => False, fun _ _ => False, fun _ _ => False, fun _ _ => False⟩) : o = .nx ρ' st' := by
  cases o with
  | nx ρ s => obtain ⟨rfl, rfl⟩ := h; rfl
  | rt d s => exact h.elim
  | er x ρ s => exact h.elim
  | bk => exact h.elim
  | ct => exact h.elim
  | no => exact h.elim
abbrev envZ (m : Int) (x y : D) : Env := [some (.int m), some x, some y, some (.str "other"), none, none]
noncomputable def hndZ (er : Er) : Env → Sto → O := (mSeq (mSet 5 (mLst (mCons (mErrIs er [("NoNumber", false), ("NoWeb", true)] 4) (mCons (mErrIs er [("NoNumber", true), ("NoWeb", false)] 4) mNil))))
    (mIfS (mAnd (mTst (mBin eqD (mMeth cntD (mV 5) (mCons (mC (.bl true)) mNil)) (mC (.int 1)))) (mTru (mErrIs er [("NoNumber", true), ("NoWeb", true)] 4))) (mSet 3 (mBin ixD (mLst (mCons (mC (.str "web")) (mCons (mC (.str "number")) mNil))) (mMeth idxD (mV 5) (mCons (mC (.bl true)) mNil)))) mNext))
theorem hnd_web : hndZ eNW [some (.int m), some x, some y, some (.str "other"), some (erD eNW), none] st = .nx [some (.int m), some x, some y, some (.str "web"), some (erD eNW), some (.lst [.bl true, .bl false])] st := by
  refine wp_nxeq ?_
  unfold hndZ
  walk_at "go"
  refine p_errIs (b := true) rfl (by decide +kernel) ?_
  walk_at "go"
  refine p_errIs (b := false) rfl (by decide +kernel) ?_
  walk_at "go"
  refine pe (show cntD (.lst [.bl true, .bl false]) [.bl true] st = .ok (.int 1) st from (guardR_pos ⟨by decide +kernel, by decide +kernel⟩)) ?_
  walk_at "go"
  refine i_d (fun _ => ?_) (fun z => absurd rfl z)
  walk_at "go"
  refine p_errIs (b := true) rfl (by decide +kernel) ?_
  walk_at "go"
  refine pe (show idxD (.lst [.bl true, .bl false]) [.bl true] st = .ok (.int 0) st from (guardR_pos ⟨by decide +kernel, by decide +kernel⟩)) ?_
  walk_at "go"
  exact ⟨rfl, rfl⟩
theorem hnd_num : hndZ eNN [some (.int m), some x, some y, some (.str "other"), some (erD eNN), none] st = .nx [some (.int m), some x, some y, some (.str "number"), some (erD eNN), some (.lst [.bl false, .bl true])] st := by
  refine wp_nxeq ?_
  unfold hndZ
  walk_at "go"
  refine p_errIs (b := false) rfl (by decide +kernel) ?_
  walk_at "go"
  refine p_errIs (b := true) rfl (by decide +kernel) ?_
  walk_at "go"
  refine pe (show cntD (.lst [.bl false, .bl true]) [.bl true] st = .ok (.int 1) st from (guardR_pos ⟨by decide +kernel, by decide +kernel⟩)) ?_
  walk_at "go"
  refine i_d (fun _ => ?_) (fun z => absurd rfl z)
  walk_at "go"
  refine p_errIs (b := true) rfl (by decide +kernel) ?_
  walk_at "go"
  refine pe (show idxD (.lst [.bl false, .bl true]) [.bl true] st = .ok (.int 1) st from (guardR_pos ⟨by decide +kernel, by decide +kernel⟩)) ?_
  walk_at "go"
  exact ⟨rfl, rfl⟩
theorem clnZ {t l : D} (ht : NoEr t) (hl : NoEr l) (z : Option D) : ClnE 4 (envZ m x y) [some (.int m), some x, some y, some t, z, some l] := fun j d hj h => by
  match j with
  | 0 => exact .inl h
  | 1 => exact .inl h
  | 2 => exact .inl h
  | 3 => cases h; exact .inr ht
  | 4 => exact absurd rfl hj
  | 5 => cases h; exact .inr hl
  | j + 6 => cases h
noncomputable def tryZ : Env → Sto → O := mSeq (mExpr (mCall M__law_call (mCons (mV 0) (mCons (mV 1) (mCons (mV 2) mNil))))) (mSet 3 (mC (.str "let")))
theorem tZ_ok (h : M__law_call [.int m, x, y] st = .ok d st) : M__law_told [.int m, x, y] st = .ok (.str "let") st := by
  unfold M__law_told
  refine def_eq rfl True.intro ?_
  show (mSeq _ (mSeq (mTry tryZ _) _) [some (.int m), some x, some y, none, none, none] st).wp ⟨_, _, _, _, _⟩
  walk_at "go"
  have e : tryZ (envZ m x y) st = .nx [some (.int m), some x, some y, some (.str "let"), none, none] st := by
    refine wp_nxeq ?_
    unfold tryZ
    walk_at "go"
    refine pe (h) ?_
    walk_at "go"
    exact ⟨rfl, rfl⟩
  refine w_tryN e ?_
  walk_at "go"
  exact ⟨ex_same, rfl⟩
theorem try_er {e : Er} (h : M__law_call [.int m, x, y] st = .er e st) : tryZ (envZ m x y) st = .er e (envZ m x y) st := by
  have e1 : mExpr (mCall M__law_call (mCons (mV 0) (mCons (mV 1) (mCons (mV 2) mNil)))) (envZ m x y) st = .er e (envZ m x y) st := expr_er h
  unfold tryZ mSeq
  rw [e1]
theorem tZ_web (h : M__law_call [.int m, x, y] st = .er eNW st) : M__law_told [.int m, x, y] st = .ok (.str "web") st := by
  unfold M__law_told
  refine def_eq rfl True.intro ?_
  show (mSeq _ (mSeq (mTry tryZ [⟨_, some 4, hndZ⟩]) _) [some (.int m), some x, some y, none, none, none] st).wp ⟨_, _, _, _, _⟩
  walk_at "go"
  refine w_tryE (try_er h) ?_
  show (endE 4 (envZ m x y) st (hndZ eNW [some (.int m), some x, some y, some (.str "other"), some (erD eNW), none] st)).wp _
  rw [hnd_web]
  unfold endE
  simp only
  rw [if_pos ⟨clnZ (show NoEr (.str "web") from True.intro) (show NoEr (.lst [.bl true, .bl false]) from ⟨True.intro, True.intro, True.intro⟩) _, fun _ _ z => .inl z⟩]
  rw [wp_nx]
  dsimp only [List.set_cons_succ, List.set_cons_zero]
  walk_at "go"
  exact ⟨ex_same, rfl⟩
theorem tZ_num (h : M__law_call [.int m, x, y] st = .er eNN st) : M__law_told [.int m, x, y] st = .ok (.str "number") st := by
  unfold M__law_told
  refine def_eq rfl True.intro ?_
  show (mSeq _ (mSeq (mTry tryZ [⟨_, some 4, hndZ⟩]) _) [some (.int m), some x, some y, none, none, none] st).wp ⟨_, _, _, _, _⟩
  walk_at "go"
  refine w_tryE (try_er h) ?_
  show (endE 4 (envZ m x y) st (hndZ eNN [some (.int m), some x, some y, some (.str "other"), some (erD eNN), none] st)).wp _
  rw [hnd_num]
  unfold endE
  simp only
  rw [if_pos ⟨clnZ (show NoEr (.str "number") from True.intro) (show NoEr (.lst [.bl false, .bl true]) from ⟨True.intro, True.intro, True.intro⟩) _, fun _ _ z => .inl z⟩]
  rw [wp_nx]
  dsimp only [List.set_cons_succ, List.set_cons_zero]
  walk_at "go"
  exact ⟨ex_same, rfl⟩
end
end

/-! web_text of a web is some text -/
section
open PySem PySem.Spec PyProof.Rows L2 Hn
section
variable {st : Sto} {u n p g : Nat} {x y d : D} {b : Bool} {w N m : Int} {W : List (List Int)} {P : D → Sto → Prop} {B : Er → Sto → Prop} {ρ : Env}
theorem p_strM {f : D → D → Sto → R D} {ma mb : Env → Sto → R D} (h : (ma ρ st).post (fun a s1 => ∃ s, a = .str s ∧ (mb ρ s1).post (fun b s2 => (f (.str s) b s2).post P B) B) B) : (mStrM f ma mb ρ st).post P B := by
  unfold mStrM
  refine post_bindI (R.post_mono h (fun a s1 h => ?_) fun _ _ h => h)
  obtain ⟨s, rfl, h⟩ := h
  exact post_bindI h
theorem l_str {i : Int} (h0 : i.natAbs ≤ 1000) (h : P (.str (toString i)) st) : (strD [.int i] st).post P B := by
  refine pe (guardR_pos ?_) h
  have : i.natAbs.log2 ≤ 1000 := Nat.le_trans (Nat.log2_le_self _) h0
  omega
theorem l_fmt {i : Int} (h0 : i.natAbs ≤ 1000) (h : P (.str (toString i)) st) : (fmtD (.int i) st).post P B := by
  refine pe (guardR_pos ?_) h
  have : i.natAbs.log2 ≤ 1000 := Nat.le_trans (Nat.log2_le_self _) h0
  omega
theorem l_join {s : Str} {ys : List Str} {b : D} (e : itemsS st b = some (ys.map D.str)) (hb : (ys.map (·.length)).sum + ys.length * s.length ≤ 16777216) (h : P (.str (Txt.join s ys)) st) : (joinD (.str s) b st).post P B := by
  refine pe ?_ h
  show (ofOpt (itemsS st b) fun xs => ofOpt (strsD xs) fun ys => guardR _ _) = _
  rw [e, ofOpt_some, strs_map, ofOpt_some]
  exact guardR_pos hb
theorem sum_le {k : Nat} : ∀ ys : List Str, (∀ y ∈ ys, y.length ≤ k) → (ys.map (·.length)).sum ≤ ys.length * k
  | [], _ => by simp
  | y :: ys, h => by
    have h1 := h y List.mem_cons_self
    have h2 := sum_le ys fun z hz => h z (List.mem_cons_of_mem _ hz)
    rw [List.map_cons, List.sum_cons, List.length_cons, Nat.add_mul]
    omega
theorem len_ofZ {i : Int} (h : i.natAbs ≤ 1000) : (toString i : Str).length ≤ 1002 := by
  have := len_str_of_int i
  show (Str.ofString (toString i)).length ≤ 1002
  omega
theorem p_js {m : Env → Sto → R D} {ms : List (Env → Sto → R D)} {acc : Str} (h : (m ρ st).post (fun d s1 => ∃ y, d = .str y ∧ (acc ++ y).length ≤ 16777216 ∧ (mJs ms (acc ++ y) ρ s1).post P B) B) : (mJs (m :: ms) acc ρ st).post P B := by
  unfold mJs
  refine post_bindI (R.post_mono h (fun a s1 h => ?_) fun _ _ h => h)
  obtain ⟨y, rfl, l, h⟩ := h
  show (guardR ((acc ++ y).length ≤ sizeLine) (mJs ms (acc ++ y) ρ s1)).post P B
  rw [guardR_pos (show (acc ++ y).length ≤ sizeLine from l)]
  exact h
theorem p_js0 {acc : Str} (h : P (.str acc) st) : (mJs [] acc ρ st).post P B := h
theorem p_fstr {ms : List (Env → Sto → R D)} (h : (mJs ms Str.empty ρ st).post P B) : (mFStr ms ρ st).post P B := h
theorem hdl {u : Nat} (hu : u ≤ 9) : (Str.empty ++ (toString (u : Int) : Str)).length ≤ 1002 ∧ (Str.empty ++ (toString (u : Int) : Str) ++ (":" : Str)).length ≤ 1003 := by
  have h1 : (toString (u : Int) : Str).length ≤ 1002 := len_ofZ (by omega)
  have e0 : Str.empty.length = 0 := by decide +kernel
  have e1 : (":" : Str).length = 1 := by decide +kernel
  constructor <;> simp only [PySem.Str.length_append, e0, e1] <;> omega
theorem join_leZ (sep : Str) (ys : List Str) : (Txt.join sep ys).length ≤ (ys.map (·.length)).sum + ys.length * sep.length := by
  have h := PySem.StrLaws.join_length_le sep ys
  rw [← PySem.StrLaws.glued_eq_join] at h
  exact h
def lineZ (u : Nat) (r : List Int) : Str := Txt.join " " ((Str.empty ++ (toString (u : Int) : Str) ++ (":" : Str) : Str) :: r.map (fun w => (toString w : Str)))
theorem S_line {u : Nat} {r : List Int} (hu : u ≤ 9) (hr : r.length ≤ 9) (hw : ∀ w ∈ r, 0 ≤ w ∧ w < 9) : M_person_line [.int (u : Nat), rowD' r] st = .ok (.str (lineZ u r)) st ∧ (lineZ u r).length ≤ 100000 := by
  unfold lineZ
  have hd := hdl hu
  have e1 : (" " : Str).length = 1 := by decide +kernel
  generalize hys : (Str.empty ++ (toString (u : Int) : Str) ++ (":" : Str) : Str) :: r.map (fun w => (toString w : Str)) = ys
  have bd : (ys.map (·.length)).sum ≤ ys.length * 1003 := sum_le ys fun y hy => by
    rw [← hys] at hy
    rcases List.mem_cons.mp hy with rfl | hy
    · exact hd.2
    · obtain ⟨w, h, rfl⟩ := List.mem_map.mp hy
      have := hw w h
      exact Nat.le_trans (len_ofZ (by omega)) (by omega)
  have ln : ys.length ≤ 10 := by rw [← hys, List.length_cons, List.length_map]; omega
  have all : (ys.map (·.length)).sum + ys.length * (" " : Str).length ≤ 100000 := by rw [e1]; omega
  refine ⟨?_, Nat.le_trans (join_leZ _ _) all⟩
  unfold M_person_line
  refine def_eq rfl True.intro ?_
  show (mRet _ [some (.int (u : Nat)), some (rowD' r), none] st).wp ⟨_, _, _, _, _⟩
  walk_at "go"
  refine p_strM ?_
  walk_at "go"
  refine ⟨_, rfl, ?_⟩
  walk_at "go"
  refine p_fstr ?_
  refine p_js ?_
  walk_at "go"
  refine l_fmt (by omega) ⟨_, rfl, Nat.le_trans hd.1 (by omega), ?_⟩
  refine p_js ?_
  walk_at "go"
  refine ⟨_, rfl, Nat.le_trans hd.2 (by omega), ?_⟩
  refine p_js0 ?_
  walk_at "go"
  refine p_mapP (it := ⟨r.map D.int, none⟩) (enc := D.int) (xs := r) (fun w => .str (toString w)) rfl True.intro (by omega) (fun w h => ?_) ?_
  · refine som_e rfl ?_
    walk_at "go"
    have := hw w h
    refine l_str (by omega) ⟨rfl, rfl⟩
  · refine som_e rfl ?_
    walk_at "go"
    refine l_join (ys := ys) ?_ (by omega) ⟨ex_same, rfl⟩
    rw [← hys, itemsS_lst, List.append_nil, List.map_cons, List.map_map]
    rfl
theorem enumZ2 : ∀ (xs : List (List Int)) (k : Nat), enumD k (xs.map rowD') = (xs.zipIdx k).map fun q : List Int × Nat => D.tup [.int (q.2 : Nat), rowD' q.1]
  | [], _ => rfl
  | x :: xs, k => by
    rw [List.zipIdx_cons, List.map_cons, List.map_cons, ← enumZ2 xs (k + 1)]
    rfl
theorem S_text (h : IsWeb W) : ∃ s : Str, M_web_text [webD W] st = .ok (.str s) st := by
  have h9 := h.few
  have hrow : ∀ q ∈ W.zipIdx 0, q.2 ≤ 9 ∧ q.1.length ≤ 9 ∧ ∀ w ∈ q.1, 0 ≤ w ∧ w < 9 := fun q hq => by
    obtain ⟨r, i⟩ := q
    obtain ⟨_, hi, e⟩ := List.mem_zipIdx hq
    rw [Nat.zero_add] at hi
    have e2 : r = W[i] := e
    show i ≤ 9 ∧ r.length ≤ 9 ∧ ∀ w ∈ r, 0 ≤ w ∧ w < 9
    rw [e2]
    have h1 := h.row hi
    have h2 := h.rng i hi
    rw [rowAt_nat hi] at h1 h2
    exact ⟨by omega, h1, fun w hw => by have := h2 w hw; omega⟩
  have e1 : ("\n" : Str).length = 1 := by decide +kernel
  generalize hys : (W.zipIdx 0).map (fun q => lineZ q.2 q.1) = ys
  have bd : (ys.map (·.length)).sum ≤ ys.length * 100000 := sum_le ys fun y hy => by
    rw [← hys] at hy
    obtain ⟨q, hq, rfl⟩ := List.mem_map.mp hy
    have := hrow q hq
    exact (S_line (st := []) this.1 this.2.1 this.2.2).2
  have ln : ys.length ≤ 9 := by rw [← hys, List.length_map, List.length_zipIdx]; omega
  refine ⟨Txt.join "\n" ys, ?_⟩
  unfold M_web_text
  refine def_eq rfl True.intro ?_
  show (mSeq _ _ [some (webD W), none, none] st).wp ⟨_, _, _, _, _⟩
  walk_at "go"
  refine pe (S_check_web h) ?_
  walk_at "go"
  refine p_strM ?_
  walk_at "go"
  refine ⟨_, rfl, ?_⟩
  walk_at "go"
  refine pe (show enumR [webD W] st = .ok ⟨enumD 0 (W.map rowD'), none⟩ st from rfl) ?_
  refine p_mapP (it := ⟨enumD 0 (W.map rowD'), none⟩) (enc := fun q : List Int × Nat => D.tup [.int (q.2 : Nat), rowD' q.1]) (xs := W.zipIdx 0) (fun q => .str (lineZ q.2 q.1)) (enumZ2 W 0) True.intro (by rw [List.length_zipIdx]; omega) (fun q hq => ?_) ?_
  · refine som_e rfl ?_
    walk_at "go"
    have := hrow q hq
    refine pe ((S_line this.1 this.2.1 this.2.2).1) ?_
    walk_at "go"
    exact ⟨rfl, rfl⟩
  · refine l_join (ys := ys) ?_ (by rw [e1]; omega) ⟨ex_same, rfl⟩
    rw [← hys, itemsS_lst, List.map_map]
    rfl
end
end

/-! what is told -/
section
open PySem PySem.Spec PyProof.Rows L2 Hn
section
variable {st : Sto} {u n p g : Nat} {x y d : D} {b bw bv : Bool} {w N m : Int} {W : List (List Int)}
def dueZ (bw bv : Bool) : Str := if bw = true then (if bv = true then "let" else "number") else "web"
theorem tell (k : Nat) (hk : k < 2) (j : Jz x bw) (v : Vz d bv) : M__law_told [.int (k : Nat), x, d] st = .ok (.str (dueZ bw bv)) st := by
  cases bw with
  | false =>
    match k, hk with
    | 0, _ => exact tZ_web (call0_er True.intro (firm_nw j.1))
    | 1, _ => exact tZ_web (call1_er True.intro (weak_nw j.1))
  | true =>
    obtain ⟨W, rfl, hW⟩ := j.2.2 rfl
    cases bv with
    | false =>
      match k, hk with
      | 0, _ => exact tZ_num (call0_er True.intro (firm_nn hW v))
      | 1, _ => exact tZ_num (call1_er True.intro (weak_nn hW v))
    | true =>
      obtain ⟨i, rfl, hi⟩ := v.2.2 rfl
      match k, hk with
      | 0, _ => exact tZ_ok (call0_ok (d := .bl _) True.intro (S_firm hW hi))
      | 1, _ =>
        refine tZ_ok (call1_ok ?_ (S_weak hW hi))
        cases wkOf W (min i W.length) with
        | none => exact True.intro
        | some c => exact cl_row
theorem tell2 (k : Int) (hk : k = 2 ∨ k = 3) (j : Jz x bw) : M__law_told [.int k, x, .non] st = .ok (.str (dueZ bw true)) st := by
  cases bw with
  | false =>
    rcases hk with rfl | rfl
    · exact tZ_web (call2_er True.intro (gf_nw j.1))
    · exact tZ_web (call3_er True.intro (txt_nw j.1))
  | true =>
    obtain ⟨W, rfl, hW⟩ := j.2.2 rfl
    rcases hk with rfl | rfl
    · exact tZ_ok (call2_ok (d := .int _) True.intro (S_gf hW))
    · obtain ⟨s, e⟩ := S_text (st := st) hW
      exact tZ_ok (call3_ok (d := .str _) True.intro e)
theorem ne_due : neD (.lst [.str (dueZ bw bv), .str (dueZ bw bv)]) (.lst [.str (dueZ bw bv), .str (dueZ bw bv)]) st = .ok (.bl false) st := by
  have key : ∀ s : Str, SeqAt.shaped (.list [.str s, .str s]) = true → (!PyData.eqv (.list [.str s, .str s]) (.list [.str s, .str s])) = false → neD (.lst [.str s, .str s]) (.lst [.str s, .str s]) st = .ok (.bl false) st := fun s h1 h2 => by
    unfold neD
    rw [show toQ st (.lst [.str s, .str s]) = some (.list [.str s, .str s]) from rfl]
    simp only [ofOpt_some]
    rw [guardR_pos ⟨h1, h1⟩]
    exact congrArg (fun z => R.ok (D.bl z) st) h2
  refine key _ ?_ ?_ <;> (cases bw <;> cases bv <;> decide +kernel)
end
end

/-! the law -/
section
open PySem PySem.Spec PyProof.Rows L2 Hn
theorem math : ∀ ns : List Int, ns.length ≤ 63 → ∃ st, M_law [.rol (ns.map .int)] [] = .ok (.bl true) st := by
  intro ns hl
  unfold M_law
  refine law_true rfl ?_
  show (mSeq _ _ [some (.rol (ns.map D.int)), none, none, none, none, none, none, none, none, none, none, none] []).wp ⟨_, _, _, _, _⟩
  walk_at "go"
  obtain ⟨st0, p, g, e0, pot0⟩ := S_hand hl
  refine pe (e0) ?_
  walk_at "go"
  refine p_rng (n := 3) (by decide) ?_
  refine w_forR (fun i ρ s => Pot s p g ∧ ∃ x2 x3 x4 x5 x6 x7 x8 x9 x10 x11, ρ = [some (.rol (ns.map D.int)), some (.loc p), x2, x3, x4, x5, x6, x7, x8, x9, x10, x11]) ⟨pot0, _, _, _, _, _, _, _, _, _, _, rfl⟩ ?_ ?_
  · rintro i I ρ s hI hi ⟨pot, x2, x3, x4, x5, x6, x7, x8, x9, x10, x11, rfl⟩
    refine som_e rfl ?_
    walk_at "go"
    obtain ⟨dd, s1, e1, k1, pot1, r, rfl, r0, r1⟩ := S_draw (m := 5) pot (by decide) (by decide)
    refine pe (e1) ?_
    walk_at "go"
    obtain ⟨n, hn⟩ : ∃ n : Nat, (n : Int) = 1 + r := ⟨(1 + r).toNat, by omega⟩
    obtain ⟨d, s2, e2, k2, pot2, hd⟩ := S_some (st := s1) (xs := [.int 4, .int 8, .int 12]) pot1 (by simp) (by simp)
    refine pe (e2) ?_
    walk_at "go"
    obtain ⟨S, rfl⟩ : ∃ S : Int, d = .int S := by
      simp only [List.mem_cons, List.not_mem_nil, or_false] at hd
      rcases hd with rfl | rfl | rfl <;> exact ⟨_, rfl⟩
    obtain ⟨d, s3, e3, k3, pot3, W, rfl, hW, lW⟩ := S_hweb (N := 1 + r) (S := S) pot2 hn (by omega) (by omega)
    refine pe (e3) ?_
    walk_at "go"
    refine p_rng (n := 4) (by decide) ?_
    refine w_forR (fun i ρ s => Pot s p g ∧ ∃ x4 x5 x6 x7 x8 x9 x10 x11, ρ = [some (.rol (ns.map D.int)), some (.loc p), some (.int I), some (webD W), x4, x5, x6, x7, x8, x9, x10, x11]) ⟨pot3, _, _, _, _, _, _, _, _, rfl⟩ ?_ ?_
    · rintro k K ρ s hK hk ⟨pot, x4, x5, x6, x7, x8, x9, x10, x11, rfl⟩
      refine som_e rfl ?_
      walk_at "go"
      obtain ⟨t, s4, e4, k4, pot4, ⟨bt, jt⟩⟩ := S_bentZ hW pot
      refine pe (e4) ?_
      walk_at "go"
      refine pe (show negD (.int 1) _ = .ok (.int (-1)) _ from rfl) ?_
      walk_at "go"
      refine pe (show powD (.int 10) (.int 30) _ = .ok (.int ((10 : Int) ^ (30 : Int).toNat)) _ from guardR_pos (by decide)) ?_
      walk_at "go"
      refine pe (show mDct0 _ _ = .ok (.dct [] []) _ from rfl) ?_
      walk_at "go"
      refine pe (S_dpL) ?_
      walk_at "go"
      generalize (10 : Int) ^ (30 : Int).toNat = T30
      obtain ⟨v, s5, e5, k5, pot5, hv⟩ := S_some (st := s4) (xs := [D.int (-1), D.int 10, D.bl true, D.bl false, D.non, D.str "1", D.tup [D.int 1], D.lst [D.int 1], D.int T30, D.dct [] [], dpL 28, D.int 0, D.int 9]) pot4 (by simp) (by simp)
      have vz : ∃ b, Vz v b := by
        simp only [List.mem_cons, List.not_mem_nil, or_false] at hv
        rcases hv with rfl | rfl | rfl | rfl | rfl | rfl | rfl | rfl | rfl | rfl | rfl | rfl | rfl
        · exact vz_int _
        · exact vz_int _
        · exact ⟨_, vz_no nopr_bl noint_bl⟩
        · exact ⟨_, vz_no nopr_bl noint_bl⟩
        · exact vz_out fun _ => rfl
        · exact vz_out fun _ => rfl
        · exact vz_out fun _ => rfl
        · exact vz_out fun _ => rfl
        · exact vz_int _
        · exact vz_out fun _ => rfl
        · exact vz_out fun _ => rfl
        · exact vz_int _
        · exact vz_int _
      refine pe (e5) ?_
      walk_at "go"
      have jw := jz_web hW
      refine w_forP (it := ⟨[t, webD W], none⟩) (enc := fun d : D => d) (xs := [t, webD W]) (fun q ρ s => Pot s p g ∧ ∃ x6 x8 x9 x10 x11, ρ = [some (.rol (ns.map D.int)), some (.loc p), some (.int I), some (webD W), some (.int K), some t, x6, some v, x8, x9, x10, x11]) (by rw [List.map_id']) ⟨pot5, _, _, _, _, _, rfl⟩ (fun _ _ _ _ => True.intro) ?_ ?_
      · rintro q hq ρ s ⟨pot, x6, x8, x9, x10, x11, rfl⟩
        have hz : ∃ b, Jz ([t, webD W][q]) b := by
          have hm := List.getElem_mem hq
          generalize [t, webD W][q] = z at hm ⊢
          simp only [List.mem_cons, List.not_mem_nil, or_false] at hm
          rcases hm with rfl | rfl
          · exact ⟨_, jt⟩
          · exact ⟨_, jw⟩
        generalize [t, webD W][q] = z at hz ⊢
        obtain ⟨bz, jz⟩ := hz
        refine som_e rfl ?_
        walk_at "go"
        obtain ⟨dd, s6, e6, k6, pot6, r, rfl, r0, r1⟩ := S_draw (m := 10) pot (by decide) (by decide)
        refine pe (e6) ?_
        walk_at "go"
        refine w_forP (it := ⟨[v, .int r], none⟩) (enc := fun d : D => d) (xs := [v, .int r]) (fun q ρ s => Pot s p g ∧ ∃ x9 x10 x11, ρ = [some (.rol (ns.map D.int)), some (.loc p), some (.int I), some (webD W), some (.int K), some t, x6, some v, some z, x9, x10, x11]) (by rw [List.map_id']) ⟨pot6, _, _, _, rfl⟩ (fun _ _ _ _ => True.intro) ?_ ?_
        · rintro q2 hq2 ρ s ⟨pot, x9, x10, x11, rfl⟩
          have hy : ∃ b, Vz ([v, .int r][q2]) b := by
            have hm := List.getElem_mem hq2
            generalize [v, D.int r][q2] = y at hm ⊢
            simp only [List.mem_cons, List.not_mem_nil, or_false] at hm
            rcases hm with rfl | rfl
            · exact vz
            · exact vz_int _
          generalize [v, D.int r][q2] = y at hy ⊢
          obtain ⟨bv, vy⟩ := hy
          obtain ⟨due, hdue⟩ : ∃ s, dueZ bz bv = s := ⟨_, rfl⟩
          obtain ⟨dw, ew⟩ : ∃ s : Str, s = due := ⟨_, rfl⟩
          have ht : ∀ (k : Nat), k < 2 → ∀ st, M__law_told [.int (k : Nat), z, y] st = .ok (.str dw) st := fun k hk st => by rw [ew, ← hdue]; exact tell k hk jz vy
          have hn : ∀ st, neD (.lst [.str dw, .str dw]) (.lst [.str dw, .str dw]) st = .ok (.bl false) st := fun st => by rw [ew, ← hdue]; exact ne_due
          have hp := vy.2.1
          have hq := jz.2.1
          clear vy jz
          cases bv <;> cases bz <;> simp only [dueZ, if_true, if_false, Bool.false_eq_true] at hdue <;> subst hdue
          all_goals
            refine som_e rfl ?_
            walk_at "go"
            refine pe (hp s) ?_
            walk_at "go"
            refine pe (hq s) ?_
            walk_at "go"
            refine p_rng (n := 2) (by decide) ?_
            walk_at "go"
            refine p_mapR (n := 2) (fun _ => .str dw) (by decide) (fun k K hK hk => ?_) ?_
            · subst hK
              walk_at "go"
              refine pe (ht k hk s) ?_
              walk_at "go"
              exact ⟨rfl, rfl⟩
            · walk_at "go"
              subst ew
              refine pe (hn s) ?_
              walk_at "go"
              exact ⟨pot, _, _, _, rfl⟩
        · rintro ρ s ⟨pot, x9, x10, x11, rfl⟩
          obtain ⟨due, hdue⟩ : ∃ s, dueZ bz true = s := ⟨_, rfl⟩
          obtain ⟨dw, ew⟩ : ∃ s : Str, s = due := ⟨_, rfl⟩
          have ht : ∀ (k : Int), k = 2 ∨ k = 3 → ∀ st, M__law_told [.int k, z, .non] st = .ok (.str dw) st := fun k hk st => by rw [ew, ← hdue]; exact tell2 k hk jz
          have hn : ∀ st, neD (.lst [.str dw, .str dw]) (.lst [.str dw, .str dw]) st = .ok (.bl false) st := fun st => by rw [ew, ← hdue]; exact ne_due
          have hq := jz.2.1
          clear jz
          cases bz <;> simp only [dueZ, if_true, if_false, Bool.false_eq_true] at hdue <;> subst hdue
          all_goals
            walk_at "go"
            refine pe (hq s) ?_
            walk_at "go"
            refine p_mapP (it := ⟨[.int 2, .int 3], none⟩) (enc := D.int) (xs := [2, 3]) (fun _ => .str dw) rfl True.intro (by simp) (fun k hk => som_e rfl ?_) ?_
            · walk_at "go"
              refine pe (ht k (by simpa using hk) s) ?_
              walk_at "go"
              exact ⟨rfl, rfl⟩
            · walk_at "go"
              subst ew
              refine pe (hn s) ?_
              walk_at "go"
              exact ⟨pot, _, _, _, _, _, rfl⟩
      · rintro ρ s ⟨pot, x6, x8, x9, x10, x11, rfl⟩
        exact ⟨pot, _, _, _, _, _, _, _, _, rfl⟩
    · rintro ρ s ⟨pot, x4, x5, x6, x7, x8, x9, x10, x11, rfl⟩
      exact ⟨pot, _, _, _, _, _, _, _, _, _, _, rfl⟩
  · rintro ρ s ⟨pot, x2, x3, x4, x5, x6, x7, x8, x9, x10, x11, rfl⟩
    walk_at "go"
    rfl
end

end Pl
set_option maxHeartbeats 8000000
namespace Lw
open PySem PySem.Spec PyProof.Rows L2 EF Hn Pl
open PySem.W (Frag keepIn)
theorem dfn_mk {K : Frag} {h : Heap} {mg : Str → Option Value} {x : Str} {st : Stmt} {ps : List Str} {f : Addr} {od an : Option Addr} {sl : Array (Option Value)} {oc kV dc pm cd ct : Value} (X : K.In h) (G : h.Ns mainGlobals mg)
    (a : PySem.W.nsIn K mainGlobals x = some (some (.ref f))) (l : K.lookup f = some ⟨oc, od, .func (PySem.W.fnOf x x (defArgs st) (defBody st) (defScope st) .none kV dc pm an cd ct), sl⟩) (c : PySem.W.codeIn K cd x = true) (k : keepIn K (.ref f) = true)
    (hb : ∀ (kV doc pm : Value) (an : Option Addr) (cdv ct : Value) (us : List Value), us.length = ps.length → bindArgs (PySem.W.fnOf x x (defArgs st) (defBody st) (defScope st) .none kV doc pm an cdv ct) ⟨us, []⟩ = pure (ps.zip us)) : Dfn K mg x st ps :=
  have F := fun_mk (st := st) l c k
  ⟨f, _, F, F.binds hb, PySem.W.mg_of X G a⟩
def errB (K : Frag) (C : Addr) : Bool := keepIn K (.ref C) && PySem.W.excIn K C PySem.HandSPX.veTail "ValueError.__new__" && (PySem.W.subIn K (.ref C) (.type "BaseException") == some true) && (PySem.W.typeIn K (.ref C) == some (.type "type"))
theorem err_of {K : Frag} {mg : Str → Option Value} {x : Str} {C : Addr} (g : mg x = some (.ref C)) (h : errB K C = true) : Err K mg x C := by
  unfold errB at h
  simp only [Bool.and_eq_true] at h
  obtain ⟨⟨⟨h1, h2⟩, h3⟩, h4⟩ := h
  exact ⟨g, h1, h2, eq_of_beq h3, eq_of_beq h4⟩
/-- what isinstance asks of an error's class, as a reckoning -/
def isEB (K : Frag) (C : Addr) : Bool :=
  (PySem.W.clsIn K C).isSome && (PySem.W.findIn K (.ref C) "__getattribute__" == some (some (.builtin "BaseException.__getattribute__"))) && (PySem.W.findIn K (.ref C) "__getattr__" == some none) &&
  (PySem.W.subIn K (.ref C) (.type "BaseException") == some true) && (PySem.W.findIn K (.ref C) "__class__" == some (some (.builtin "object.__class__"))) &&
  (PySem.W.specialIn K (.builtin "object.__class__") "__get__" == some (some (.builtin "getset_descriptor.__get__"))) && (PySem.W.takesIn K (.builtin "object.__class__") == some true) && (PySem.W.mroIn K C (.type "object") == some true)
theorem isE_of {K : Frag} {C : Addr} (h : isEB K C = true) : IsE K C := by
  unfold isEB at h
  simp only [Bool.and_eq_true] at h
  obtain ⟨⟨⟨⟨⟨⟨⟨h1, h2⟩, h3⟩, h4⟩, h5⟩, h6⟩, h7⟩, h8⟩ := h
  exact ⟨h1, eq_of_beq h2, eq_of_beq h3, eq_of_beq h4, eq_of_beq h5, eq_of_beq h6, eq_of_beq h7, eq_of_beq h8⟩
theorem all_mk {l : PySem.W.OpenLaw} {w : World} {K : Frag} {h : Heap} {mg : Str → Option Value} {fa fl : Addr} {od an : Option Addr} {sl : Array (Option Value)} {oc kV dc pm cd ct : Value} {tkMOST_PEOPLE : Tok} {CNoNumber : Addr} {CNoWeb : Addr} {ACardError : Addr} {ANoNumber : Addr} {ANoWeb : Addr} (X : K.In h) (G : h.Ns mainGlobals mg) (hfa : mg "law" = some (.ref fa))
    (al : PySem.W.nsIn K mainGlobals "law" = some (some (.ref fl))) (ll : K.lookup fl = some ⟨oc, od, .func (PySem.W.fnOf "law" "law" (defArgs slaw) (defBody slaw) (defScope slaw) .none kV dc pm an cd ct), sl⟩) (cl : PySem.W.codeIn K cd "law" = true) (kl : keepIn K (.ref fl) = true)
    (zlen : PySem.W.nsIn K mainGlobals "len" = some none)
    (zint : PySem.W.nsIn K mainGlobals "int" = some none)
    (zabs : PySem.W.nsIn K mainGlobals "abs" = some none)
    (zsum : PySem.W.nsIn K mainGlobals "sum" = some none)
    (zisinstance : PySem.W.nsIn K mainGlobals "isinstance" = some none)
    (zall : PySem.W.nsIn K mainGlobals "all" = some none)
    (zany : PySem.W.nsIn K mainGlobals "any" = some none)
    (zrange : PySem.W.nsIn K mainGlobals "range" = some none)
    (zenumerate : PySem.W.nsIn K mainGlobals "enumerate" = some none)
    (zzip : PySem.W.nsIn K mainGlobals "zip" = some none)
    (ztuple : PySem.W.nsIn K mainGlobals "tuple" = some none)
    (zlist : PySem.W.nsIn K mainGlobals "list" = some none)
    (zbool : PySem.W.nsIn K mainGlobals "bool" = some none)
    (zsorted : PySem.W.nsIn K mainGlobals "sorted" = some none)
    (zset : PySem.W.nsIn K mainGlobals "set" = some none)
    (zValueError : PySem.W.nsIn K mainGlobals "ValueError" = some none)
    (zmin : PySem.W.nsIn K mainGlobals "min" = some none)
    (zmax : PySem.W.nsIn K mainGlobals "max" = some none)
    (zstr : PySem.W.nsIn K mainGlobals "str" = some none)
    (zdict : PySem.W.nsIn K mainGlobals "dict" = some none)
    (zrepr : PySem.W.nsIn K mainGlobals "repr" = some none)
    (zreversed : PySem.W.nsIn K mainGlobals "reversed" = some none)
    (zKeyError : PySem.W.nsIn K mainGlobals "KeyError" = some none)
    (Dis_integer : Dfn K mg "is_integer" sis_integer ["thing"])
    (Dis_between : Dfn K mg "is_between" sis_between ["thing", "least", "most"])
    (Dis_person : Dfn K mg "is_person" sis_person ["thing", "many"])
    (Dis_ascending : Dfn K mg "is_ascending" sis_ascending ["row"])
    (Dis_web : Dfn K mg "is_web" sis_web ["thing"])
    (Dis_pocket : Dfn K mg "is_pocket" sis_pocket ["thing", "u", "many"])
    (Dcheck_web : Dfn K mg "check_web" scheck_web ["thing"])
    (Dsteps_from : Dfn K mg "steps_from" ssteps_from ["pockets", "start"])
    (Dfound_from : Dfn K mg "found_from" sfound_from ["pockets", "start"])
    (Dall_found : Dfn K mg "all_found" sall_found ["pockets"])
    (Dwithout : Dfn K mg "without" swithout ["pockets", "gone"])
    (Dfirm : Dfn K mg "firm" sfirm ["web", "k"])
    (Dweak : Dfn K mg "weak" sweak ["web", "k"])
    (Dgreatest_firm : Dfn K mg "greatest_firm" sgreatest_firm ["web"])
    (Dweak_lot : Dfn K mg "weak_lot" sweak_lot ["web", "most"])
    (Dis_whole : Dfn K mg "is_whole" sis_whole ["web", "gone"])
    (Dweb_text : Dfn K mg "web_text" sweb_text ["web"])
    (Dperson_line : Dfn K mg "person_line" sperson_line ["u", "pocket"])
    (D_law_hand : Dfn K mg "_law_hand" s_law_hand ["script"])
    (D_law_draw : Dfn K mg "_law_draw" s_law_draw ["hand", "many"])
    (D_law_some : Dfn K mg "_law_some" s_law_some ["hand", "things"])
    (D_law_deep : Dfn K mg "_law_deep" s_law_deep ["kind"])
    (D_law_web : Dfn K mg "_law_web" s_law_web ["hand", "many", "share"])
    (D_law_is_person : Dfn K mg "_law_is_person" s_law_is_person ["thing", "many"])
    (D_law_is_web : Dfn K mg "_law_is_web" s_law_is_web ["thing"])
    (D_law_bent_web : Dfn K mg "_law_bent_web" s_law_bent_web ["hand", "web"])
    (D_law_call : Dfn K mg "_law_call" s_law_call ["which", "web", "number"])
    (D_law_told : Dfn K mg "_law_told" s_law_told ["which", "web", "number"])
    (cMOST_PEOPLE : PySem.W.nsIn K mainGlobals "MOST_PEOPLE" = some (some (.int 9 tkMOST_PEOPLE)))
    (ccombinations : PySem.W.nsIn K mainGlobals "combinations" = some (some (.type "itertools.combinations")))
    (aNoNumber : PySem.W.nsIn K mainGlobals "NoNumber" = some (some (.ref CNoNumber)))
    (bNoNumber : errB K CNoNumber = true)
    (aNoWeb : PySem.W.nsIn K mainGlobals "NoWeb" = some (some (.ref CNoWeb)))
    (bNoWeb : errB K CNoWeb = true)
    (nCardError : PySem.W.nsIn K mainGlobals "CardError" = some (some (.ref ACardError)))
    (nNoNumber : PySem.W.nsIn K mainGlobals "NoNumber" = some (some (.ref ANoNumber)))
    (nNoWeb : PySem.W.nsIn K mainGlobals "NoWeb" = some (some (.ref ANoWeb)))
    (qCardError_NoNumber : (PySem.W.exmOne K (.ref CNoNumber) (.ref ACardError) == some true) = true)
    (qCardError_NoWeb : (PySem.W.exmOne K (.ref CNoWeb) (.ref ACardError) == some true) = true)
    (jNoNumber : isEB K CNoNumber = true)
    (jNoWeb : isEB K CNoWeb = true)
    (rNoNumber_NoNumber : (PySem.W.kitOne K (.ref CNoNumber) (.ref ANoNumber) == some true) = true)
    (rNoNumber_NoWeb : (PySem.W.kitOne K (.ref CNoWeb) (.ref ANoNumber) == some false) = true)
    (rNoWeb_NoNumber : (PySem.W.kitOne K (.ref CNoNumber) (.ref ANoWeb) == some false) = true)
    (rNoWeb_NoWeb : (PySem.W.kitOne K (.ref CNoWeb) (.ref ANoWeb) == some true) = true)
    (rValueError_NoNumber : (PySem.W.kitOne K (.ref CNoNumber) (.type "ValueError") == some true) = true)
    (rValueError_NoWeb : (PySem.W.kitOne K (.ref CNoWeb) (.type "ValueError") == some true) = true) :
    ∃ fd : FuncData, (∀ (s : Shared) (v : Value), BindsTo s fd ⟨[v], []⟩ [("script", v)]) ∧ ∀ base : Heap, K.In base → base.Ns mainGlobals mg → FnOk l.prog w K mg base (L2.CX l.prog w) 11 fa fd ["script"] (spLaw K) := by
  have e := hfa.symm.trans (PySem.W.mg_of X G al)
  cases e
  have F := fun_mk (st := slaw) ll cl kl
  have B : Bl mg := ⟨PySem.W.mg_none_of X G zlen, PySem.W.mg_none_of X G zint, PySem.W.mg_none_of X G zabs, PySem.W.mg_none_of X G zsum, PySem.W.mg_none_of X G zisinstance, PySem.W.mg_none_of X G zall, PySem.W.mg_none_of X G zany, PySem.W.mg_none_of X G zrange, PySem.W.mg_none_of X G zenumerate, PySem.W.mg_none_of X G zzip, PySem.W.mg_none_of X G ztuple, PySem.W.mg_none_of X G zlist, PySem.W.mg_none_of X G zbool, PySem.W.mg_none_of X G zsorted, PySem.W.mg_none_of X G zset, PySem.W.mg_none_of X G zValueError⟩
  have B2 : Bl2 mg := ⟨PySem.W.mg_none_of X G zmin, PySem.W.mg_none_of X G zmax, PySem.W.mg_none_of X G zstr, PySem.W.mg_none_of X G zdict, PySem.W.mg_none_of X G zrepr, PySem.W.mg_none_of X G zreversed, PySem.W.mg_none_of X G zKeyError⟩
  refine ⟨PySem.W.fnOf "law" "law" (defArgs slaw) (defBody slaw) (defScope slaw) .none kV dc pm an cd ct, fun s v => .of_eq rfl, fun base _ _ => ?_⟩
  have TNoWeb : Err K mg "NoWeb" CNoWeb := err_of (PySem.W.mg_of X G aNoWeb) bNoWeb
  have TNoNumber : Err K mg "NoNumber" CNoNumber := err_of (PySem.W.mg_of X G aNoNumber) bNoNumber
  have QCardError : TbOk K mg [("NoNumber", true), ("NoWeb", true)] (.ref ACardError) := (tb_cons TNoNumber.g (eq_of_beq qCardError_NoNumber) (tb_cons TNoWeb.g (eq_of_beq qCardError_NoWeb) tb_nil))
  have INoNumber : IsTb K mg [("NoNumber", true), ("NoWeb", false)] (.ref ANoNumber) := (is_cons TNoNumber.g (isE_of jNoNumber) (eq_of_beq rNoNumber_NoNumber) (is_cons TNoWeb.g (isE_of jNoWeb) (eq_of_beq rNoNumber_NoWeb) is_nil))
  have INoWeb : IsTb K mg [("NoNumber", false), ("NoWeb", true)] (.ref ANoWeb) := (is_cons TNoNumber.g (isE_of jNoNumber) (eq_of_beq rNoWeb_NoNumber) (is_cons TNoWeb.g (isE_of jNoWeb) (eq_of_beq rNoWeb_NoWeb) is_nil))
  have IValueError : IsTb K mg [("NoNumber", true), ("NoWeb", true)] (.type "ValueError") := (is_cons TNoNumber.g (isE_of jNoNumber) (eq_of_beq rValueError_NoNumber) (is_cons TNoWeb.g (isE_of jNoWeb) (eq_of_beq rValueError_NoWeb) is_nil))
  have Gis_integer : KM l.prog w K mg base 1 "is_integer" ["thing"] M_is_integer := K_is_integer B B2 Dis_integer
  have Gis_between : KM l.prog w K mg base 2 "is_between" ["thing", "least", "most"] M_is_between := K_is_between B B2 Dis_between Gis_integer
  have Gis_person : KM l.prog w K mg base 3 "is_person" ["thing", "many"] M_is_person := K_is_person B B2 Dis_person Gis_between
  have Gis_ascending : KM l.prog w K mg base 1 "is_ascending" ["row"] M_is_ascending := K_is_ascending B B2 Dis_ascending
  have Gis_pocket : KM l.prog w K mg base 4 "is_pocket" ["thing", "u", "many"] M_is_pocket := K_is_pocket B B2 Dis_pocket Gis_person Gis_ascending
  have Gis_web : KM l.prog w K mg base 5 "is_web" ["thing"] M_is_web := K_is_web B B2 Dis_web Gis_pocket (PySem.W.mg_of X G cMOST_PEOPLE)
  have Gcheck_web : KM l.prog w K mg base 6 "check_web" ["thing"] M_check_web := K_check_web B B2 Dcheck_web Gis_web TNoWeb
  have Gsteps_from : KM l.prog w K mg base 1 "steps_from" ["pockets", "start"] M_steps_from := K_steps_from B B2 Dsteps_from
  have Gfound_from : KM l.prog w K mg base 2 "found_from" ["pockets", "start"] M_found_from := K_found_from B B2 Dfound_from Gsteps_from
  have Gall_found : KM l.prog w K mg base 3 "all_found" ["pockets"] M_all_found := K_all_found B B2 Dall_found Gfound_from
  have Gwithout : KM l.prog w K mg base 1 "without" ["pockets", "gone"] M_without := K_without B B2 Dwithout
  have Gis_whole : KM l.prog w K mg base 4 "is_whole" ["web", "gone"] M_is_whole := K_is_whole B B2 Dis_whole Gall_found Gwithout
  have Gweak_lot : KM l.prog w K mg base 5 "weak_lot" ["web", "most"] M_weak_lot := K_weak_lot B B2 Dweak_lot Gis_whole (PySem.W.mg_of X G ccombinations)
  have Gweak : KM l.prog w K mg base 7 "weak" ["web", "k"] M_weak := K_weak B B2 Dweak Gis_between Gcheck_web Gweak_lot (PySem.W.mg_of X G cMOST_PEOPLE) TNoNumber
  have Gfirm : KM l.prog w K mg base 8 "firm" ["web", "k"] M_firm := K_firm B B2 Dfirm Gweak
  have Ggreatest_firm : KM l.prog w K mg base 7 "greatest_firm" ["web"] M_greatest_firm := K_greatest_firm B B2 Dgreatest_firm Gcheck_web Gweak_lot
  have Gperson_line : KM l.prog w K mg base 1 "person_line" ["u", "pocket"] M_person_line := K_person_line B B2 Dperson_line
  have Gweb_text : KM l.prog w K mg base 7 "web_text" ["web"] M_web_text := K_web_text B B2 Dweb_text Gcheck_web Gperson_line
  have G_law_hand : KM l.prog w K mg base 1 "_law_hand" ["script"] M__law_hand := K__law_hand B B2 D_law_hand
  have G_law_draw : KM l.prog w K mg base 1 "_law_draw" ["hand", "many"] M__law_draw := K__law_draw B B2 D_law_draw
  have G_law_some : KM l.prog w K mg base 2 "_law_some" ["hand", "things"] M__law_some := K__law_some B B2 D_law_some G_law_draw
  have G_law_deep : KM l.prog w K mg base 1 "_law_deep" ["kind"] M__law_deep := K__law_deep B B2 D_law_deep
  have G_law_web : KM l.prog w K mg base 2 "_law_web" ["hand", "many", "share"] M__law_web := K__law_web B B2 D_law_web G_law_draw
  have G_law_is_person : KM l.prog w K mg base 1 "_law_is_person" ["thing", "many"] M__law_is_person := K__law_is_person B B2 D_law_is_person
  have G_law_is_web : KM l.prog w K mg base 2 "_law_is_web" ["thing"] M__law_is_web := K__law_is_web B B2 D_law_is_web G_law_is_person
  have G_law_bent_web : KM l.prog w K mg base 3 "_law_bent_web" ["hand", "web"] M__law_bent_web := K__law_bent_web B B2 D_law_bent_web G_law_draw G_law_some G_law_deep
  have G_law_call : KM l.prog w K mg base 9 "_law_call" ["which", "web", "number"] M__law_call := K__law_call B B2 D_law_call Gfirm Gweak Ggreatest_firm Gweb_text
  have G_law_told : KM l.prog w K mg base 10 "_law_told" ["which", "web", "number"] M__law_told := K__law_told B B2 D_law_told G_law_call (PySem.W.mg_of X G nCardError) (PySem.W.mg_of X G nNoNumber) (PySem.W.mg_of X G nNoWeb) QCardError INoWeb INoNumber IValueError
  exact law_fn (K_law B B2 F (fun s us _ hl => .of_eq (match us, hl with | [_], _ => rfl)) hfa G_law_hand G_law_draw G_law_some G_law_deep G_law_web G_law_is_person G_law_is_web G_law_bent_web G_law_told) math
end Lw
open PySem PySem.W PyProof.Rows
set_option maxHeartbeats 0 in
theorem PySem.Challenge.cw_stillfound_k47_vanishing_and_texts_refus_holds : PySem.Challenge.rw_stillfound_k47_vanishing_and_texts_refus.Holds := by
  w_on; o_law; k_head; (case hw => w_witness2)
  k_fill
  refine L2.walk_of (l := PySem.Challenge.rw_stillfound_k47_vanishing_and_texts_refus) (n := 63) (k := 11) (x := "script") (CX := fun w => L2.CX PySem.Challenge.rw_stillfound_k47_vanishing_and_texts_refus.prog w) (sp := fun w => Pl.spLaw _) rfl (by decide) rfl ⟨rfl, by decide, by decide⟩ (fun w h Y => PySem.W.kIn_of Y) ?F (fun _ _ a ns hl _ hS => ⟨a, ns, rfl, hS, hl, fun _ => rfl⟩) Pl.cx_no
  case F =>
    intro w mg fa h KX G hmg
    refine' Lw.all_mk KX G hmg ?al ?ll ?cl ?kl ?zlen ?zint ?zabs ?zsum ?zisinstance ?zall ?zany ?zrange ?zenumerate ?zzip ?ztuple ?zlist ?zbool ?zsorted ?zset ?zValueError ?zmin ?zmax ?zstr ?zdict ?zrepr ?zreversed ?zKeyError ?Dis_integer ?Dis_between ?Dis_person ?Dis_ascending ?Dis_web ?Dis_pocket ?Dcheck_web ?Dsteps_from ?Dfound_from ?Dall_found ?Dwithout ?Dfirm ?Dweak ?Dgreatest_firm ?Dweak_lot ?Dis_whole ?Dweb_text ?Dperson_line ?D_law_hand ?D_law_draw ?D_law_some ?D_law_deep ?D_law_web ?D_law_is_person ?D_law_is_web ?D_law_bent_web ?D_law_call ?D_law_told ?cMOST_PEOPLE ?ccombinations ?aNoNumber ?bNoNumber ?aNoWeb ?bNoWeb ?nCardError ?nNoNumber ?nNoWeb ?qCardError_NoNumber ?qCardError_NoWeb ?jNoNumber ?jNoWeb ?rNoNumber_NoNumber ?rNoNumber_NoWeb ?rNoWeb_NoNumber ?rNoWeb_NoWeb ?rValueError_NoNumber ?rValueError_NoWeb
    (case al => k_is)
    (case ll => k_is)
    (case cl => k_is)
    (case kl => k_is)
    (case zlen => k_is)
    (case zint => k_is)
    (case zabs => k_is)
    (case zsum => k_is)
    (case zisinstance => k_is)
    (case zall => k_is)
    (case zany => k_is)
    (case zrange => k_is)
    (case zenumerate => k_is)
    (case zzip => k_is)
    (case ztuple => k_is)
    (case zlist => k_is)
    (case zbool => k_is)
    (case zsorted => k_is)
    (case zset => k_is)
    (case zValueError => k_is)
    (case zmin => k_is)
    (case zmax => k_is)
    (case zstr => k_is)
    (case zdict => k_is)
    (case zrepr => k_is)
    (case zreversed => k_is)
    (case zKeyError => k_is)
    (case Dis_integer => refine' Lw.dfn_mk KX G ?a ?l ?c ?k (fun _ _ _ _ _ _ us hl => match us, hl with | [_], _ => rfl); (case a => k_is); (case l => k_is); (case c => k_is); (case k => k_is))
    (case Dis_between => refine' Lw.dfn_mk KX G ?a ?l ?c ?k (fun _ _ _ _ _ _ us hl => match us, hl with | [_, _, _], _ => rfl); (case a => k_is); (case l => k_is); (case c => k_is); (case k => k_is))
    (case Dis_person => refine' Lw.dfn_mk KX G ?a ?l ?c ?k (fun _ _ _ _ _ _ us hl => match us, hl with | [_, _], _ => rfl); (case a => k_is); (case l => k_is); (case c => k_is); (case k => k_is))
    (case Dis_ascending => refine' Lw.dfn_mk KX G ?a ?l ?c ?k (fun _ _ _ _ _ _ us hl => match us, hl with | [_], _ => rfl); (case a => k_is); (case l => k_is); (case c => k_is); (case k => k_is))
    (case Dis_web => refine' Lw.dfn_mk KX G ?a ?l ?c ?k (fun _ _ _ _ _ _ us hl => match us, hl with | [_], _ => rfl); (case a => k_is); (case l => k_is); (case c => k_is); (case k => k_is))
    (case Dis_pocket => refine' Lw.dfn_mk KX G ?a ?l ?c ?k (fun _ _ _ _ _ _ us hl => match us, hl with | [_, _, _], _ => rfl); (case a => k_is); (case l => k_is); (case c => k_is); (case k => k_is))
    (case Dcheck_web => refine' Lw.dfn_mk KX G ?a ?l ?c ?k (fun _ _ _ _ _ _ us hl => match us, hl with | [_], _ => rfl); (case a => k_is); (case l => k_is); (case c => k_is); (case k => k_is))
    (case Dsteps_from => refine' Lw.dfn_mk KX G ?a ?l ?c ?k (fun _ _ _ _ _ _ us hl => match us, hl with | [_, _], _ => rfl); (case a => k_is); (case l => k_is); (case c => k_is); (case k => k_is))
    (case Dfound_from => refine' Lw.dfn_mk KX G ?a ?l ?c ?k (fun _ _ _ _ _ _ us hl => match us, hl with | [_, _], _ => rfl); (case a => k_is); (case l => k_is); (case c => k_is); (case k => k_is))
    (case Dall_found => refine' Lw.dfn_mk KX G ?a ?l ?c ?k (fun _ _ _ _ _ _ us hl => match us, hl with | [_], _ => rfl); (case a => k_is); (case l => k_is); (case c => k_is); (case k => k_is))
    (case Dwithout => refine' Lw.dfn_mk KX G ?a ?l ?c ?k (fun _ _ _ _ _ _ us hl => match us, hl with | [_, _], _ => rfl); (case a => k_is); (case l => k_is); (case c => k_is); (case k => k_is))
    (case Dfirm => refine' Lw.dfn_mk KX G ?a ?l ?c ?k (fun _ _ _ _ _ _ us hl => match us, hl with | [_, _], _ => rfl); (case a => k_is); (case l => k_is); (case c => k_is); (case k => k_is))
    (case Dweak => refine' Lw.dfn_mk KX G ?a ?l ?c ?k (fun _ _ _ _ _ _ us hl => match us, hl with | [_, _], _ => rfl); (case a => k_is); (case l => k_is); (case c => k_is); (case k => k_is))
    (case Dgreatest_firm => refine' Lw.dfn_mk KX G ?a ?l ?c ?k (fun _ _ _ _ _ _ us hl => match us, hl with | [_], _ => rfl); (case a => k_is); (case l => k_is); (case c => k_is); (case k => k_is))
    (case Dweak_lot => refine' Lw.dfn_mk KX G ?a ?l ?c ?k (fun _ _ _ _ _ _ us hl => match us, hl with | [_, _], _ => rfl); (case a => k_is); (case l => k_is); (case c => k_is); (case k => k_is))
    (case Dis_whole => refine' Lw.dfn_mk KX G ?a ?l ?c ?k (fun _ _ _ _ _ _ us hl => match us, hl with | [_, _], _ => rfl); (case a => k_is); (case l => k_is); (case c => k_is); (case k => k_is))
    (case Dweb_text => refine' Lw.dfn_mk KX G ?a ?l ?c ?k (fun _ _ _ _ _ _ us hl => match us, hl with | [_], _ => rfl); (case a => k_is); (case l => k_is); (case c => k_is); (case k => k_is))
    (case Dperson_line => refine' Lw.dfn_mk KX G ?a ?l ?c ?k (fun _ _ _ _ _ _ us hl => match us, hl with | [_, _], _ => rfl); (case a => k_is); (case l => k_is); (case c => k_is); (case k => k_is))
    (case D_law_hand => refine' Lw.dfn_mk KX G ?a ?l ?c ?k (fun _ _ _ _ _ _ us hl => match us, hl with | [_], _ => rfl); (case a => k_is); (case l => k_is); (case c => k_is); (case k => k_is))
    (case D_law_draw => refine' Lw.dfn_mk KX G ?a ?l ?c ?k (fun _ _ _ _ _ _ us hl => match us, hl with | [_, _], _ => rfl); (case a => k_is); (case l => k_is); (case c => k_is); (case k => k_is))
    (case D_law_some => refine' Lw.dfn_mk KX G ?a ?l ?c ?k (fun _ _ _ _ _ _ us hl => match us, hl with | [_, _], _ => rfl); (case a => k_is); (case l => k_is); (case c => k_is); (case k => k_is))
    (case D_law_deep => refine' Lw.dfn_mk KX G ?a ?l ?c ?k (fun _ _ _ _ _ _ us hl => match us, hl with | [_], _ => rfl); (case a => k_is); (case l => k_is); (case c => k_is); (case k => k_is))
    (case D_law_web => refine' Lw.dfn_mk KX G ?a ?l ?c ?k (fun _ _ _ _ _ _ us hl => match us, hl with | [_, _, _], _ => rfl); (case a => k_is); (case l => k_is); (case c => k_is); (case k => k_is))
    (case D_law_is_person => refine' Lw.dfn_mk KX G ?a ?l ?c ?k (fun _ _ _ _ _ _ us hl => match us, hl with | [_, _], _ => rfl); (case a => k_is); (case l => k_is); (case c => k_is); (case k => k_is))
    (case D_law_is_web => refine' Lw.dfn_mk KX G ?a ?l ?c ?k (fun _ _ _ _ _ _ us hl => match us, hl with | [_], _ => rfl); (case a => k_is); (case l => k_is); (case c => k_is); (case k => k_is))
    (case D_law_bent_web => refine' Lw.dfn_mk KX G ?a ?l ?c ?k (fun _ _ _ _ _ _ us hl => match us, hl with | [_, _], _ => rfl); (case a => k_is); (case l => k_is); (case c => k_is); (case k => k_is))
    (case D_law_call => refine' Lw.dfn_mk KX G ?a ?l ?c ?k (fun _ _ _ _ _ _ us hl => match us, hl with | [_, _, _], _ => rfl); (case a => k_is); (case l => k_is); (case c => k_is); (case k => k_is))
    (case D_law_told => refine' Lw.dfn_mk KX G ?a ?l ?c ?k (fun _ _ _ _ _ _ us hl => match us, hl with | [_, _, _], _ => rfl); (case a => k_is); (case l => k_is); (case c => k_is); (case k => k_is))
    (case cMOST_PEOPLE => k_is)
    (case ccombinations => k_is)
    (case aNoNumber => k_is)
    (case bNoNumber => kernel_rfl)
    (case aNoWeb => k_is)
    (case bNoWeb => kernel_rfl)
    (case nCardError => k_is)
    (case nNoNumber => k_is)
    (case nNoWeb => k_is)
    (case qCardError_NoNumber => kernel_rfl)
    (case qCardError_NoWeb => kernel_rfl)
    (case jNoNumber => kernel_rfl)
    (case jNoWeb => kernel_rfl)
    (case rNoNumber_NoNumber => kernel_rfl)
    (case rNoNumber_NoWeb => kernel_rfl)
    (case rNoWeb_NoNumber => kernel_rfl)
    (case rNoWeb_NoWeb => kernel_rfl)
    (case rValueError_NoNumber => kernel_rfl)
    (case rValueError_NoWeb => kernel_rfl)

