import PyProof.Rows.All
import Wide.All
import OpenK.AllK
import Wide.FinOn
import HandS.ForMost
import HandS.ForExc
import HandS.ExcInit
import PyProof.EqAt
import PyProof.EqKinds
import PyProof.TupleCall
import KE.KExcSuper
import HandS.ExcValue
import HandS.IsInst
import KE.KExcIs
import HandS.Zip
import HandS.More
import HandS.TupAny
import HandS.TupSets
import HandS.Strs
import HandS.SetBool
import KE.SortData
import KE.LtData
import HandS.SortOrd
import HandS.Deep
import PyProof.P3In
import HandS.TupMul
import HandS.Star
import HandS.WordsDict
import HandS.SetIn
import KE.KSetDisp
import KE.GoesEnum
import KE.GoesMore
import HandS.Small
import HandS.ExcIs
import HandS.SortInts
import HandS.Style
import HandS.CallLocal
import KE.KRevSl
import HandS.SetFor
import HandS.TryMany
import KE.DataFind
import PySem.Challenge.RW_stillfound_k16_whole_full_webs_and_lacks
set_option Elab.async false
set_option linter.all false
set_option maxRecDepth 100000
set_option maxHeartbeats 4000000
/-! A second reading of a program, without a heap: values are data (D), what is changed in place stands in a store (Sto) by numbers; an expression is a function of the names' data and the store.
Here: what data are, how they stand on the heap, and that they stay there. -/
namespace Pl
open PySem PySem.Spec PyProof.Rows L2
open PySem.W (Frag keepIn)
inductive D where
  | non
  | bl (b : Bool)
  | int (i : Int)
  | str (s : Str)
  | tup (xs : List D)
  /-- a list that nobody changes any more; one that is but read (the script) -/
  | lst (xs : List D) | rol (xs : List D)
  /-- a dict that nobody changes any more -/
  | dct (ks : List Key) (vs : List D)
  /-- what stands in the store -/
  | loc (n : Nat)
  /-- a def or a class of the text -/
  | nam (x : Str)
  /-- the error in hand -/
  | err (c : Str) (xs : List D)
inductive C where
  | lst (xs : List D)
  | dct (kvs : List (Key × D)) | dcT (kvs : List (List Key × D))
  | set (xs : List D)
  | ins (c : Str) (fs : List (Str × D))
abbrev Sto := List C
abbrev Env := List (Option D)
/-- an error: its class, its field -/
structure Er where
  cls : Str
  fs : List (Str × D)
inductive R (α : Type) where
  | ok (a : α) (st : Sto)
  | er (e : Er) (st : Sto)
  | no
def R.bind {α β : Type} (r : R α) (f : α → Sto → R β) : R β :=
  match r with
  | .ok a st => f a st
  | .er e st => .er e st
  | .no => .no
def R.post {α : Type} (r : R α) (P : α → Sto → Prop) (B : Er → Sto → Prop) : Prop :=
  match r with
  | .ok a st => P a st
  | .er e st => B e st
  | .no => False
theorem R.post_bind {α β : Type} {r : R α} {f : α → Sto → R β} {P : β → Sto → Prop} {B : Er → Sto → Prop} (h : (r.bind f).post P B) : r.post (fun a st => (f a st).post P B) B := by
  cases r with
  | ok a st => exact h
  | er e st => exact h
  | no => exact h
theorem R.post_mono {α : Type} {r : R α} {P P' : α → Sto → Prop} {B B' : Er → Sto → Prop} (h : r.post P B) (hP : ∀ a st, P a st → P' a st) (hB : ∀ e st, B e st → B' e st) : r.post P' B' := by
  cases r with
  | ok a st => exact hP _ _ h
  | er e st => exact hB _ _ h
  | no => exact h
@[simp] theorem R.ok_bind {α β : Type} (a : α) (st : Sto) (f : α → Sto → R β) : (R.ok a st).bind f = f a st := rfl
@[simp] theorem R.er_bind {α β : Type} (e : Er) (st : Sto) (f : α → Sto → R β) : (R.er e st : R α).bind f = .er e st := rfl
/-- what one looks through: the written part, the module's names, the error in hand -/
structure G where
  P : Program
  w : World
  K : Frag
  mg : Str → Option Value
  ea : Option Addr
  /-- the heap as the def found it -/
  h0 : Hp
/-- where the store's things stand; and lists that are being made, which no datum names -/
structure Mu where
  ls : List Addr
  pv : List Addr
def Mu.off (μ : Mu) (a : Addr) : Prop := a ∉ μ.ls ∧ a ∉ μ.pv
/-- o stands at a and nobody changes it -/
def Fz (μ : Mu) (H : Hp) (a : Addr) (o : HO) : Prop := μ.off a ∧ Rd H a o
def keyD : Key → D
  | .inl i => .int i
  | .inr s => .str s
def H0 : Hp := fun _ => none
mutual
def RV (g : G) (μ : Mu) (H : Hp) : D → V → Prop
  | .non, v => v = .non
  | .bl b, v => v = .bl b
  | .int i, v => v = .int i
  | .str s, v => v = .str s
  | .tup xs, v => ∃ a vs, v = .ref a ∧ (μ.off a ∧ H a = some (.tup vs)) ∧ RVs g μ H xs vs
  | .lst xs, v => ∃ a vs, v = .ref a ∧ (μ.off a ∧ H a = some (.lst vs)) ∧ RVs g μ H xs vs
  | .rol xs, v => ∃ a vs, v = .ref a ∧ (Fz μ H a (.lst vs) ∨ SqL g.K H0 a vs) ∧ RVs g μ H xs vs
  | .dct ks xs, v => ∃ a kvs, v = .ref a ∧ (μ.off a ∧ H a = some (.dK kvs)) ∧ kvs.map (·.1) = ks ∧ RVs g μ H xs (kvs.map (·.2))
  | .loc n, v => ∃ a, v = .ref a ∧ μ.ls[n]? = some a
  | .nam x, v => ∃ a, v = .ref a ∧ g.mg x = some (.ref a)
  | .err c xs, v => ∃ a, v = .ref a ∧ g.ea = some a
def RVs (g : G) (μ : Mu) (H : Hp) : List D → List V → Prop
  | [], vs => vs = []
  | d :: ds, vs => ∃ v r, vs = v :: r ∧ RV g μ H d v ∧ RVs g μ H ds r
end
/-- the heap has gone on: more in the store, what is not of the store stays -/
structure Go (μ : Mu) (H : Hp) (μ' : Mu) (H' : Hp) : Prop where
  ext : ∃ ν, μ'.ls = μ.ls ++ ν
  pv : μ'.pv = μ.pv
  new : ∀ a ∈ μ'.ls, a ∈ μ.ls ∨ H a = none
  keep : ∀ a o, a ∉ μ.ls → H a = some o → H' a = some o
def Rf (g : G) (μ : Mu) (H : Hp) : List (Str × D) → List (Str × V) → Prop := fun fs gs => fs.map (·.1) = gs.map (·.1) ∧ RVs g μ H (fs.map (·.2)) (gs.map (·.2))
def RC (g : G) (μ : Mu) (H : Hp) (a : Addr) : C → Prop
  | .lst xs => ∃ vs, H a = some (.lst vs) ∧ RVs g μ H xs vs
  | .dct ps => ∃ kvs, H a = some (.dK kvs) ∧ kvs.map (·.1) = ps.map (·.1) ∧ RVs g μ H (ps.map (·.2)) (kvs.map (·.2))
  | .dcT ps => ∃ kvs, H a = some (.dT kvs) ∧ kvs.map (·.1) = ps.map (·.1) ∧ RVs g μ H (ps.map (·.2)) (kvs.map (·.2))
  | .set xs => False
  | .ins c fs => ∃ C dx gs, H a = some (.ins C dx gs) ∧ g.mg c = some (.ref C) ∧ Rf g μ H fs gs
/-- the store is held -/
structure RS (g : G) (μ : Mu) (H : Hp) (st : Sto) : Prop where
  len : μ.ls.length = st.length
  nd : μ.ls.Nodup
  at_ : ∀ (n : Nat) (c : C) (a : Addr), st[n]? = some c → μ.ls[n]? = some a → RC g μ H a c
  pvs : ∀ a ∈ μ.pv, a ∉ μ.ls ∧ ∃ o, H a = some o
  old : ∀ a, H a = none → g.h0 a = none
theorem none_upd {H : Hp} {p a : Addr} {o : HO} (h : upd H p o a = none) : H a = none := by
  by_cases z : a = p
  · rw [z, upd_same] at h; cases h
  · rw [upd_ne z] at h; exact h
theorem Go.refl {μ : Mu} {H : Hp} : Go μ H μ H := ⟨⟨[], by simp⟩, rfl, fun a h => .inl h, fun _ _ _ e => e⟩
theorem RC.some {g : G} {μ : Mu} {H : Hp} {a : Addr} {c : C} (h : RC g μ H a c) : ∃ o, H a = some o := by
  cases c with
  | lst xs => obtain ⟨vs, e, _⟩ := h; exact ⟨_, e⟩
  | dct ps => obtain ⟨vs, e, _⟩ := h; exact ⟨_, e⟩
  | dcT ps => obtain ⟨vs, e, _⟩ := h; exact ⟨_, e⟩
  | set xs => exact h.elim
  | ins c fs => obtain ⟨_, _, _, e, _⟩ := h; exact ⟨_, e⟩
section
variable {g : G} {μ μ' μ2 : Mu} {H H' H2 : Hp} {st st' : Sto}
theorem Go.trans (x : Go μ H μ' H') (y : Go μ' H' μ2 H2) : Go μ H μ2 H2 := by
  obtain ⟨ν, e1⟩ := x.ext
  obtain ⟨ν2, e2⟩ := y.ext
  refine ⟨⟨ν ++ ν2, by rw [e2, e1, List.append_assoc]⟩, y.pv.trans x.pv, fun a ha => ?_, fun a o hn e => ?_⟩
  · rcases y.new a ha with h | h
    · exact x.new a h
    · by_cases hm : a ∈ μ.ls
      · exact .inl hm
      · refine .inr ?_
        cases q : H a with
        | none => rfl
        | some o =>
          have := x.keep a o hm q
          rw [h] at this
          cases this
  · have h1 := x.keep a o hn e
    refine y.keep a o (fun hm => ?_) h1
    rcases x.new a hm with z | z
    · exact hn z
    · rw [e] at z; cases z
theorem Go.out (x : Go μ H μ' H') {a : Addr} {o : HO} (hn : μ.off a) (e : H a = some o) : μ'.off a := by
  refine ⟨fun hm => ?_, by rw [x.pv]; exact hn.2⟩
  rcases x.new a hm with z | z
  · exact hn.1 z
  · rw [e] at z; cases z
theorem Go.at (x : Go μ H μ' H') {n : Nat} {a : Addr} (e : μ.ls[n]? = some a) : μ'.ls[n]? = some a := by
  obtain ⟨ν, q⟩ := x.ext
  rw [q, List.getElem?_append_left (List.getElem?_eq_some_iff.mp e).1]
  exact e
theorem Go.fz (x : Go μ H μ' H') {a : Addr} {o : HO} (h : Fz μ H a o) : Fz μ' H' a o := by
  obtain ⟨hn, h | ⟨u, h⟩⟩ := h
  · exact ⟨x.out hn h, .inl (x.keep _ _ hn.1 h)⟩
  · exact ⟨x.out hn h, .inr ⟨u, x.keep _ _ hn.1 h⟩⟩
mutual
theorem RV.go (x : Go μ H μ' H') : ∀ {d : D} {v : V}, RV g μ H d v → RV g μ' H' d v
  | .non, _, h => h
  | .bl _, _, h => h
  | .int _, _, h => h
  | .str _, _, h => h
  | .tup xs, _, h => by
    obtain ⟨a, vs, e, q, r⟩ := h
    exact ⟨a, vs, e, ⟨x.out q.1 q.2, x.keep _ _ q.1.1 q.2⟩, RVs.go x r⟩
  | .lst xs, _, h => by
    obtain ⟨a, vs, e, q, r⟩ := h
    exact ⟨a, vs, e, ⟨x.out q.1 q.2, x.keep _ _ q.1.1 q.2⟩, RVs.go x r⟩
  | .rol xs, _, h => by
    obtain ⟨a, vs, e, q, r⟩ := h
    exact ⟨a, vs, e, q.imp_left x.fz, RVs.go x r⟩
  | .dct ks xs, _, h => by
    obtain ⟨a, vs, e, q, k, r⟩ := h
    exact ⟨a, vs, e, ⟨x.out q.1 q.2, x.keep _ _ q.1.1 q.2⟩, k, RVs.go x r⟩
  | .loc n, _, h => by
    obtain ⟨a, e, q⟩ := h
    exact ⟨a, e, x.at q⟩
  | .nam _, _, h => h
  | .err _ _, _, h => h
theorem RVs.go (x : Go μ H μ' H') : ∀ {ds : List D} {vs : List V}, RVs g μ H ds vs → RVs g μ' H' ds vs
  | [], _, h => h
  | d :: ds, _, h => by
    obtain ⟨v, r, e, h1, h2⟩ := h
    exact ⟨v, r, e, RV.go x h1, RVs.go x h2⟩
end
theorem RVs.length : ∀ {ds : List D} {vs : List V}, RVs g μ H ds vs → vs.length = ds.length
  | [], _, h => by rw [show _ = [] from h]; rfl
  | d :: ds, _, h => by
    obtain ⟨v, r, rfl, _, h2⟩ := h
    rw [List.length_cons, List.length_cons, RVs.length h2]
theorem RVs.get {v : V} : ∀ {ds : List D} {vs : List V} {i : Nat}, RVs g μ H ds vs → vs[i]? = some v → ∃ d, ds[i]? = some d ∧ RV g μ H d v
  | [], _, i, h, e => by
    rw [show _ = [] from h] at e
    cases e
  | d :: ds, _, 0, h, e => by
    obtain ⟨y, r, rfl, h1, _⟩ := h
    cases e
    exact ⟨d, rfl, h1⟩
  | d :: ds, _, i + 1, h, e => by
    obtain ⟨y, r, rfl, _, h2⟩ := h
    exact RVs.get (ds := ds) (i := i) h2 e
theorem RVs.at {d : D} : ∀ {ds : List D} {vs : List V} {i : Nat}, RVs g μ H ds vs → ds[i]? = some d → ∃ v, vs[i]? = some v ∧ RV g μ H d v
  | [], _, i, h, e => by cases e
  | d' :: ds, _, 0, h, e => by
    obtain ⟨y, r, rfl, h1, _⟩ := h
    cases e
    exact ⟨y, rfl, h1⟩
  | d' :: ds, _, i + 1, h, e => by
    obtain ⟨y, r, rfl, _, h2⟩ := h
    exact RVs.at (ds := ds) (i := i) h2 e
theorem RVs.of : ∀ {ds : List D} {vs : List V}, vs.length = ds.length → (∀ (i : Nat) (d : D) (v : V), ds[i]? = some d → vs[i]? = some v → RV g μ H d v) → RVs g μ H ds vs
  | [], [], _, _ => rfl
  | d :: ds, x :: xs, l, h => ⟨x, xs, rfl, h 0 d x rfl rfl, RVs.of (by simpa using l) fun i d' x' e1 e2 => h (i + 1) d' x' e1 e2⟩
theorem RVs.app : ∀ {ds es : List D} {xs ys : List V}, RVs g μ H ds xs → RVs g μ H es ys → RVs g μ H (ds ++ es) (xs ++ ys)
  | [], _, _, _, h, k => by rw [show _ = [] from h]; exact k
  | d :: ds, _, _, _, h, k => by
    obtain ⟨x, r, rfl, h1, h2⟩ := h
    exact ⟨x, r ++ _, rfl, h1, RVs.app h2 k⟩
theorem RVs.pick {ds es : List D} {vs ws : List V} (f : Nat → Nat) (h : RVs g μ H ds vs) (l : ws.length = es.length) (e1 : ∀ i d, es[i]? = some d → ds[f i]? = some d) (e2 : ∀ i v, ws[i]? = some v → vs[f i]? = some v) : RVs g μ H es ws :=
  .of l fun i d v a b => by
    obtain ⟨d', e', r⟩ := h.get (e2 i v b)
    rw [e1 i d a] at e'
    cases e'
    exact r
theorem RVs.take (n : Nat) {ds : List D} {xs : List V} (h : RVs g μ H ds xs) : RVs g μ H (ds.take n) (xs.take n) :=
  h.pick id (by rw [List.length_take, List.length_take, h.length]) (fun i d e => by rw [List.getElem?_take] at e; split at e <;> simp_all) fun i d e => by rw [List.getElem?_take] at e; split at e <;> simp_all
theorem RVs.drop (n : Nat) {ds : List D} {xs : List V} (h : RVs g μ H ds xs) : RVs g μ H (ds.drop n) (xs.drop n) :=
  h.pick (n + ·) (by rw [List.length_drop, List.length_drop, h.length]) (fun i d e => by rw [List.getElem?_drop] at e; exact e) fun i d e => by rw [List.getElem?_drop] at e; exact e
theorem RVs.set {d : D} {v : V} (h1 : RV g μ H d v) : ∀ {ds : List D} {xs : List V} (n : Nat), RVs g μ H ds xs → RVs g μ H (ds.set n d) (xs.set n v)
  | [], _, _, h => by rw [show _ = [] from h]; rfl
  | e :: ds, _, 0, h => by
    obtain ⟨x, r, rfl, _, h2⟩ := h
    exact ⟨v, r, rfl, h1, h2⟩
  | e :: ds, _, n + 1, h => by
    obtain ⟨x, r, rfl, q, h2⟩ := h
    exact ⟨x, r.set n v, rfl, q, RVs.set h1 n h2⟩
theorem RVs.one {d : D} {v : V} (h : RV g μ H d v) : RVs g μ H [d] [v] := ⟨v, [], rfl, h, rfl⟩
theorem RVs.nil : RVs g μ H [] [] := rfl
theorem RVs.cons {d : D} {v : V} {ds : List D} {vs : List V} (h : RV g μ H d v) (k : RVs g μ H ds vs) : RVs g μ H (d :: ds) (v :: vs) := ⟨v, vs, rfl, h, k⟩
/-- a list of ints is a list of ints -/
theorem RVs.ints : ∀ {ns : List Int} {xs : List V}, RVs g μ H (ns.map D.int) xs → xs = ns.map V.int
  | [], _, h => h
  | n :: ns, _, h => by
    obtain ⟨x, r, rfl, h1, h2⟩ := h
    rw [show x = V.int n from h1, RVs.ints h2]
    rfl
theorem RVs.ofInts : ∀ (ns : List Int), RVs g μ H (ns.map D.int) (ns.map V.int)
  | [] => rfl
  | n :: ns => ⟨_, _, rfl, rfl, RVs.ofInts ns⟩
theorem RVs.bls : ∀ {ns : List Bool} {xs : List V}, RVs g μ H (ns.map D.bl) xs → xs = ns.map V.bl
  | [], _, h => h
  | n :: ns, _, h => by
    obtain ⟨x, r, rfl, h1, h2⟩ := h
    rw [show x = V.bl n from h1, RVs.bls h2]
    rfl
theorem RVs.strs : ∀ {ns : List Str} {xs : List V}, RVs g μ H (ns.map D.str) xs → xs = ns.map V.str
  | [], _, h => h
  | n :: ns, _, h => by
    obtain ⟨x, r, rfl, h1, h2⟩ := h
    rw [show x = V.str n from h1, RVs.strs h2]
    rfl
theorem RVs.ofStrs : ∀ (ns : List Str), RVs g μ H (ns.map D.str) (ns.map V.str)
  | [] => rfl
  | n :: ns => ⟨_, _, rfl, rfl, RVs.ofStrs ns⟩
theorem SqT.of0 {K : Frag} {a : Addr} {vs : List V} (h : SqT K H0 a vs) : SqT K H a vs := by
  rcases h with (h | ⟨_, h⟩) | h
  · cases h
  · cases h
  · exact .inr h
theorem SqL.of0 {K : Frag} {a : Addr} {vs : List V} (h : SqL K H0 a vs) : SqL K H a vs := by
  rcases h with (h | ⟨_, h⟩) | h
  · cases h
  · cases h
  · exact .inr h
theorem sqT_of {K : Frag} {a : Addr} {vs : List V} (h : Fz μ H a (.tup vs) ∨ SqT K H0 a vs) : SqT K H a vs := h.elim (fun h => .inl h.2) SqT.of0
theorem sqL_of {K : Frag} {a : Addr} {vs : List V} (h : Fz μ H a (.lst vs) ∨ SqL K H0 a vs) : SqL K H a vs := h.elim (fun h => .inl h.2) SqL.of0
theorem RS.some (S : RS g μ H st) {a : Addr} (h : a ∈ μ.ls) : ∃ o, H a = some o := by
  obtain ⟨n, hn, e⟩ := List.getElem_of_mem h
  have h1 : μ.ls[n]? = .some a := by rw [List.getElem?_eq_getElem hn, e]
  have h2 : n < st.length := by rw [← S.len]; exact hn
  exact (S.at_ n st[n] a (List.getElem?_eq_getElem h2) h1).some
theorem RS.off (S : RS g μ H st) {a : Addr} (h : H a = none) : μ.off a := by
  refine ⟨fun hm => ?_, fun hm => ?_⟩
  · obtain ⟨o, e⟩ := S.some hm
    rw [h] at e
    cases e
  · obtain ⟨_, o, e⟩ := S.pvs a hm
    rw [h] at e
    cases e
theorem RS.addr (S : RS g μ H st) {n : Nat} {c : C} (e : st[n]? = .some c) : ∃ a, μ.ls[n]? = .some a ∧ RC g μ H a c := by
  have hn := (List.getElem?_eq_some_iff.mp e).1
  rw [← S.len] at hn
  exact ⟨μ.ls[n], List.getElem?_eq_getElem hn, S.at_ n c _ e (List.getElem?_eq_getElem hn)⟩
theorem RC.go (x : Go μ H μ' H') {a : Addr} (k : H' a = H a) : ∀ {c : C}, RC g μ H a c → RC g μ' H' a c
  | .lst xs, h => by
    obtain ⟨vs, e, r⟩ := h
    exact ⟨vs, k.trans e, r.go x⟩
  | .dct ps, h => by
    obtain ⟨vs, e, q, r⟩ := h
    exact ⟨vs, k.trans e, q, r.go x⟩
  | .dcT ps, h => by
    obtain ⟨vs, e, q, r⟩ := h
    exact ⟨vs, k.trans e, q, r.go x⟩
  | .set xs, h => h
  | .ins c fs, h => by
    obtain ⟨C, dx, gs, e, q, r⟩ := h
    exact ⟨C, dx, gs, k.trans e, q, r.1, r.2.go x⟩
/-- a new object that is none of the store's -/
theorem Go.side (S : RS g μ H st) {p : Addr} {o : HO} (h : H p = none) : Go μ H μ (upd H p o) := ⟨⟨[], by simp⟩, rfl, fun a h => .inl h, fun a u hn e => by rw [upd_ne (ne_of_none e h)]; exact e⟩
theorem RS.side (S : RS g μ H st) {p : Addr} {o : HO} (h : H p = none) : RS g μ (upd H p o) st := ⟨S.len, S.nd, fun n c a e1 e2 => (S.at_ n c a e1 e2).go (Go.side S h) (by
  obtain ⟨u, e⟩ := (S.at_ n c a e1 e2).some
  rw [upd_ne (ne_of_none e h)]), fun a ha => ⟨(S.pvs a ha).1, by
  obtain ⟨_, u, e⟩ := S.pvs a ha
  exact ⟨u, by rw [upd_ne (ne_of_none e h)]; exact e⟩⟩, fun a e => S.old a (none_upd e)⟩
theorem Fz.new (S : RS g μ H st) {p : Addr} {o : HO} (h : H p = none) : Fz μ (upd H p o) p o := ⟨S.off h, .inl upd_same⟩
/-- a new object of the store -/
def Mu.push (μ : Mu) (p : Addr) : Mu := ⟨μ.ls ++ [p], μ.pv⟩
theorem Go.push {p : Addr} {o : HO} (h : H p = none) : Go μ H (μ.push p) (upd H p o) := ⟨⟨[p], rfl⟩, rfl, fun a ha => by
  rcases List.mem_append.mp ha with z | z
  · exact .inl z
  · rw [List.mem_singleton.mp z]; exact .inr h, fun a u hn e => by rw [upd_ne (ne_of_none e h)]; exact e⟩
theorem RS.push (S : RS g μ H st) {p : Addr} {o : HO} {c : C} (h : H p = none) (k : RC g (μ.push p) (upd H p o) p c) : RS g (μ.push p) (upd H p o) (st ++ [c]) := by
  refine ⟨by unfold Mu.push; rw [List.length_append, List.length_append, S.len]; rfl, ?_, fun n c' a e1 e2 => ?_, fun a ha => ⟨fun hm => ?_, ?_⟩, fun a e => S.old a (none_upd e)⟩
  · unfold Mu.push
    rw [List.nodup_append]
    exact ⟨S.nd, by simp, fun a ha b hb e => (S.off h).1 (by rw [List.mem_singleton.mp hb] at e; rw [← e]; exact ha)⟩
  · unfold Mu.push at e2
    rcases Nat.lt_or_ge n μ.ls.length with hn | hn
    · rw [List.getElem?_append_left hn] at e2
      rw [List.getElem?_append_left (by rw [← S.len]; exact hn)] at e1
      refine (S.at_ n c' a e1 e2).go (Go.push h) ?_
      obtain ⟨u, e⟩ := (S.at_ n c' a e1 e2).some
      rw [upd_ne (ne_of_none e h)]
    · rw [List.getElem?_append_right hn] at e2
      rw [List.getElem?_append_right (by rw [← S.len]; exact hn)] at e1
      have e3 : n - μ.ls.length = 0 := by
        rcases Nat.eq_zero_or_pos (n - μ.ls.length) with z | z
        · exact z
        · rw [List.getElem?_eq_none_iff.mpr (Nat.succ_le_of_lt z)] at e2
          cases e2
      rw [e3] at e2
      rw [← S.len, e3] at e1
      obtain rfl := Option.some.inj e1
      obtain rfl := Option.some.inj e2
      exact k
  · rcases List.mem_append.mp hm with z | z
    · exact (S.pvs a ha).1 z
    · obtain ⟨_, u, e⟩ := S.pvs a ha
      rw [List.mem_singleton.mp z, h] at e
      cases e
  · obtain ⟨_, u, e⟩ := S.pvs a ha
    exact ⟨u, by rw [upd_ne (ne_of_none e h)]; exact e⟩
theorem at_push {p : Addr} (S : RS g μ H st) : (μ.push p).ls[st.length]? = .some p := by
  show (μ.ls ++ [p])[st.length]? = _
  rw [← S.len, List.getElem?_append_right (Nat.le_refl _), Nat.sub_self]
  rfl
/-- an object of the store is changed -/
theorem Go.mut {n : Nat} {a : Addr} {o : HO} (e : μ.ls[n]? = .some a) : Go μ H μ (upd H a o) := ⟨⟨[], by simp⟩, rfl, fun _ h => .inl h, fun b u hn q => by
  rw [upd_ne fun z => hn (by rw [z]; exact List.mem_of_getElem? e)]
  exact q⟩
theorem RS.mut (S : RS g μ H st) {n : Nat} {a : Addr} {o : HO} {c : C} (e : μ.ls[n]? = .some a) (k : RC g μ (upd H a o) a c) : RS g μ (upd H a o) (st.set n c) := by
  refine ⟨by rw [List.length_set, S.len], S.nd, fun m c' b e1 e2 => ?_, fun b hb => ⟨(S.pvs b hb).1, ?_⟩, fun a e => S.old a (none_upd e)⟩
  · by_cases h : m = n
    · subst h
      rw [e] at e2
      obtain rfl := Option.some.inj e2
      have hn : m < st.length := by rw [← S.len]; exact (List.getElem?_eq_some_iff.mp e).1
      rw [List.getElem?_set_self hn] at e1
      obtain rfl := Option.some.inj e1
      exact k
    · rw [List.getElem?_set_ne (Ne.symm h)] at e1
      refine (S.at_ m c' b e1 e2).go (Go.mut e) ?_
      rw [upd_ne fun z => ?_]
      subst z
      obtain ⟨i1, j1⟩ := List.getElem?_eq_some_iff.mp e
      obtain ⟨i2, j2⟩ := List.getElem?_eq_some_iff.mp e2
      exact h ((List.getElem_inj S.nd).mp (j2.trans j1.symm))
  · obtain ⟨n1, u, q⟩ := S.pvs b hb
    exact ⟨u, by rw [upd_ne fun z => n1 (by rw [z]; exact List.mem_of_getElem? e)]; exact q⟩
/-! ### a list that is being made -/
def Mu.hide (μ : Mu) (p : Addr) : Mu := ⟨μ.ls, p :: μ.pv⟩
theorem off_hide {p a : Addr} {o : HO} (h : H p = none) (k : μ.off a) (e : H a = .some o) : (μ.hide p).off a := ⟨k.1, fun z => by
  rcases List.mem_cons.mp z with z | z
  · rw [z, h] at e; cases e
  · exact k.2 z⟩
theorem Fz.hide {p a : Addr} {o : HO} (h : H p = none) (k : Fz μ H a o) : Fz (μ.hide p) H a o := by
  obtain ⟨k, e | ⟨u, e⟩⟩ := k
  · exact ⟨off_hide h k e, .inl e⟩
  · exact ⟨off_hide h k e, .inr ⟨u, e⟩⟩
mutual
theorem RV.hide {p : Addr} (h : H p = none) : ∀ {d : D} {v : V}, RV g μ H d v → RV g (μ.hide p) H d v
  | .non, _, h => h
  | .bl _, _, h => h
  | .int _, _, h => h
  | .str _, _, h => h
  | .tup xs, _, k => by obtain ⟨a, vs, e, q, r⟩ := k; exact ⟨a, vs, e, ⟨off_hide h q.1 q.2, q.2⟩, RVs.hide h r⟩
  | .lst xs, _, k => by obtain ⟨a, vs, e, q, r⟩ := k; exact ⟨a, vs, e, ⟨off_hide h q.1 q.2, q.2⟩, RVs.hide h r⟩
  | .rol xs, _, k => by obtain ⟨a, vs, e, q, r⟩ := k; exact ⟨a, vs, e, q.imp_left (Fz.hide h), RVs.hide h r⟩
  | .dct ks xs, _, k => by obtain ⟨a, vs, e, q, k, r⟩ := k; exact ⟨a, vs, e, ⟨off_hide h q.1 q.2, q.2⟩, k, RVs.hide h r⟩
  | .loc n, _, k => k
  | .nam _, _, k => k
  | .err _ _, _, k => k
theorem RVs.hide {p : Addr} (h : H p = none) : ∀ {ds : List D} {vs : List V}, RVs g μ H ds vs → RVs g (μ.hide p) H ds vs
  | [], _, k => k
  | d :: ds, _, k => by obtain ⟨v, r, e, h1, h2⟩ := k; exact ⟨v, r, e, RV.hide h h1, RVs.hide h h2⟩
end
theorem off_show {p a : Addr} (k : (μ.hide p).off a) : μ.off a := ⟨k.1, fun z => k.2 (List.mem_cons_of_mem _ z)⟩
mutual
theorem RV.show' {p : Addr} : ∀ {d : D} {v : V}, RV g (μ.hide p) H d v → RV g μ H d v
  | .non, _, h => h
  | .bl _, _, h => h
  | .int _, _, h => h
  | .str _, _, h => h
  | .tup xs, _, k => by obtain ⟨a, vs, e, q, r⟩ := k; exact ⟨a, vs, e, ⟨off_show q.1, q.2⟩, RVs.show' r⟩
  | .lst xs, _, k => by obtain ⟨a, vs, e, q, r⟩ := k; exact ⟨a, vs, e, ⟨off_show q.1, q.2⟩, RVs.show' r⟩
  | .rol xs, _, k => by obtain ⟨a, vs, e, q, r⟩ := k; exact ⟨a, vs, e, q.imp_left fun q => ⟨off_show q.1, q.2⟩, RVs.show' r⟩
  | .dct ks xs, _, k => by obtain ⟨a, vs, e, q, k, r⟩ := k; exact ⟨a, vs, e, ⟨off_show q.1, q.2⟩, k, RVs.show' r⟩
  | .loc n, _, k => k
  | .nam _, _, k => k
  | .err _ _, _, k => k
theorem RVs.show' {p : Addr} : ∀ {ds : List D} {vs : List V}, RVs g (μ.hide p) H ds vs → RVs g μ H ds vs
  | [], _, k => k
  | d :: ds, _, k => by obtain ⟨v, r, e, h1, h2⟩ := k; exact ⟨v, r, e, RV.show' h1, RVs.show' h2⟩
end
theorem rd_hid {p a : Addr} {o u : HO} (hp : p ∈ μ.pv) (k : μ.off a) (e : Rd H a u) : Rd (upd H p o) a u := by
  have ne : a ≠ p := fun z => k.2 (by rw [z]; exact hp)
  rcases e with e | ⟨w, e⟩
  · exact .inl (by rw [upd_ne ne]; exact e)
  · exact .inr ⟨w, by rw [upd_ne ne]; exact e⟩
theorem at_hid {p a : Addr} {o u : HO} (hp : p ∈ μ.pv) (k : μ.off a) (e : H a = .some u) : upd H p o a = .some u := by
  rw [upd_ne fun z => k.2 (by rw [z]; exact hp)]
  exact e
mutual
theorem RV.hid {p : Addr} {o : HO} (hp : p ∈ μ.pv) : ∀ {d : D} {v : V}, RV g μ H d v → RV g μ (upd H p o) d v
  | .non, _, h => h
  | .bl _, _, h => h
  | .int _, _, h => h
  | .str _, _, h => h
  | .tup xs, _, k => by obtain ⟨a, vs, e, q, r⟩ := k; exact ⟨a, vs, e, ⟨q.1, at_hid hp q.1 q.2⟩, RVs.hid hp r⟩
  | .lst xs, _, k => by obtain ⟨a, vs, e, q, r⟩ := k; exact ⟨a, vs, e, ⟨q.1, at_hid hp q.1 q.2⟩, RVs.hid hp r⟩
  | .rol xs, _, k => by obtain ⟨a, vs, e, q, r⟩ := k; exact ⟨a, vs, e, q.imp_left fun q => ⟨q.1, rd_hid hp q.1 q.2⟩, RVs.hid hp r⟩
  | .dct ks xs, _, k => by obtain ⟨a, vs, e, q, k, r⟩ := k; exact ⟨a, vs, e, ⟨q.1, at_hid hp q.1 q.2⟩, k, RVs.hid hp r⟩
  | .loc n, _, k => k
  | .nam _, _, k => k
  | .err _ _, _, k => k
theorem RVs.hid {p : Addr} {o : HO} (hp : p ∈ μ.pv) : ∀ {ds : List D} {vs : List V}, RVs g μ H ds vs → RVs g μ (upd H p o) ds vs
  | [], _, k => k
  | d :: ds, _, k => by obtain ⟨v, r, e, h1, h2⟩ := k; exact ⟨v, r, e, RV.hid hp h1, RVs.hid hp h2⟩
end
theorem RC.map {g : G} {μ μ' : Mu} {H H' : Hp} {a : Addr} (k : H' a = H a) (f : ∀ ds vs, RVs g μ H ds vs → RVs g μ' H' ds vs) : ∀ {c : C}, RC g μ H a c → RC g μ' H' a c
  | .lst xs, h => by obtain ⟨vs, e, r⟩ := h; exact ⟨vs, k.trans e, f _ _ r⟩
  | .dct ps, h => by obtain ⟨vs, e, q, r⟩ := h; exact ⟨vs, k.trans e, q, f _ _ r⟩
  | .dcT ps, h => by obtain ⟨vs, e, q, r⟩ := h; exact ⟨vs, k.trans e, q, f _ _ r⟩
  | .set xs, h => h
  | .ins c fs, h => by obtain ⟨C, dx, gs, e, q, r⟩ := h; exact ⟨C, dx, gs, k.trans e, q, r.1, f _ _ r.2⟩
theorem RS.hide (S : RS g μ H st) {p : Addr} {o : HO} (h : H p = none) : RS g (μ.hide p) (upd H p o) st := by
  have S1 := S.side (p := p) (o := o) h
  refine ⟨S.len, S.nd, fun n c a e1 e2 => ?_, fun a ha => ?_, S1.old⟩
  · have k := S.at_ n c a e1 e2
    obtain ⟨u, e⟩ := k.some
    refine k.map (by rw [upd_ne (ne_of_none e h)]) fun ds vs r => RVs.hid List.mem_cons_self (RVs.hide h r)
  · rcases List.mem_cons.mp ha with z | z
    · rw [z]; exact ⟨(S.off h).1, o, upd_same⟩
    · exact S1.pvs a z
theorem RS.hid (S : RS g μ H st) {p : Addr} {o : HO} (hp : p ∈ μ.pv) : RS g μ (upd H p o) st := by
  refine ⟨S.len, S.nd, fun n c a e1 e2 => ?_, fun a ha => ⟨(S.pvs a ha).1, ?_⟩, fun a e => S.old a (none_upd e)⟩
  · refine (S.at_ n c a e1 e2).map ?_ fun ds vs r => RVs.hid hp r
    rw [upd_ne fun z => (S.pvs p hp).1 (by rw [← z]; exact List.mem_of_getElem? e2)]
  · by_cases z : a = p
    · rw [z]; exact ⟨o, upd_same⟩
    · rw [upd_ne z]; exact (S.pvs a ha).2
theorem RS.show' {p : Addr} (S : RS g (μ.hide p) H st) : RS g μ H st := ⟨S.len, S.nd, fun n c a e1 e2 => (S.at_ n c a e1 e2).map rfl fun ds vs r => RVs.show' r, fun a ha => S.pvs a (List.mem_cons_of_mem _ ha), S.old⟩
end
/-- the names' data and the store, held by the slots and the heap -/
structure Rel (g : G) (μ : Mu) (σ : L2.St) (H : Hp) (ρ : Env) (st : Sto) : Prop where
  len : σ.length = ρ.length
  slot : ∀ (i : Nat) (d : D), ρ[i]? = some (some d) → ∃ v, σ[i]? = some (some v) ∧ RV g μ H d v
  sto : RS g μ H st
theorem Rel.go {g : G} {μ μ' : Mu} {σ : L2.St} {H H' : Hp} {ρ : Env} {st st' : Sto} (r : Rel g μ σ H ρ st) (x : Go μ H μ' H') (S : RS g μ' H' st') : Rel g μ' σ H' ρ st' := ⟨r.len, fun i d e => by
  obtain ⟨v, h1, h2⟩ := r.slot i d e
  exact ⟨v, h1, h2.go x⟩, S⟩
theorem Rel.set {g : G} {μ : Mu} {σ : L2.St} {H : Hp} {ρ : Env} {st : Sto} (r : Rel g μ σ H ρ st) {i : Nat} {d : D} {v : V} (h : RV g μ H d v) : Rel g μ (σ.set i (some v)) H (ρ.set i (some d)) st := by
  refine ⟨by rw [List.length_set, List.length_set, r.len], fun j d' e => ?_, r.sto⟩
  by_cases z : j = i
  · subst z
    have hj : j < ρ.length := by
      have := (List.getElem?_eq_some_iff.mp e).1
      rwa [List.length_set] at this
    rw [List.getElem?_set_self hj] at e
    obtain rfl := Option.some.inj (Option.some.inj e)
    exact ⟨v, List.getElem?_set_self (by rw [r.len]; exact hj), h⟩
  · rw [List.getElem?_set_ne (Ne.symm z)] at e
    obtain ⟨v', h1, h2⟩ := r.slot j d' e
    exact ⟨v', by rw [List.getElem?_set_ne (Ne.symm z)]; exact h1, h2⟩
/-- an error's class and field on the heap -/
def RErr (g : G) (μ : Mu) (H : Hp) (e : Er) (cls : Value) (dd : Option Addr) : Prop :=
  ∃ C, g.mg e.cls = some (.ref C) ∧ cls = .ref C ∧ ((e.fs = [] ∧ dd = none) ∨ ∃ f d a v, e.fs = [(f, d)] ∧ dd = some a ∧ H a = some (exd a [(f, v)]) ∧ RV g μ H d v)
/-! ### the readings -/
section
variable {α β : Type} (g : G) (W : WX)
/-- a result that is held: what follows may go on -/
def PostG (σ : L2.St) (μ : Mu) (H : Hp) (Rp : Mu → Hp → α → β → Prop) (r : R α) (Q : β → Hp → Prop) : Prop :=
  r.post (fun a st' => ∀ μ' b H', Go μ H μ' H' → RS g μ' H' st' → Rp μ' H' a b → Q b H') (fun e st' => ∀ μ' H' cls dd, Go μ H μ' H' → RS g μ' H' st' → RErr g μ' H' e cls dd → W cls dd σ H')
def tG (Rp : Mu → Hp → α → β → Prop) (m : Env → Sto → R α) : L2.St → Hp → (β → Hp → Prop) → Prop := fun σ H Q => ∃ μ ρ st, Rel g μ σ H ρ st ∧ PostG g W σ μ H Rp (m ρ st) Q
def RB : Mu → Hp → Bool → Bool → Prop := fun _ _ a b => b = a
abbrev tOf (m : Env → Sto → R D) : TE := tG g W (RV g) m
abbrev tTOf (m : Env → Sto → R Bool) : TT := tG g W RB m
abbrev tAOf (m : Env → Sto → R (List D)) : TA := tG g W (RVs g) m
end
section
variable {α α2 β β2 : Type} {g : G} {W : WX} {σ : L2.St} {μ μ1 : Mu} {H H1 : Hp} {Rp : Mu → Hp → α → β → Prop} {Rp2 : Mu → Hp → α2 → β2 → Prop} {ρ : Env} {st : Sto}
theorem PostG.base {r : R α} {Q : β → Hp → Prop} (x : Go μ H μ1 H1) (p : PostG g W σ μ H Rp r Q) : PostG g W σ μ1 H1 Rp r Q :=
  R.post_mono p (fun a st' q μ' b H' go => q μ' b H' (x.trans go)) fun e st' q μ' H' cls dd go => q μ' H' cls dd (x.trans go)
theorem PostG.done {a : α} {b : β} {Q : β → Hp → Prop} (p : PostG g W σ μ H Rp (.ok a st) Q) (x : Go μ H μ1 H1) (S : RS g μ1 H1 st) (r : Rp μ1 H1 a b) : Q b H1 := p μ1 b H1 x S r
theorem PostG.now {a : α} {b : β} {Q : β → Hp → Prop} (p : PostG g W σ μ H Rp (.ok a st) Q) (S : RS g μ H st) (r : Rp μ H a b) : Q b H := p μ b H Go.refl S r
theorem tG_bind {m : Env → Sto → R α} {k : α → Sto → R α2} {Q : β2 → Hp → Prop} {Kt : β → Hp → Prop} (rel : Rel g μ σ H ρ st) (p : PostG g W σ μ H Rp2 ((m ρ st).bind k) Q)
    (c : ∀ μ1 a st1 x H1, Go μ H μ1 H1 → Rel g μ1 σ H1 ρ st1 → Rp μ1 H1 a x → PostG g W σ μ1 H1 Rp2 (k a st1) Q → Kt x H1) : tG g W Rp m σ H Kt :=
  ⟨μ, ρ, st, rel, R.post_mono (R.post_bind p) (fun a st1 q μ1 x H1 go S rv => c μ1 a st1 x H1 go (rel.go go S) rv (PostG.base go q)) fun _ _ q => q⟩
theorem R.post_eq {r : R α} {P : α → Sto → Prop} {B : Er → Sto → Prop} (h : r.post P B) : r.post (fun a st => r = .ok a st ∧ P a st) B := by
  cases r with
  | ok a st => exact ⟨rfl, h⟩
  | er e st => exact h
  | no => exact h
theorem tG_bindE {m : Env → Sto → R α} {k : α → Sto → R α2} {Q : β2 → Hp → Prop} {Kt : β → Hp → Prop} (rel : Rel g μ σ H ρ st) (p : PostG g W σ μ H Rp2 ((m ρ st).bind k) Q)
    (c : ∀ μ1 a st1 x H1, m ρ st = .ok a st1 → Go μ H μ1 H1 → Rel g μ1 σ H1 ρ st1 → Rp μ1 H1 a x → PostG g W σ μ1 H1 Rp2 (k a st1) Q → Kt x H1) : tG g W Rp m σ H Kt :=
  ⟨μ, ρ, st, rel, R.post_mono (R.post_eq (R.post_bind p)) (fun a st1 q μ1 x H1 go S rv => c μ1 a st1 x H1 q.1 go (rel.go go S) rv (PostG.base go q.2)) fun _ _ q => q⟩
theorem tG_of {m : Env → Sto → R α} {Q : β → Hp → Prop} (rel : Rel g μ σ H ρ st) (p : PostG g W σ μ H Rp (m ρ st) Q) : tG g W Rp m σ H Q := ⟨μ, ρ, st, rel, p⟩
end
theorem _root_.L2.PE.imp {X : Cx} {e : Expr} {t t' : TE} (h : PE X e t) (k : ∀ σ H Q, t' σ H Q → t σ H Q) : PE X e t' := ⟨fun pins s σ H Q I q => h.run pins s σ H Q I (k _ _ _ q)⟩
theorem _root_.L2.PT.imp {X : Cx} {e : Expr} {t t' : TT} (h : PT X e t) (k : ∀ σ H Q, t' σ H Q → t σ H Q) : PT X e t' := ⟨fun pins s σ H Q I q => h.run pins s σ H Q I (k _ _ _ q)⟩
theorem _root_.L2.PW.imp {X : Cx} {e : Expr} {t t' : TT} (h : PW X e t) (k : ∀ σ H Q, t' σ H Q → t σ H Q) : PW X e t' := ⟨fun wh pins s σ H Q I q => h.run wh pins s σ H Q I (k _ _ _ q)⟩
theorem _root_.L2.PA.imp {X : Cx} {e : List Expr} {t t' : TA} (h : PA X e t) (k : ∀ σ H Q, t' σ H Q → t σ H Q) : PA X e t' := ⟨fun po pins s σ H Q I q => h.run po pins s σ H Q I (k _ _ _ q)⟩
theorem _root_.L2.PS.imp {X : Cx} {e : Stmt} {t t' : TS} (h : PS X e t) (k : ∀ D σ H, t' D σ H → t D σ H) : PS X e t' := ⟨fun pins s σ H Q I q => h.run pins s σ H Q I (k _ _ _ q)⟩
theorem _root_.L2.PSs.imp {X : Cx} {e : List Stmt} {t t' : TS} (h : PSs X e t) (k : ∀ D σ H, t' D σ H → t D σ H) : PSs X e t' := ⟨fun pins s σ H Q I q => h.run pins s σ H Q I (k _ _ _ q)⟩
abbrev PM (g : G) (W : WX) (X : Cx) (e : Expr) (m : Env → Sto → R D) : Prop := PE X e (tOf g W m)
abbrev PMT (g : G) (W : WX) (X : Cx) (e : Expr) (m : Env → Sto → R Bool) : Prop := PT X e (tTOf g W m)
abbrev PMW (g : G) (W : WX) (X : Cx) (e : Expr) (m : Env → Sto → R Bool) : Prop := PW X e (tTOf g W m)
abbrev PMA (g : G) (W : WX) (X : Cx) (e : List Expr) (m : Env → Sto → R (List D)) : Prop := PA X e (tAOf g W m)
end Pl

set_option maxHeartbeats 4000000
/-! Errors with one field, whose __init__ says super().__init__(a text) and then keeps the field. -/
namespace EF
open PySem PySem.W PySem.Calls PyProof.Rows
def eA (f : Str) (p1 p2 : Pos) : Arguments :=
  { posonlyargs := [], args := [⟨"self", none, p1⟩, ⟨f, none, p2⟩], vararg := none, kwonlyargs := [], kw_defaults := [], kwarg := none, defaults := [] }
def eB (f tx : Str) (q1 q2 q3 q4 q5 q6 q7 q8 q9 q10 : Pos) : List Stmt :=
  [.Expr (.Call (.Attribute (.Call (.Name "super" q1) [] [] q2) "__init__" q3) [.Constant (.str tx) 0 q4] [] q5) q6,
   .Assign [.Attribute (.Name "self" q7) f q8] (.Name f q9) q10]
def eS (f : Str) : Scope :=
  { kind := .function, names := [("self", .local), (f, .local), ("__class__", .free), ("super", .globalImplicit)], isGenerator := false, isCoroutine := false, more := [] }
/-- the field's name is none of the other names -/
structure FOk (f : Str) : Prop where
  l1 : (eS f).names.lookup ("self" : Str) = some .local
  l2 : (eS f).names.lookup f = some .local
  l3 : (eS f).names.lookup ("__class__" : Str) = some .free
  l4 : (eS f).names.lookup ("super" : Str) = some .globalImplicit
  ne : ("self" : Str) ≠ f
  nd : (f == ("__debug__" : Str)) = false
  bd : ∀ (qual : Str) (p1 p2 : Pos) (body : List Stmt) (kV dc pm : Value) (an : Option Addr) (cdv ct : Value) (cc : Addr) (a b : Value),
    bindArgs (ksFn "__init__" qual (eA f p1 p2) body (eS f) .none kV dc pm an cdv ct cc) ⟨[a, b], []⟩ = pure [(("self" : Str), a), (f, b)]
/-- what the written part says of such a class, at C; its __init__ is at fI -/
structure ErrC (prog : Program) (K : Frag) (mg : Str → Option Value) (C : Addr) (f : Str) : Prop where
  fok : FOk f
  cls : ∃ nm q N bs bm sn sub ab col dd k0 k1 k2 k3 k5, K.lookup C = some (excClassObj nm q C N bs bm true sn sub ab col dd k0 k1 k2 k3 k5 "ValueError.__new__") ∧ PySem.HandSPX.refsVE bm = true
  sa : findIn K (.ref C) "__setattr__" = some (some (.builtin "object.__setattr__"))
  ga : findIn K (.ref C) "__getattribute__" = some (some (.builtin "BaseException.__getattribute__"))
  gg : findIn K (.ref C) "__getattr__" = some none
  noF : findIn K (.ref C) f = some none
  exC : subIn K (.ref C) (.type "BaseException") = some true
  veC : subIn K (.ref C) (.type "ValueError") = some true
  meC : mroIn K C (.ref C) = some true
  tyC : typeIn K (.ref C) = some (.type "type")
  hdC : hasDictIn K C = true
  kC : keepIn K (.ref C) = true
  noSup : mg "super" = none
  noTop : (prog.main.scope.names.lookup ("super" : Str)).isSome = false
  sup : ks_superIn K C C "__init__" = some (some (.builtin "ValueError.__init__"))
  any : nsIn K cStatics "thirdparty.any" = some none
  ini : ∃ fI : Addr, findIn K (.ref C) "__init__" = some (some (.ref fI)) ∧ typeIn K (.ref fI) = some (.type "function") ∧
    ∃ (oc dc pm ct qt : Value) (od an : Option Addr) (osl : Array (Option Value)) (qual tx : Str) (cda cc : Addr) (p1 p2 q1 q2 q3 q4 q5 q6 q7 q8 q9 q10 : Pos),
      K.lookup fI = some ⟨oc, od, .func (ksFn "__init__" qual (eA f p1 p2) (eB f tx q1 q2 q3 q4 q5 q6 q7 q8 q9 q10) (eS f) .none qt dc pm an (.ref cda) ct cc), osl⟩ ∧
      codeIn K (.ref cda) qual = true ∧ (q3.endLine == q5.line) = true ∧
      (∃ (c1 : Value) (c2 : Option Addr) (vs : Array Value) (c3 : Array (Option Value)) (file : Str) (tf : Tok), K.lookup cda = some ⟨c1, c2, .fields vs, c3⟩ ∧ vs[2]? = some (.str file tf) ∧ ((prog.main.file : Str) == file) = true) ∧
      ∃ (c1 : Value) (c2 : Option Addr) (c3 : Array (Option Value)), K.lookup cc = some ⟨c1, c2, .cell (some (.ref C)), c3⟩
/-- what __init__ leaves of a fresh error at x -/
structure InitEnd (f : Str) (h h' : Heap) (x C dx t1 : Addr) (v : Value) : Prop where
  keep : ∀ b o, b ≠ x → h.get? b = some o → h'.get? b = some o
  obj : h'.get? x = some { cls := .ref C, dict := some dx, data := .fields #[.ref t1, .none, .none, .none, .bool false, .none] }
  dbig : h.objs.size ≤ dx
  dne : dx ≠ x
  ns : h'.Ns1 dx (fun y => if y = f then some v else none)
section
variable {prog : Program} {w : World} {A : Around} {E : Value → Shared → Prop} {R : Result → Shared → Prop} {s : Shared} {K : Frag} {mg mb : Str → Option Value} {C : Addr} {f : Str}
/-- the built-in __init__, bound to the error at x, is called -/
theorem bound_called (T : ErrC prog K mg C f) (X : K.In s.heap) {u x t0 : Addr} {rest : List Value} {Q : Value → Shared → Prop} (hu : s.heap.get? u = some (kxs_mw "ValueError.__init__" x)) (hx : s.heap.get? x = some (PySem.HandSPX.excO C t0))
    (hr : rest.length ≤ sizeLine) (hq : ∀ h' t1, (∀ b o, b ≠ x → s.heap.get? b = some o → h'.get? b = some o) → h'.get? x = some (PySem.HandSPX.excO C t1) → Q .none { s with heap := h' }) :
    wpAny (model prog w) A (call (.ref u) rest) Q E s := by
  obtain ⟨nm, q, N, bs, bm, sn, sub, ab, col, dd, k0, k1, k2, k3, k5, hC, hbm⟩ := T.cls
  have FB := F.excBase_ValueError
  obtain ⟨hh, g, d, tk, os⟩ := s
  refine wpAny_call (codeAny_of_tree (show wpAny _ A.in1 (callAny (.ref u) ⟨rest, []⟩) _ _ _ from ?_))
  unfold callAny
  refine wpAny_bind (wpAny_load hu ?_)
  have tm : (Value.type "method-wrapper" == Value.type "method" || Value.type "method-wrapper" == Value.type "builtin_function_or_method" || Value.type "method-wrapper" == Value.type "method-wrapper") = true := by decide
  simp only [kxs_mw, tm, if_true]
  refine KFB.if_so (by decide) (wpAny_bind (check_bound_init FB.toExcCallFacts (X _ _ hC) hx rfl (wpAny_bind (wpAny_pure (wpAny_pure ⟨plainId_quiet FB.init.plain _, codeAny_builtin FB.initEntry ?_⟩)))))
  exact exc_init_tree (cls := .ref C) (t0 := t0) (dv := none) (c2 := .none) (c3 := .none) (b4 := .bool false) hx hr fun h' k e _ => hq h' _ k e
theorem meth_call {env : Env} {q1 q2 q3 q4 q5 : Pos} {name tx : Str} (hl : (q3.endLine == q5.line) = true) :
    eval (.Call (.Attribute (.Call (.Name "super" q1) [] [] q2) name q3) [.Constant (.str tx) 0 q4] [] q5) env = (do
      let ov ← attributeBase (.Call (.Name "super" q1) [] [] q2) name env (eval (.Call (.Name "super" q1) [] [] q2) env)
      standAt q3.atName
      let (f, first) ← holding [ov] (getMethod ov name (do return (← importBound (.Call (.Name "super" q1) [] [] q2) env).getD true))
      callWith q5 f first (backTo q5 (starEach [.Constant (.str tx) 0 q4] env)) []) := by
  show (do
    let ov ← attributeBase (.Call (.Name "super" q1) [] [] q2) name env (eval (.Call (.Name "super" q1) [] [] q2) env)
    standAt q3.atName
    methodCall (.Call (.Name "super" q1) [] [] q2) name q3 q5 env ov 1 (backTo q5 (starEach [.Constant (.str tx) 0 q4] env)) []) = _
  have e : ∀ b : Bool, methodCallPos b (.Call (.Name "super" q1) [] [] q2) env q3 q5 = pure q5 := fun b => by
    unfold methodCallPos
    rw [hl, Bool.or_true, if_pos rfl]
  have e2 : ∀ ov, methodCall (.Call (.Name "super" q1) [] [] q2) name q3 q5 env ov 1 (backTo q5 (starEach [.Constant (.str tx) 0 q4] env)) [] = (do
      let (f, first) ← holding [ov] (getMethod ov name (do return (← importBound (.Call (.Name "super" q1) [] [] q2) env).getD true))
      callWith q5 f first (backTo q5 (starEach [.Constant (.str tx) 0 q4] env)) []) := fun ov => by
    unfold methodCall
    simp only [e, pure_bind]
    rfl
  simp only [e2]
/-- __init__ run over a fresh error at x -/
theorem init_run (T : ErrC prog K mg C f) (X : K.In s.heap) (hlim : s.heap.NoLimit) (hg : s.heap.Ns mainGlobals mg) (hb : s.heap.Ns builtinsNs mb) (hbs : mb "super" = some (.type "super")) {fI x t0 : Addr} {v : Value}
    (hfI : findIn K (.ref C) "__init__" = some (some (.ref fI))) (hx : s.heap.get? x = some (PySem.HandSPX.excO C t0)) (hxK : K.lookup x = none) (hroom : A.depth < recursionLimit)
    (hq : ∀ h' tk dx t1, InitEnd f s.heap h' x C dx t1 v → R (.ok (.ret .none)) { s with heap := h', toks := tk }) :
    codeAny (model prog w) A (.call (.ref fI) ⟨[.ref x, v], []⟩) R s := by
  obtain ⟨fI', hfI', tI, oc, dc, pm, ct, qt, od, an, osl, qual, tx, cda, cc, p1, p2, q1, q2, q3, q4, q5, q6, q7, q8, q9, q10, lk, hcd, hln, ⟨c1, c2, vs, c3, file, tf, lcda, hvs, hfile⟩, ⟨e1, e2, e3, lcc⟩⟩ := T.ini
  obtain rfl : fI' = fI := by
    rw [hfI] at hfI'
    cases hfI'
    rfl
  obtain ⟨nm, q, N, bs, bm, sn, sub, ab, col, dd, k0, k1', k2, k3, k5, hC, hbm⟩ := T.cls
  have hcl : clsIn K C = some { name := nm, bases := bs, mro := .ref C :: bm, ns := N, qualname := q, hasDict := true, slotNames := sn, subclasses := sub, abstract := ab, collection := col, hasDel := false } := by
    unfold clsIn; rw [hC] <;> rfl
  have nsf := T.fok.ne
  refine ks_codeAny_call_defAt (fd := ksFn "__init__" qual (eA f p1 p2) (eB f tx q1 q2 q3 q4 q5 q6 q7 q8 q9 q10) (eS f) .none qt dc pm an (.ref cda) ct cc) (body := eB f tx q1 q2 q3 q4 q5 q6 q7 q8 q9 q10) (binds := [("self", .ref x), (f, v)])
    hroom (X _ _ lk) rfl hlim (codeRec_of X hcd) rfl ?_ ?_ ?_ (fun h1 hns k1 => ?_)
  · exact BindsTo.of_eq (T.fok.bd _ _ _ _ _ _ _ _ _ _ _ _ _)
  · intro y hy
    rcases List.mem_cons.mp hy with rfl | hy
    · decide
    rcases List.mem_cons.mp hy with rfl | hy
    · show NameKind.local ≠ NameKind.cell
      decide
    rcases List.mem_cons.mp hy with rfl | hy
    · decide
    rcases List.mem_cons.mp hy with rfl | hy
    · decide
    · cases hy
  · intro y hy
    rcases List.mem_cons.mp hy with rfl | hy
    · exact T.fok.l1
    rcases List.mem_cons.mp hy with rfl | hy
    · exact T.fok.l2
    · cases hy
  · have X1 : K.In h1 := X.keeps k1
    have hx1 := k1 _ _ hx
    have m1 : ([(("self" : Str), Value.ref x), (f, v)].reverse.lookup ("self" : Str)) = some (.ref x) := by
      simp [List.lookup, beq_false_of_ne nsf]
    have m2 : ([(("self" : Str), Value.ref x), (f, v)].reverse.lookup f) = some v := by
      simp [List.lookup]
    show _root_.PySem.wpAt (model prog w) (A.deeper (ksEnv qual (eS f) s.heap.objs.size fI' (.ref cda) cc)) (.func _ (ksEnv qual (eS f) s.heap.objs.size fI' (.ref cda) cc)) (execs _ (ksEnv qual (eS f) s.heap.objs.size fI' (.ref cda) cc)) _ _ _
    have hD : h1.get? C = some (excClassObj nm q C N bs bm true sn sub ab col dd k0 k1' k2 k3 k5 "ValueError.__new__") := X1 _ _ hC
    refine ks_wpAt_execs_cons (ks_wpAt_Expr_any (ks_wpAt_MethodCall ?_ (meth_call hln)))
    refine ks_wpAt_super_base (env := ksEnv qual (eS f) s.heap.objs.size fI' (.ref cda) cc) T.fok.l4 T.fok.l3 (by decide) rfl (X1 _ _ lk) rfl rfl rfl (X1 _ _ lcda) rfl hvs hfile T.noTop ?_
    refine ks_loadName_global rfl T.fok.l4 (loadGlobal_builtin (env := ksEnv qual (eS f) s.heap.objs.size fI' (.ref cda) cc) (hg.keeps k1) T.noSup (hb.keeps k1) hbs ⟨rfl, ?_⟩)
    refine wpAny_loadName_free rfl T.fok.l3 rfl ⟨_, X1 _ _ lcc, rfl⟩ ?_
    refine wpAny_loadName_local rfl T.fok.l1 hns m1 ?_
    refine ks_wpAny_isType_cls hD rfl ⟨rfl, ?_⟩
    refine ks_wpAny_call_super hD rfl hx1 rfl (fun c e => nomatch e) (looks_mroIn X1 T.meC) (fun h2 hso k2' => ?_)
    have X2 : K.In h2 := X1.keeps k2'
    have hx2 := k2' _ _ hx1
    have ne : ∀ {b : Addr} {o : Obj}, s.heap.get? b = some o → b ≠ s.heap.objs.size := fun {b o} z => Nat.ne_of_lt (Heap.lt_size z)
    have hsp : alongIn K "__init__" ((((Value.ref C :: bm).dropWhile (· != .ref C))).drop 1) = some (some (.builtin "ValueError.__init__")) := by
      have z := T.sup
      unfold ks_superIn at z
      rw [hcl] at z
      exact z
    have I2 : InstAt h2 x (PySem.HandSPX.excO C t0) C none := ⟨hx2, rfl, rfl, trivial⟩
    have xC : x ≠ C := ks_ne X2 I2 hcl
    refine kxs_getMethod kxs_ValueError hso (looks_opaque X2 T.any) (l₀ := .ref C :: bm) (fun A Q E s k q => wpAny_bind ((looks_clsIn X2 hcl) A _ E s k (wpAny_pure q))) rfl X2 hsp (I2.type.andThen (looks_subIn X2 T.veC)) xC (by decide) ?_
    have hu3 : (h2.push (kxs_mw "ValueError.__init__" x)).get? h2.objs.size = some (kxs_mw "ValueError.__init__" x) := Heap.get?_push_at rfl rfl
    have k3 : ∀ b o, h2.get? b = some o → (h2.push (kxs_mw "ValueError.__init__" x)).get? b = some o := fun b o e => Heap.get?_push_of_some _ e
    generalize h2.push (kxs_mw "ValueError.__init__" x) = h3 at hu3 k3 ⊢
    refine kxs_callWith (i := "ValueError.__init__") (x := x) rfl (evalArgs_plain ?_)
    show wpAny _ _ (spliced [(false, eval (.Constant (.str tx) 0 q4) (ksEnv qual (eS f) s.heap.objs.size fI' (.ref cda) cc))]) _ _ _
    refine Calls.spliced_cons ?_
    refine Calls.Constant_str ?_
    refine Calls.spliced_nil ?_
    refine ⟨hu3, ?_⟩
    have X3 : K.In h3 := X2.keeps k3
    refine bound_called (s := ⟨h3, _, _, _, _⟩) T X3 hu3 (k3 _ _ hx2) (by show 1 ≤ sizeLine; rw [sizeLine_eq]; decide) fun h4 t1 k4 hx4 => ?_
    have old : ∀ b o, b ≠ x → h1.get? b = some o → h4.get? b = some o := fun b o hb e => k4 b o hb (k3 _ _ (k2' _ _ e))
    have X4 : K.In h4 := fun b o e => old b o (fun z => by
      rw [z, hxK] at e
      cases e) (X1 _ _ e)
    have hns4 : h4.Ns s.heap.objs.size (fun y => [(("self" : Str), Value.ref x), (f, v)].reverse.lookup y) :=
      hns.at fun o e => old _ o (fun z => (ne hx) z.symm) e
    refine wpAt_of_wpAny ?_
    show wpAny _ _ (execs _ _) _ _ _
    refine wpAny_execs_cons (plainObj_wpAny_Assign_Attribute ?_)
    refine wpAny_Name (wpAny_loadName_local rfl T.fok.l2 hns4 m2 ?_) T.fok.nd
    refine wpAny_Name (wpAny_loadName_local rfl T.fok.l1 hns4 m1 ?_) (by decide)
    refine set_plain (s := ⟨h4, _, _, _, _⟩) X4 (ox := PySem.HandSPX.excO C t1) (od := none) ⟨hx4, rfl, rfl, trivial⟩ T.sa ?_
    refine PySem.HandSPX.exc_osa X4 hx4 hcl (show PySem.HandSPX.refsVE (.ref C :: bm) = true from hbm) rfl T.noF (fun h5 tk5 dx k5 dn dne hx5 hn5 => ?_)
    show wpAny _ _ (execs _ _) _ _ _
    refine wpAny_execs_nil (hq h5 tk5 dx t1 ⟨fun b o hb e => k5 b o hb (old b o hb (k1 _ _ e)), hx5, ?_, dne, hn5⟩)
    exact Nat.le_trans (Nat.le_of_lt hns4.lt) dn
/-- C(v): a new error -/
theorem made (T : ErrC prog K mg C f) (X : K.In s.heap) (hlim : s.heap.NoLimit) (hg : s.heap.Ns mainGlobals mg) (hb : s.heap.Ns builtinsNs mb) (hbs : mb "super" = some (.type "super")) {v : Value} (hroom : A.depth + 1 < recursionLimit)
    (hq : ∀ h' tk x dx t1, (∀ b o, s.heap.get? b = some o → h'.get? b = some o) → s.heap.objs.size ≤ x → s.heap.objs.size ≤ dx → dx ≠ x →
      h'.get? x = some { cls := .ref C, dict := some dx, data := .fields #[.ref t1, .none, .none, .none, .bool false, .none] } → h'.Ns1 dx (fun y => if y = f then some v else none) → R (.ok (.ret (.ref x))) { s with heap := h', toks := tk }) :
    codeAny (model prog w) A (.call (.ref C) ⟨[v], []⟩) R s := by
  obtain ⟨fI, hfI, tI, _⟩ := T.ini
  obtain ⟨nm, q, N, bs, bm, sn, sub, ab, col, dd, k0, k1, k2, k3, k5, hC, hbm⟩ := T.cls
  obtain ⟨hp, g, dr, tk, os⟩ := s
  have kk : ∀ b o, hp.get? b = some o → ((hp.push (kdv_tup [v])).push (PySem.HandSPX.excO C hp.objs.size)).get? b = some o := fun b o e => Heap.get?_push_of_some _ (Heap.get?_push_of_some _ e)
  have hget : ((hp.push (kdv_tup [v])).push (PySem.HandSPX.excO C hp.objs.size)).get? (hp.objs.size + 1) = some (PySem.HandSPX.excO C hp.objs.size) := by heap_get
  have hxK : K.lookup (hp.objs.size + 1) = none := by
    cases e : K.lookup (hp.objs.size + 1) with
    | none => rfl
    | some o => exact absurd (Nat.lt_of_succ_lt (Heap.lt_size (X _ _ e))) (Nat.lt_irrefl _)
  refine PySem.HandSPX.call_own F.excBase_ValueError (fun Y => PySem.HandSPX.refsVE_contains Y bm hbm) (X _ _ hC) (looks_findIn X hfI) (fun self => bind_fn X self tI) (by show 1 ≤ sizeLine; rw [sizeLine_eq]; decide) ?_
  refine init_run (s := ⟨(hp.push (kdv_tup [v])).push (PySem.HandSPX.excO C hp.objs.size), g, dr, tk, os⟩) T (X.keeps kk) (hlim.keeps kk) (hg.keeps kk) (hb.keeps kk) hbs hfI hget hxK hroom fun h' tk' dx t1 Z => ?_
  have old : ∀ b o, hp.get? b = some o → h'.get? b = some o := fun b o e => Z.keep b o (Nat.ne_of_lt (Nat.lt_succ_of_lt (Heap.lt_size e))) (kk b o e)
  have z : hp.objs.size + 1 + 1 ≤ dx := by
    have q := Z.dbig
    simp only [Heap.size_push] at q
    exact q
  exact ⟨rfl, hq h' tk' (hp.objs.size + 1) dx t1 old (Nat.le_succ _) (Nat.le_trans (Nat.le_trans (Nat.le_succ _) (Nat.le_succ _)) z) Z.dne Z.obj Z.ns⟩
end
end EF

set_option maxHeartbeats 4000000
namespace EF
open PySem PySem.Spec PyProof.Rows L2
open PySem.W (Frag findIn subIn mroIn clsIn nsIn specialIn takesIn keepIn hasDictIn InstAt)
/-- an error stands at a: of the class at C, and its fields if it has some -/
def ErrAt (H : Hp) (a C : Addr) (fs : List (Str × V)) : Prop :=
  (∃ d, H a = some (exo a C (some d)) ∧ H d = some (exd d fs)) ∨ (fs = [] ∧ H a = some (ExO (.ref C) a))
theorem ErrAt.ext {H H' : Hp} {a C : Addr} {fs : List (Str × V)} (h : ErrAt H a C fs) (e : ∀ b o, H b = some o → H' b = some o) : ErrAt H' a C fs := by
  rcases h with ⟨d, h1, h2⟩ | ⟨h0, h1⟩
  · exact .inl ⟨d, e _ _ h1, e _ _ h2⟩
  · exact .inr ⟨h0, e _ _ h1⟩
/-- two new objects laid at once -/
theorem laid2 {X : Cx} {pins : List (Addr × Obj)} {σ : L2.St} {H : Hp} {s : Shared} {h' : Heap} {t' : Nat} {a d : Addr} {oa od : HO} (I : Inv X pins σ H s) (k : ∀ b o, s.heap.get? b = some o → h'.get? b = some o) (ha : H a = none) (hd : H d = none) (hda : d ≠ a)
    (na : s.heap.get? a = none) (nd : s.heap.get? d = none) (oka : ObjOk X.prog X.w (upd (upd H d od) a oa) h' a oa) (okd : ObjOk X.prog X.w (upd (upd H d od) a oa) h' d od) :
    Inv X pins σ (upd (upd H d od) a oa) { s with heap := h', toks := t' } := by
  have n1 : ∀ {b : Addr} {o : Obj}, s.heap.get? b = some o → b ≠ a := fun {b o} e z => by
    rw [z, na] at e
    cases e
  have n2 : ∀ {b : Addr} {o : Obj}, s.heap.get? b = some o → b ≠ d := fun {b o} e z => by
    rw [z, nd] at e
    cases e
  have up : ∀ {b : Addr} {o : HO}, H b = some o → upd (upd H d od) a oa b = some o := fun {b o} e => by
    rw [upd_ne (ne_of_none e ha), upd_ne (ne_of_none e hd)]
    exact e
  refine I.un ⟨fun b o q _ _ _ => k b o q, fun b o q _ _ _ => ⟨o.slots, k b o q⟩, fun b o q n _ => ?_, fun b o q _ => ⟨o, k b o q⟩, fun b xs q => up q, fun b o u q => up q, fun b ps q => ⟨#[], by rw [up q]; simp⟩⟩ fun b o q => ?_
  · rw [upd_ne (n1 q), upd_ne (n2 q)]
    exact n
  · by_cases hb : b = a
    · subst hb
      rw [upd_same] at q
      cases q
      exact oka
    · rw [upd_ne hb] at q
      by_cases hb2 : b = d
      · subst hb2
        rw [upd_same] at q
        cases q
        exact okd
      · rw [upd_ne hb2] at q
        exact (I.hok b o q).stay (fun c v _ z => k c v z) (fun c z => up z) fun c xs z => up z
section
variable {X : Cx} {C : Addr} {f x : Str} {e : Expr} {te : TE} {p pos : Pos}
/-- C(e), an error with a field, as a value -/
theorem pe_err1 (T : ErrC X.prog X.K X.mg C f) (gC : X.mg x = some (.ref C)) (hg : Gl X x) (hr : Room 1 X.A) (he : PE X e te)
    (hs : starEach [e] X.env = (false, eval e X.env) :: starEach [] X.env := by rfl) (hdb : (x == ("__debug__" : Str)) = false := by decide) :
    PE X (.Call (.Name x p) [e] [] pos) (fun σ H Q => te σ H fun v H1 => ∀ a H', ErrAt H' a C [(f, v)] → (∀ b o, H1 b = some o → H' b = some o) → H1 a = none → Q (.ref a) H') := by
  refine ⟨fun pins s σ H Q I h => ?_⟩
  refine wpAny_Call_Name_kw (ld_glob I hg gC ?_ hdb)
  refine PySem.W.callWith_K (h₀ := X.base) I.ok.mod.kin T.kC ?_ hs (by rfl)
  rw [hs]
  show wpAny _ _ (spliced ((false, eval e X.env) :: backTo pos (starEach [] X.env))) _ _ s
  refine Calls.spliced_cons (thn (he.run pins s σ H _ I h) fun u s1 ⟨v, H1, I1, r1, q1⟩ => ?_)
  refine Calls.spliced_nil ⟨I1.kIn, ?_⟩
  show wpAny _ _ (call (.ref C) [u]) _ _ _
  obtain ⟨mb, hb, hbs⟩ := I1.mod.blt
  obtain ⟨hp, g, dr, tk, os⟩ := s1
  refine wpAny_call (made (s := ⟨hp, g, dr, tk, os⟩) T I1.kIn I1.nolimit (I1.mod.glob.keeps I1.bk) (hb.keeps I1.bk) ((hbs "super" (by decide)).trans (by decide +kernel)) (by have := hr.dp; omega) fun h' tk' a d t1 k ga gd hda ho hn => ?_)
  have na : H1 a = none := I1.hok.fresh ga
  have nd : H1 d = none := I1.hok.fresh gd
  have none_at : ∀ b, hp.objs.size ≤ b → hp.get? b = none := fun b hb => by
    cases z : hp.get? b with
    | none => rfl
    | some o => exact absurd (Nat.lt_of_lt_of_le (Heap.lt_size z) hb) (Nat.lt_irrefl _)
  have J := laid2 (t' := tk') (oa := exo a C (some d)) (od := exd d [(f, v)]) I1 k na nd hda (none_at a ga) (none_at d gd) (exo_ok ho)
    (exd_ok hn (fun y => by
      by_cases hy : y = f
      · rw [lookup_put, if_pos hy, if_pos hy]
        exact r1
      · rw [lookup_put, if_neg hy, if_neg hy]
        trivial))
  show EP X pins σ Q (.ref a) ⟨h', g, dr, tk', os⟩
  refine ⟨.ref a, _, J, rfl, q1 a _ (.inl ⟨d, upd_same, by rw [upd_ne hda, upd_same]⟩) (fun b o z => ?_) na⟩
  rw [upd_ne (ne_of_none z na), upd_ne (ne_of_none z nd)]
  exact z
/-- C(), an error without fields, as a value -/
theorem pe_err0 (q : PySem.W.excIn X.K C PySem.HandSPX.veTail "ValueError.__new__" = true) (gC : X.mg x = some (.ref C)) (kC : keepIn X.K (.ref C) = true) (hg : Gl X x) (hdb : (x == ("__debug__" : Str)) = false := by decide) :
    PE X (.Call (.Name x p) [] [] pos) (fun σ H1 Q => ∀ a H', ErrAt H' a C [] → (∀ b o, H1 b = some o → H' b = some o) → H1 a = none → Q (.ref a) H') := by
  refine ⟨fun pins s σ H Q I h => ?_⟩
  refine wpAny_Call_Name_kw (ld_glob I hg gC ?_ hdb)
  refine PySem.W.callWith_K0 I.kIn kC ?_
  show wpAny _ _ (call (.ref C) []) _ _ _
  obtain ⟨bm, N, nm, qn, bs, hdct, sn, sub, ab, col, dd, k0, k1, k2, k3, k5, mN, hC, hN, hni, T⟩ := exc_obj I.kIn q
  obtain ⟨hp, g, dr, tk, os⟩ := s
  refine wpAny_call_exc_subT F.excBase_ValueError T hC hN hni (fun h' a hm => ?_) (by show 0 ≤ sizeLine; exact Nat.zero_le _)
  have hn : H a = none := I.hok.gone hm.new
  obtain ⟨t, ht, _, _⟩ := hm.there
  refine ⟨.ref a, upd H a (ExO (.ref C) a), I.laidN (s := ⟨hp, g, dr, tk, os⟩) hm.keeps hm.new hn (L2.exO_ok ht ⟨rfl, rfl⟩ rfl rfl rfl (show 4 < 6 by decide)), rfl, h a _ (.inr ⟨rfl, upd_same⟩) (fun b o z => ?_) hn⟩
  rw [upd_ne (ne_of_none z hn)]
  exact z
/-- what the written part says of an error's class when it is asked about -/
structure IsE (K : Frag) (C : Addr) : Prop where
  cl : (clsIn K C).isSome = true
  ga : findIn K (.ref C) "__getattribute__" = some (some (.builtin "BaseException.__getattribute__"))
  gg : findIn K (.ref C) "__getattr__" = some none
  exC : subIn K (.ref C) (.type "BaseException") = some true
  kls : findIn K (.ref C) "__class__" = some (some (.builtin "object.__class__"))
  get : specialIn K (.builtin "object.__class__") "__get__" = some (some (.builtin "getset_descriptor.__get__"))
  tk : takesIn K (.builtin "object.__class__") = some true
  obj : mroIn K C (.type "object") = some true
theorem errInst {P : Program} {w : World} {H : Hp} {h : Heap} {a C : Addr} {fs : List (Str × V)} (ok : HOk P w H h) (e : ErrAt H a C fs) : ∃ ox od, InstAt h a ox C od := by
  rcases e with ⟨d, h1, h2⟩ | ⟨_, h1⟩
  · obtain ⟨t1, q⟩ := exo_at ok h1
    obtain ⟨mA, ⟨od, es, ep, e1, _⟩, _⟩ := exd_at ok h2
    exact ⟨_, some od, q, rfl, rfl, e1⟩
  · obtain ⟨⟨oe, vs, q, z, hd, _⟩, _, _⟩ := ok a _ h1
    refine ⟨oe, none, q, z.1, ?_, ?_⟩
    · unfold PySem.W.notCls
      rw [hd] <;> rfl
    · rw [z.2]
      trivial
/-- isinstance(e, c), e an error -/
def rIsiE (K : Frag) : List V → Hp → VK → Prop := fun xs H Q => ∃ (a C : Addr) (fs : List (Str × V)) (c : V) (u : Value) (b : Bool), xs = [.ref a, c] ∧ ClsV c u ∧ ErrAt H a C fs ∧ IsE K C ∧ PySem.W.kitOne K (.ref C) u = some b ∧ Q (.bl b) H
theorem call_isiE {X : Cx} : CallR X (.builtin "isinstance") (rIsiE X.K) := by
  intro pins s σ H xs us Q I r h
  obtain ⟨a, C, fs, c, u, b, rfl, k, ea, T, e, q⟩ := h
  obtain ⟨u1, u2, rfl, r1, r2⟩ := vals2 r
  have e2 := k.eq r2
  subst e2
  cases (show u1 = Value.ref a from r1)
  obtain ⟨ox, od, J⟩ := errInst I.hok ea
  exact PySem.W.kia_one (PySem.W.kitx_exc T.cl T.ga T.gg T.exC T.kls T.get T.tk T.obj) I.kIn J e (fun z => nomatch z) fun tk => ⟨.bl b, H, I.tok tk, rfl, q⟩
/-- e.f, e an error with fields -/
def tErrF (K : Frag) (f : Str) (te : TE) : TE := fun σ H Q => te σ H fun x H1 => ∃ (a C : Addr) (fs : List (Str × V)) (v : V), x = .ref a ∧ IsE K C ∧ hasDictIn K C = true ∧ findIn K (.ref C) f = some none ∧ ErrAt H1 a C fs ∧ fs.lookup f = some v ∧ Q v H1
theorem pe_errF {X : Cx} {e : Expr} {te : TE} {f : Str} {pos : Pos} (he : PE X e te) (hb : attributeBase e f X.env (eval e X.env) = eval e X.env := by rfl) : PE X (.Attribute e f pos) (tErrF X.K f te) := by
  refine ⟨fun pins s σ H Q I h => ?_⟩
  refine attr_of hb (thn (he.run pins s σ H _ I h) fun u s1 hh => ?_)
  obtain ⟨x, H1, I1, rx, a, C, fs, v, ex, T, hd, hf, ea, hl, q⟩ := hh
  subst ex
  obtain rfl : u = Value.ref a := rx
  rcases ea with ⟨d, h1, h2⟩ | ⟨h0, _⟩
  · obtain ⟨t1, ho⟩ := exo_at I1.hok h1
    obtain ⟨mA, hns, rel⟩ := exd_at I1.hok h2
    obtain ⟨od, hod, hlk⟩ := lookIn_ns hns
    obtain ⟨w, hw, rw'⟩ := RelO.some_of (v := v) (o := mA f) (by rw [← hl]; exact rel f)
    have J : InstAt s1.heap a { cls := .ref C, dict := some d, data := .fields #[.ref t1, .none, .none, .none, .bool false, .none] } C (some od) := ⟨ho, rfl, rfl, hod⟩
    exact PySem.HandSPX.exc_get I1.kIn J T.ga T.gg T.exC (PySem.W.findObj_own hd hf rfl (by rw [hlk, hw])) (handed_of rw') ⟨v, H1, I1.tok _, rw', q⟩
  · subst h0
    cases hl
end
end EF

set_option maxHeartbeats 4000000
namespace Hn
open PySem PySem.Spec PyProof.Rows L2 EF
open PySem.W (Frag keepIn)
/-- the built-ins' names are not the module's -/
structure Bl (mg : Str → Option Value) : Prop where
  b_len : mg "len" = none
  b_int : mg "int" = none
  b_abs : mg "abs" = none
  b_sum : mg "sum" = none
  b_isinstance : mg "isinstance" = none
  b_all : mg "all" = none
  b_any : mg "any" = none
  b_range : mg "range" = none
  b_enumerate : mg "enumerate" = none
  b_zip : mg "zip" = none
  b_tuple : mg "tuple" = none
  b_list : mg "list" = none
  b_bool : mg "bool" = none
  b_sorted : mg "sorted" = none
  b_set : mg "set" = none
  b_ValueError : mg "ValueError" = none
/-- a def of the text -/
def Dfn (K : Frag) (mg : Str → Option Value) (x : Str) (st : Stmt) (ps : List Str) : Prop := ∃ f fd, Fun K x x st f fd ∧ Binds K fd ps [] ∧ mg x = some (.ref f)
/-- a def that keeps a promise and lets no error out -/
def Kept (P : Program) (w : World) (K : Frag) (mg : Str → Option Value) (base : Heap) (k : Nat) (x : Str) (ps : List Str) (sp : Sp) : Prop :=
  ∃ f fd, mg x = some (.ref f) ∧ keepIn K (.ref f) = true ∧ Binds K fd ps [] ∧ FnOk P w K mg base CX0 k f fd ps sp
section
variable {P : Program} {w : World} {K : Frag} {mg : Str → Option Value} {base : Heap}
theorem Kept.mono {j k : Nat} {x : Str} {ps : List Str} {sp : Sp} (G : Kept P w K mg base j x ps sp) (h : j ≤ k) : Kept P w K mg base k x ps sp := by
  obtain ⟨f, fd, a, b, c, d⟩ := G
  exact ⟨f, fd, a, b, c, d.mono h⟩
theorem Dfn.kept {x : Str} {st : Stmt} {N ps : List Str} {k : Nat} {sp : Sp} (D : Dfn K mg x st ps) (S : FnScope N ps (defScope st)) (len : ∀ vs H Q E, sp vs H Q E → vs.length = ps.length)
    (hbody : ∀ (f : Addr) (cdv : Value) (A : Around) (outer : List Env) (s : Shared) (H : Hp) (vs : List V) (Q : VK) (E : XK), Room k (A.deeper (envOfC x (defScope st) s.heap.objs.size f cdv)) → sp vs H Q E →
      ∃ t, PSs (cxOf CX0 P w K mg base N x (defScope st) f cdv A outer s H E).nox (defBody st) t ∧ t { nx := fun _ H' => Q .non H', rt := Q } (start N vs) H) :
    Kept P w K mg base (k + 1) x ps sp := by
  obtain ⟨f, fd, F, b, g⟩ := D
  exact ⟨f, fd, g, F.kp, b, F.ok S len fun cdv A outer s H vs Q E hr h => hbody f cdv A outer s H vs Q E hr h⟩
end
/-- f(e, ..), f a def that keeps its promise -/
def tK (sp : Sp) (t : TA) : TE := fun σ H Q => t σ H fun vs H1 => sp vs H1 Q E0
section
variable {X : Cx} {k : Nat} {x : Str} {ps : List Str} {sp : Sp} {e : Expr} {es : List Expr} {t : TA} {p pos : Pos}
theorem pe_k (G : Kept X.prog X.w X.K X.mg X.base k x ps sp) (hr : Room k X.A) (hg : Gl X x) (ha : PA X (e :: es) t) (hdb : (x == ("__debug__" : Str)) = false := by decide)
    (he : starEach (e :: es) X.env = (false, eval e X.env) :: starEach es X.env := by rfl) (hpl : (backTo pos (starEach es X.env)).any (·.1) = false := by rfl) : PE X (.Call (.Name x p) (e :: es) [] pos) (tK sp t) := by
  obtain ⟨f, fd, gm, kp, b, F⟩ := G
  have h := pe_call (p := p) (pos := pos) F hr hg gm kp b .nil pass0 ha hdb he hpl
  have e : tCall sp [] E0 t = tK sp t := by
    funext σ H Q
    unfold tCall tK
    simp only [List.append_nil]
  rw [e] at h
  exact h
theorem pe_k0 (G : Kept X.prog X.w X.K X.mg X.base k x ps sp) (hr : Room k X.A) (hg : Gl X x) (hdb : (x == ("__debug__" : Str)) = false := by decide) : PE X (.Call (.Name x p) [] [] pos) (tK sp tNil) := by
  obtain ⟨f, fd, gm, kp, b, F⟩ := G
  have h := pe_call0 (p := p) (pos := pos) F hr hg gm kp b .nil pass0 hdb
  have e : tCall sp [] E0 tNil = tK sp tNil := by
    funext σ H Q
    unfold tCall tK
    simp only [List.append_nil]
  rw [e] at h
  exact h
end
/-! ### the drawing bag -/
/-- at b the bag, at g its list of great numbers -/
def BagAt (H : Hp) (b g : Addr) : Prop := b ≠ g ∧ ∃ (s c : Int) (gs : List Int) (al : V), H b = some (.lst [.int s, .int c, .ref g, al]) ∧ H g = some (.lst (gs.map V.int)) ∧ gs.length ≤ 63 ∧ (al = .non ∨ ∃ i, al = .int i)
/-- all that stood stands, but the bag's two lists -/
def But (b g : Addr) (H H' : Hp) : Prop := ∀ a o, a ≠ b → a ≠ g → H a = some o → H' a = some o
theorem But.refl {b g : Addr} {H : Hp} : But b g H H := fun _ _ _ _ e => e
theorem But.trans {b g : Addr} {H H1 H2 : Hp} (x : But b g H H1) (y : But b g H1 H2) : But b g H H2 := fun a o h1 h2 e => y a o h1 h2 (x a o h1 h2 e)
theorem But.of {b g : Addr} {H H' : Hp} (x : Same H H') : But b g H H' := fun a o _ _ e => x a o e
theorem BagAt.same {H H' : Hp} {b g : Addr} (h : BagAt H b g) (e : Same H H') : BagAt H' b g := by
  obtain ⟨n, s, c, gs, al, h1, h2, r⟩ := h
  exact ⟨n, s, c, gs, al, e _ _ h1, e _ _ h2, r⟩
/-- an object of another kind, or a new one, is none of the bag's lists -/
theorem BagAt.ne {H : Hp} {b g a : Addr} (h : BagAt H b g) (n : H a = none) : a ≠ b ∧ a ≠ g := by
  obtain ⟨_, s, c, gs, al, h1, h2, _⟩ := h
  constructor
  · intro z
    rw [z, h1] at n
    cases n
  · intro z
    rw [z, h2] at n
    cases n
def spBag (K : Frag) : Sp := fun vs H Q _ => ∃ (a : Addr) (ns : List Int), vs = [.ref a] ∧ SqL K H a (ns.map V.int) ∧ ns.length ≤ 63 ∧ ∀ b g H', Same H H' → H b = none → H g = none → BagAt H' b g → Q (.ref b) H'
def spPick : Sp := fun vs H Q _ => ∃ (b g : Addr) (m : Int), vs = [.ref b, .int m] ∧ BagAt H b g ∧ 0 < m ∧ m < 1073741824 ∧ ∀ r H', But b g H H' → BagAt H' b g → 0 ≤ r → r < m → Q (.int r) H'
def spSome (K : Frag) : Sp := fun vs H Q _ => ∃ (b g l : Addr) (xs : List V), vs = [.ref b, .ref l] ∧ BagAt H b g ∧ l ≠ b ∧ l ≠ g ∧ (SqL K H l xs ∨ SqT K H l xs) ∧ 0 < xs.length ∧ xs.length ≤ 1000 ∧ ∀ x H', But b g H H' → BagAt H' b g → x ∈ xs → Q x H'
/-! ### data of a bounded depth; its lists stand where N lets them -/
inductive Good (N : Addr → Prop) (H : Hp) : Nat → V → Prop
  | non (n : Nat) : Good N H n .non
  | bl (n : Nat) (b : Bool) : Good N H n (.bl b)
  | int (n : Nat) (i : Int) : Good N H n (.int i)
  | str (n : Nat) (x : Str) : Good N H n (.str x)
  | dic (n : Nat) {a : Addr} {kvs : List (Key × V)} (e : H a = some (.dK kvs)) (nd : (kvs.map (·.1)).Nodup) (fl : ∀ p ∈ kvs, flatB p.2 = true) : Good N H n (.ref a)
  | tup {n : Nat} {a : Addr} {xs : List V} (e : H a = some (.tup xs)) (h : ∀ x ∈ xs, Good N H n x) (l : xs.length ≤ 100) : Good N H (n + 1) (.ref a)
  | lst {n : Nat} {a : Addr} {xs : List V} (e : H a = some (.lst xs)) (h : ∀ x ∈ xs, Good N H n x) (l : xs.length ≤ 100) (na : N a) : Good N H (n + 1) (.ref a)
/-- it stays where what it stands on stays -/
theorem Good.keep {N M : Addr → Prop} {H H' : Hp} (hd : ∀ a kvs, H a = some (.dK kvs) → H' a = some (.dK kvs)) (ht : ∀ a xs, H a = some (.tup xs) → H' a = some (.tup xs)) (hl : ∀ a xs, N a → H a = some (.lst xs) → M a ∧ H' a = some (.lst xs)) :
    ∀ {n : Nat} {x : V}, Good N H n x → Good M H' n x := by
  intro n x g
  induction g with
  | non n => exact .non n
  | bl n b => exact .bl n b
  | int n i => exact .int n i
  | str n x => exact .str n x
  | dic n e nd fl => exact .dic n (hd _ _ e) nd fl
  | tup e h l ih => exact .tup (ht _ _ e) ih l
  | lst e h l na ih => exact .lst (hl _ _ na e).2 ih l (hl _ _ na e).1
theorem Good.same {N : Addr → Prop} {H H' : Hp} (s : Same H H') {n : Nat} {x : V} (g : Good N H n x) : Good N H' n x := g.keep (fun _ _ e => s _ _ e) (fun _ _ e => s _ _ e) fun _ _ na e => ⟨na, s _ _ e⟩
theorem Good.more {N : Addr → Prop} {H : Hp} : ∀ {n m : Nat} {x : V}, Good N H n x → n ≤ m → Good N H m x := by
  intro n m x g
  induction g generalizing m with
  | non n => exact fun _ => .non m
  | bl n b => exact fun _ => .bl m b
  | int n i => exact fun _ => .int m i
  | str n x => exact fun _ => .str m x
  | dic n e nd fl => exact fun _ => .dic m e nd fl
  | tup e h l ih =>
    intro q
    obtain ⟨k, rfl⟩ : ∃ k, m = k + 1 := ⟨m - 1, by omega⟩
    exact .tup e (fun x hx => ih x hx (by omega)) l
  | lst e h l na ih =>
    intro q
    obtain ⟨k, rfl⟩ : ∃ k, m = k + 1 := ⟨m - 1, by omega⟩
    exact .lst e (fun x hx => ih x hx (by omega)) l na
/-- the same datum twice is told to be the same; less than n deep -/
def spIs (n : Nat) : Sp := fun vs H Q _ => ∃ (N : Addr → Prop) (x : V) (m : Nat), vs = [x, x] ∧ m < n ∧ Good N H m x ∧ ∀ H', Same H H' → Q (.bl true) H'
def spDeep : Sp := fun vs H Q _ => vs = [] ∧ ∀ x H', Same H H' → Good (fun a => H a = none) H' 23 x → Q x H'
theorem kept_zero {P : Program} {w : World} {K : Frag} {mg : Str → Option Value} {base : Heap} {x : Str} {st : Stmt} {ps : List Str} {sp : Sp} (D : Dfn K mg x st ps) (no : ∀ vs H Q E, ¬ sp vs H Q E) : Kept P w K mg base 0 x ps sp := by
  obtain ⟨f, fd, F, b, g⟩ := D
  exact ⟨f, fd, g, F.kp, b, ⟨fun vs H Q E h => absurd h (no vs H Q E), fun A outer s H args us vs Q E _ _ _ _ h => absurd h (no vs H Q E)⟩⟩
theorem kitTL {K : Frag} {T : String} {b1 b2 : Bool} (h1 : kitB T "tuple" = some b1) (h2 : kitB T "list" = some b2) : PySem.W.kitAny K (.type T) [.type "tuple", .type "list"] = some (b1 || b2) := by
  refine kitAny_cons (kit_ty h1) (fun e => ?_) (fun e => by rw [e]; rfl)
  rw [e]
  refine kitAny_cons (kit_ty h2) (fun e2 => ?_) (fun e2 => by rw [e2]; rfl)
  rw [e2]
  exact kitAny_nil
theorem twoTys : Paired ClsV [V.ty "tuple", V.ty "list"] [Value.type "tuple", Value.type "list"] := .cons (.ty _) (.cons (.ty _) .nil)
theorem lc_zipL {K : Frag} {a b : Addr} {xs ys : List V} {g : TG} {tt : TT} {te : TE} {vs : List Nat} {σ : L2.St} {H1 : Hp} {D : Addr} {Qd : Hp → Prop} (hl : xs.length = ys.length) (Pv : Nat → Hp → Prop) (h0 : Pv 0 (upd H1 D (.lst [])))
    (hq : ∀ i H, Pv i H → SqL K H a xs ∧ SqL K H b ys)
    (hs : ∀ i x y T H, xs[i]? = some x → ys[i]? = some y → Pv i H → H T = none → g (.ref T) (wipe σ vs) (upd H T (.tup [x, y])) fun σ2 H2 => wipe σ2 vs = wipe σ vs ∧ tt σ2 H2 fun c H3 =>
      if c = true then te σ2 H3 fun z H4 => ∃ acc, H4 D = some (.lst acc) ∧ acc.length < sizeLine ∧ Pv (i + 1) (upd H4 D (.lst (acc ++ [z]))) else Pv (i + 1) H3) (hd : ∀ H, Pv xs.length H → Qd H) :
    ∃ W : Nat → Nat → Hp → Prop, (∃ m, W 0 m (upd H1 D (.lst []))) ∧ ∀ i m H, W i m H →
      ((Itz K a b).stop i H ∧ Qd H) ∨ ((Itz K a b).go i H ∧ ∃ Nx : Hp → Prop, (∀ H', Nx H' → ∃ m', m' < m ∧ W (i + 1) m' H') ∧ ∀ x H', (Itz K a b).yld i H x H' → g x (wipe σ vs) H' fun σ2 H2 => wipe σ2 vs = wipe σ vs ∧ tt σ2 H2 fun c H3 =>
        if c = true then te σ2 H3 fun y H4 => ∃ acc, H4 D = some (.lst acc) ∧ acc.length < sizeLine ∧ Nx (upd H4 D (.lst (acc ++ [y]))) else Nx H3) := by
  refine ⟨fun i m H => m = xs.length - i ∧ i ≤ xs.length ∧ Pv i H, ⟨xs.length, by simp, Nat.zero_le _, h0⟩, ?_⟩
  rintro i m H ⟨rfl, hi, p⟩
  obtain ⟨q1, q2⟩ := hq i H p
  by_cases h : i < xs.length
  · have e1 : xs[i]? = some xs[i] := List.getElem?_eq_getElem h
    have e2 : ys[i]? = some (ys[i]'(hl ▸ h)) := List.getElem?_eq_getElem _
    refine .inr ⟨⟨xs, ys, _, _, q1, q2, e1, e2⟩, Pv (i + 1), fun H' z => ⟨xs.length - (i + 1), by omega, rfl, h, z⟩, fun x H' hy => ?_⟩
    obtain ⟨T, x1, x2, rfl, nT, rfl, f1, f2⟩ := hy
    exact hs i x1 x2 T H (f1 _ q1) (f2 _ q2) p nT
  · have e : i = xs.length := by omega
    subst e
    exact .inl ⟨⟨xs, ys, q1, q2, .inl (Nat.le_refl _)⟩, hd H p⟩
theorem lc_zipT {K : Frag} {a b : Addr} {xs ys : List V} {g : TG} {tt : TT} {te : TE} {vs : List Nat} {σ : L2.St} {H1 : Hp} {D : Addr} {Qd : Hp → Prop} (hl : xs.length = ys.length) (Pv : Nat → Hp → Prop) (h0 : Pv 0 (upd H1 D (.lst [])))
    (hq : ∀ i H, Pv i H → SqT K H a xs ∧ SqT K H b ys)
    (hs : ∀ i x y T H, xs[i]? = some x → ys[i]? = some y → Pv i H → H T = none → g (.ref T) (wipe σ vs) (upd H T (.tup [x, y])) fun σ2 H2 => wipe σ2 vs = wipe σ vs ∧ tt σ2 H2 fun c H3 =>
      if c = true then te σ2 H3 fun z H4 => ∃ acc, H4 D = some (.lst acc) ∧ acc.length < sizeLine ∧ Pv (i + 1) (upd H4 D (.lst (acc ++ [z]))) else Pv (i + 1) H3) (hd : ∀ H, Pv xs.length H → Qd H) :
    ∃ W : Nat → Nat → Hp → Prop, (∃ m, W 0 m (upd H1 D (.lst []))) ∧ ∀ i m H, W i m H →
      ((RZ.ItzT K a b).stop i H ∧ Qd H) ∨ ((RZ.ItzT K a b).go i H ∧ ∃ Nx : Hp → Prop, (∀ H', Nx H' → ∃ m', m' < m ∧ W (i + 1) m' H') ∧ ∀ x H', (RZ.ItzT K a b).yld i H x H' → g x (wipe σ vs) H' fun σ2 H2 => wipe σ2 vs = wipe σ vs ∧ tt σ2 H2 fun c H3 =>
        if c = true then te σ2 H3 fun y H4 => ∃ acc, H4 D = some (.lst acc) ∧ acc.length < sizeLine ∧ Nx (upd H4 D (.lst (acc ++ [y]))) else Nx H3) := by
  refine ⟨fun i m H => m = xs.length - i ∧ i ≤ xs.length ∧ Pv i H, ⟨xs.length, by simp, Nat.zero_le _, h0⟩, ?_⟩
  rintro i m H ⟨rfl, hi, p⟩
  obtain ⟨q1, q2⟩ := hq i H p
  by_cases h : i < xs.length
  · have e1 : xs[i]? = some xs[i] := List.getElem?_eq_getElem h
    have e2 : ys[i]? = some (ys[i]'(hl ▸ h)) := List.getElem?_eq_getElem _
    refine .inr ⟨⟨xs, ys, _, _, q1, q2, e1, e2⟩, Pv (i + 1), fun H' z => ⟨xs.length - (i + 1), by omega, rfl, h, z⟩, fun x H' hy => ?_⟩
    obtain ⟨T, x1, x2, rfl, nT, rfl, f1, f2⟩ := hy
    exact hs i x1 x2 T H (f1 _ q1) (f2 _ q2) p nT
  · have e : i = xs.length := by omega
    subst e
    exact .inl ⟨⟨xs, ys, q1, q2, .inl (Nat.le_refl _)⟩, hd H p⟩
theorem Good.kind {K : Frag} {N : Addr → Prop} {H : Hp} {m : Nat} {x : V} (g : Good N H m x) :
    (∃ T bb, TyX K H x (.type T) ∧ kitB T "tuple" = some false ∧ kitB T "list" = some false ∧ kitB T "bool" = some bb ∧
      (scal x x = true ∨ ∃ a kvs, x = .ref a ∧ H a = some (.dK kvs) ∧ (kvs.map (·.1)).Nodup ∧ ∀ p ∈ kvs, flatB p.2 = true)) ∨
    (∃ a xs n, x = .ref a ∧ m = n + 1 ∧ (∀ y ∈ xs, Good N H n y) ∧ xs.length ≤ 100 ∧ (H a = some (.tup xs) ∨ H a = some (.lst xs))) := by
  cases g with
  | non n => exact .inl ⟨_, false, .base .non, by decide +kernel, by decide +kernel, by decide +kernel, .inl rfl⟩
  | bl n b => exact .inl ⟨_, true, .base (.bl b), by decide +kernel, by decide +kernel, by decide +kernel, .inl rfl⟩
  | int n i => exact .inl ⟨_, false, .base (.int i), by decide +kernel, by decide +kernel, by decide +kernel, .inl rfl⟩
  | str n s => exact .inl ⟨_, false, .base (.str s), by decide +kernel, by decide +kernel, by decide +kernel, .inl rfl⟩
  | dic n e nd fl => exact .inl ⟨_, false, .base (.dK e), by decide +kernel, by decide +kernel, by decide +kernel, .inr ⟨_, _, rfl, e, nd, fl⟩⟩
  | tup e h l => exact .inr ⟨_, _, _, rfl, rfl, h, l, .inl e⟩
  | lst e h l na => exact .inr ⟨_, _, _, rfl, rfl, h, l, .inr e⟩
theorem _root_.L2.Same.seqT {K : Frag} {H H' : Hp} {a : Addr} {xs : List V} (e : Same H H') (h : SqT K H a xs) : SqT K H' a xs := by
  rcases h with (h | ⟨o, h⟩) | h
  · exact .inl (.inl (e _ _ h))
  · exact .inl (.inr ⟨o, e _ _ h⟩)
  · exact .inr h
/-- an error class without a field; one with the field f -/
structure Er0 (K : Frag) (mg : Str → Option Value) (x : Str) (C : Addr) : Prop where
  g : mg x = some (.ref C)
  e : PySem.W.excIn K C PySem.HandSPX.veTail "ValueError.__new__" = true
  k : keepIn K (.ref C) = true
structure Er1 (P : Program) (K : Frag) (mg : Str → Option Value) (x f : Str) (C : Addr) : Prop where
  g : mg x = some (.ref C)
  e : ErrC P K mg C f
theorem BagAt.off {H : Hp} {b g a : Addr} {o : HO} (h : BagAt H b g) (e : H a = some o) (n : ∀ xs, o ≠ .lst xs) : a ≠ b ∧ a ≠ g := by
  obtain ⟨_, s, c, gs, al, h1, h2, _⟩ := h
  constructor
  · intro z
    rw [z, h1] at e
    exact n _ (Option.some.inj e).symm
  · intro z
    rw [z, h2] at e
    exact n _ (Option.some.inj e).symm
theorem But.keep {b g a : Addr} {H H' : Hp} {o : HO} (t : But b g H H') (h : BagAt H b g) (e : H a = some o) (n : ∀ xs, o ≠ .lst xs) : H' a = some o := t a o (h.off e n).1 (h.off e n).2 e
theorem ErrAt.but {b g a C : Addr} {H H' : Hp} {fs : List (Str × V)} (h : ErrAt H a C fs) (hb : BagAt H b g) (t : But b g H H') : ErrAt H' a C fs := by
  rcases h with ⟨d, h1, h2⟩ | ⟨h0, h1⟩
  · exact .inl ⟨d, t.keep hb h1 (fun xs z => nomatch (z : HO.ext _ = HO.lst xs)), t.keep hb h2 (fun xs z => nomatch (z : HO.ext _ = HO.lst xs))⟩
  · exact .inr ⟨h0, t.keep hb h1 (fun xs z => nomatch (z : HO.ext _ = HO.lst xs))⟩
theorem Good.but {N : Addr → Prop} {b g : Addr} {H H' : Hp} {n : Nat} {x : V} (h : Good N H n x) (hb : BagAt H b g) (t : But b g H H') (hN : ∀ a, N a → a ≠ b ∧ a ≠ g) : Good N H' n x :=
  h.keep (fun _ _ e => t.keep hb e (fun _ z => nomatch z)) (fun _ _ e => t.keep hb e (fun _ z => nomatch z)) fun a _ na e => ⟨na, t _ _ (hN a na).1 (hN a na).2 e⟩
theorem for_enumL {K : Frag} {a : Addr} {xs : List V} {g : TG} {tb : TS} {D : Ends} {σ : L2.St} {H : Hp} (Pv : Nat → L2.St → Hp → Prop) (h0 : Pv 0 σ H) (hq : ∀ i σ H, Pv i σ H → SqL K H a xs)
    (hs : ∀ i x T σ H, xs[i]? = some x → Pv i σ H → H T = none → g (.ref T) σ (upd H T (.tup [.int (i : Nat), x])) fun σ2 H2 => tb { D with nx := Pv (i + 1), ct := Pv (i + 1), bk := D.nx } σ2 H2) (hd : ∀ σ H, Pv xs.length σ H → D.nx σ H) :
    ∃ W : Nat → Nat → L2.St → Hp → Prop, (∃ m, W 0 m σ H) ∧ ∀ i m σ H, W i m σ H →
      ((Ite K a).stop i H ∧ D.nx σ H) ∨ ((Ite K a).go i H ∧ ∃ N : L2.St → Hp → Prop, (∀ σ' H', N σ' H' → ∃ m', m' < m ∧ W (i + 1) m' σ' H') ∧ ∀ x H', (Ite K a).yld i H x H' → g x σ H' fun σ2 H2 => tb { D with nx := N, ct := N, bk := D.nx } σ2 H2) := by
  refine ⟨fun i m σ H => m = xs.length - i ∧ i ≤ xs.length ∧ Pv i σ H, ⟨xs.length, by simp, Nat.zero_le _, h0⟩, ?_⟩
  rintro i m σ H ⟨rfl, hi, p⟩
  have q1 := hq i σ H p
  by_cases h : i < xs.length
  · have e1 : xs[i]? = some xs[i] := List.getElem?_eq_getElem h
    refine .inr ⟨⟨xs, _, q1, e1⟩, Pv (i + 1), fun σ' H' z => ⟨xs.length - (i + 1), by omega, rfl, h, z⟩, fun x H' hy => ?_⟩
    obtain ⟨T, x1, rfl, nT, rfl, f1⟩ := hy
    exact hs i x1 T σ H (f1 _ q1) p nT
  · have e : i = xs.length := by omega
    subst e
    exact .inl ⟨⟨xs, q1, Nat.le_refl _⟩, hd σ H p⟩
theorem at0 {α : Type} {x : α} {xs : List α} : atI (x :: xs) 0 = some x := atI_nat (j := 0) rfl
theorem ix0 {α : Type} {x : α} {xs : List α} : ixN (x :: xs).length 0 = some 0 := by
  unfold ixN
  rw [if_pos (Int.le_refl 0), if_pos (by rw [List.length_cons]; omega)]
  rfl
theorem sx0 {α : Type} {x : α} {xs : List α} : seqIndex? 0 (x :: xs).length = some 0 := (ixN_seq ix0).1
theorem cmulL {a b m : Int} (h : 0 < m) (h2 : m ≤ 4294967296) : CMul (a % m) b := by
  have h3 := Int.emod_nonneg a (show m ≠ 0 by omega)
  have h4 := Int.emod_lt_of_pos a h
  exact .inl ⟨by omega, by omega⟩
theorem cut63 {xs : List V} (h : xs.length ≤ 63) : cutV xs none (some 63) = xs := by
  have e : HT.sIx xs.length xs.length (some 63) = min 63 xs.length := HT.sIx_nat xs.length xs.length 63
  unfold cutV
  rw [e, HT.sIx_none, List.drop_zero]
  exact List.take_of_length_le (by omega)
theorem same_new {H : Hp} {p : Addr} {o : HO} (h : H p = none) : Same H (upd H p o) := fun b x e => by
  rw [upd_ne (ne_of_none e h)]
  exact e
theorem same_mut {H H' : Hp} {p : Addr} {o : HO} (e : Same H H') (h : H p = none) : Same H (upd H' p o) := fun b x q => by
  rw [upd_ne (ne_of_none q h)]
  exact e b x q
theorem len_lt {n : Nat} (h : n ≤ 1000) : n < sizeLine := Nat.lt_of_le_of_lt h (by rw [sizeLine_eq]; decide)
theorem len_le {n : Nat} (h : n ≤ 1000) : n ≤ sizeLine := Nat.le_of_lt (len_lt h)
theorem int_at {ns : List Int} {i : Nat} {x : V} (h : (ns.map V.int)[i]? = some x) : ∃ n, x = .int n ∧ i < ns.length := by
  rw [List.getElem?_map] at h
  cases e : ns[i]? with
  | none =>
    rw [e] at h
    cases h
  | some n =>
    rw [e] at h
    have hi : i < ns.length := by
      cases Nat.lt_or_ge i ns.length with
      | inl z => exact z
      | inr z =>
        rw [List.getElem?_eq_none_iff.mpr z] at e
        cases e
    exact ⟨n, (Option.some.inj h).symm, hi⟩
end Hn

set_option maxHeartbeats 4000000
/-! data of any kind on the heap, read and never changed -/
namespace Hn
open PySem PySem.Spec PyProof.Rows L2 EF
open PySem.W (Frag keepIn)
mutual
/-- x is the datum d; its lists stand where N lets them; a dict is a dict, whatever it holds -/
def Rep (N : Addr → Prop) (H : Hp) : PyData → V → Prop
  | .none, x => x = .non
  | .bool b, x => x = .bl b
  | .int i, x => x = .int i
  | .str s, x => x = .str s
  | .list ds, x => ∃ a xs, x = .ref a ∧ N a ∧ H a = some (.lst xs) ∧ RepL N H ds xs
  | .tuple ds, x => ∃ a xs, x = .ref a ∧ H a = some (.tup xs) ∧ RepL N H ds xs
  | .dict _, x => ∃ a kvs, x = .ref a ∧ H a = some (.dK kvs)
def RepL (N : Addr → Prop) (H : Hp) : List PyData → List V → Prop
  | [], xs => xs = []
  | d :: ds, xs => ∃ x r, xs = x :: r ∧ Rep N H d x ∧ RepL N H ds r
end
section
variable {N M : Addr → Prop} {H H' : Hp}
mutual
theorem Rep.keep (hd : ∀ a kvs, H a = some (.dK kvs) → H' a = some (.dK kvs)) (ht : ∀ a xs, H a = some (.tup xs) → H' a = some (.tup xs)) (hl : ∀ a xs, N a → H a = some (.lst xs) → M a ∧ H' a = some (.lst xs)) :
    ∀ {d : PyData} {x : V}, Rep N H d x → Rep M H' d x
  | .none, _, h => h
  | .bool _, _, h => h
  | .int _, _, h => h
  | .str _, _, h => h
  | .list ds, _, h => by
    obtain ⟨a, xs, rfl, na, e, r⟩ := h
    exact ⟨a, xs, rfl, (hl a xs na e).1, (hl a xs na e).2, RepL.keep hd ht hl r⟩
  | .tuple ds, _, h => by
    obtain ⟨a, xs, rfl, e, r⟩ := h
    exact ⟨a, xs, rfl, ht a xs e, RepL.keep hd ht hl r⟩
  | .dict _, _, h => by
    obtain ⟨a, kvs, rfl, e⟩ := h
    exact ⟨a, kvs, rfl, hd a kvs e⟩
theorem RepL.keep (hd : ∀ a kvs, H a = some (.dK kvs) → H' a = some (.dK kvs)) (ht : ∀ a xs, H a = some (.tup xs) → H' a = some (.tup xs)) (hl : ∀ a xs, N a → H a = some (.lst xs) → M a ∧ H' a = some (.lst xs)) :
    ∀ {ds : List PyData} {xs : List V}, RepL N H ds xs → RepL M H' ds xs
  | [], _, h => h
  | d :: ds, _, h => by
    obtain ⟨x, r, rfl, h1, h2⟩ := h
    exact ⟨x, r, rfl, Rep.keep hd ht hl h1, RepL.keep hd ht hl h2⟩
end
theorem Rep.same (s : Same H H') {d : PyData} {x : V} (h : Rep N H d x) : Rep N H' d x := h.keep (fun _ _ e => s _ _ e) (fun _ _ e => s _ _ e) fun _ _ na e => ⟨na, s _ _ e⟩
theorem RepL.same (s : Same H H') {ds : List PyData} {xs : List V} (h : RepL N H ds xs) : RepL N H' ds xs := h.keep (fun _ _ e => s _ _ e) (fun _ _ e => s _ _ e) fun _ _ na e => ⟨na, s _ _ e⟩
theorem RepL.length : ∀ {ds : List PyData} {xs : List V}, RepL N H ds xs → xs.length = ds.length
  | [], _, h => by rw [show _ = [] from h]; rfl
  | d :: ds, _, h => by
    obtain ⟨x, r, rfl, _, h2⟩ := h
    rw [List.length_cons, List.length_cons, RepL.length h2]
theorem RepL.get {x : V} : ∀ {ds : List PyData} {xs : List V} {i : Nat}, RepL N H ds xs → xs[i]? = some x → ∃ d, ds[i]? = some d ∧ Rep N H d x
  | [], _, i, h, e => by
    rw [show _ = [] from h] at e
    cases e
  | d :: ds, _, 0, h, e => by
    obtain ⟨y, r, rfl, h1, _⟩ := h
    cases e
    exact ⟨d, rfl, h1⟩
  | d :: ds, _, i + 1, h, e => by
    obtain ⟨y, r, rfl, _, h2⟩ := h
    exact RepL.get (ds := ds) (i := i) h2 e
theorem RepL.at {d : PyData} : ∀ {ds : List PyData} {xs : List V} {i : Nat}, RepL N H ds xs → ds[i]? = some d → ∃ x, xs[i]? = some x ∧ Rep N H d x
  | [], _, i, h, e => by cases e
  | d' :: ds, _, 0, h, e => by
    obtain ⟨y, r, rfl, h1, _⟩ := h
    cases e
    exact ⟨y, rfl, h1⟩
  | d' :: ds, _, i + 1, h, e => by
    obtain ⟨y, r, rfl, _, h2⟩ := h
    exact RepL.at (ds := ds) (i := i) h2 e
theorem RepL.of : ∀ {ds : List PyData} {xs : List V}, xs.length = ds.length → (∀ (i : Nat) (d : PyData) (x : V), ds[i]? = some d → xs[i]? = some x → Rep N H d x) → RepL N H ds xs
  | [], [], _, _ => rfl
  | d :: ds, x :: xs, l, h => ⟨x, xs, rfl, h 0 d x rfl rfl, RepL.of (by simpa using l) fun i d' x' e1 e2 => h (i + 1) d' x' e1 e2⟩
theorem RepL.app : ∀ {ds es : List PyData} {xs ys : List V}, RepL N H ds xs → RepL N H es ys → RepL N H (ds ++ es) (xs ++ ys)
  | [], _, _, _, h, k => by rw [show _ = [] from h]; exact k
  | d :: ds, _, _, _, h, k => by
    obtain ⟨x, r, rfl, h1, h2⟩ := h
    exact ⟨x, r ++ _, rfl, h1, RepL.app h2 k⟩
theorem RepL.take (n : Nat) {ds : List PyData} {xs : List V} (h : RepL N H ds xs) : RepL N H (ds.take n) (xs.take n) :=
  .of (by rw [List.length_take, List.length_take, h.length]) fun i d x e1 e2 => by
    rw [List.getElem?_take] at e1 e2
    split at e1
    · rename_i hi
      rw [if_pos hi] at e2
      obtain ⟨d', e', r⟩ := h.get e2
      rw [e1] at e'
      cases e'
      exact r
    · cases e1
theorem RepL.drop (n : Nat) {ds : List PyData} {xs : List V} (h : RepL N H ds xs) : RepL N H (ds.drop n) (xs.drop n) :=
  .of (by rw [List.length_drop, List.length_drop, h.length]) fun i d x e1 e2 => by
    rw [List.getElem?_drop] at e1 e2
    obtain ⟨d', e', r⟩ := h.get e2
    rw [e1] at e'
    cases e'
    exact r
theorem RepL.rev {ds : List PyData} {xs : List V} (h : RepL N H ds xs) : RepL N H ds.reverse xs.reverse :=
  .of (by rw [List.length_reverse, List.length_reverse, h.length]) fun i d x e1 e2 => by
    have hl := h.length
    have hi : i < ds.length := by
      rcases Nat.lt_or_ge i ds.length with q | q
      · exact q
      · rw [List.getElem?_eq_none_iff.mpr (by rw [List.length_reverse]; exact q)] at e1
        cases e1
    rw [List.getElem?_reverse hi] at e1
    rw [List.getElem?_reverse (by omega), hl] at e2
    obtain ⟨d', e', r⟩ := h.get e2
    rw [e1] at e'
    cases e'
    exact r
/-- a list of ints is a list of ints -/
theorem RepL.ints : ∀ {ns : List Int} {xs : List V}, RepL N H (ns.map PyData.int) xs → xs = ns.map V.int
  | [], _, h => h
  | n :: ns, _, h => by
    obtain ⟨x, r, rfl, h1, h2⟩ := h
    rw [show x = V.int n from h1, RepL.ints h2]
    rfl
theorem RepL.ofInts : ∀ (ns : List Int), RepL N H (ns.map PyData.int) (ns.map V.int)
  | [] => rfl
  | n :: ns => ⟨_, _, rfl, rfl, RepL.ofInts ns⟩
end
/-! ### what kind a datum is -/
def tyN : PyData → String
  | .none => "NoneType"
  | .bool _ => "bool"
  | .int _ => "int"
  | .str _ => "str"
  | .list _ => "list"
  | .tuple _ => "tuple"
  | .dict _ => "dict"
theorem Rep.ty {K : Frag} {N : Addr → Prop} {H : Hp} : ∀ {d : PyData} {x : V}, Rep N H d x → TyX K H x (.type (tyN d))
  | .none, _, h => by rw [show _ = V.non from h]; exact .base .non
  | .bool b, _, h => by rw [show _ = V.bl b from h]; exact .base (.bl b)
  | .int i, _, h => by rw [show _ = V.int i from h]; exact .base (.int i)
  | .str s, _, h => by rw [show _ = V.str s from h]; exact .base (.str s)
  | .list ds, _, h => by
    obtain ⟨a, xs, rfl, _, e, _⟩ := h
    exact .base (.lst e)
  | .tuple ds, _, h => by
    obtain ⟨a, xs, rfl, e, _⟩ := h
    exact .base (.tup e)
  | .dict _, _, h => by
    obtain ⟨a, kvs, rfl, e⟩ := h
    exact .base (.dK e)
def isTupD : PyData → Bool
  | .tuple _ => true
  | _ => false
def isIntD : PyData → Bool
  | .int _ => true
  | .bool _ => true
  | _ => false
def isBoolD : PyData → Bool
  | .bool _ => true
  | _ => false
theorem kit_tup (d : PyData) : kitB (tyN d) "tuple" = some (isTupD d) := by
  cases d with
  | none => exact (by decide +kernel : kitB "NoneType" "tuple" = some false)
  | bool _ => exact (by decide +kernel : kitB "bool" "tuple" = some false)
  | int _ => exact (by decide +kernel : kitB "int" "tuple" = some false)
  | str _ => exact (by decide +kernel : kitB "str" "tuple" = some false)
  | list _ => exact (by decide +kernel : kitB "list" "tuple" = some false)
  | tuple _ => exact (by decide +kernel : kitB "tuple" "tuple" = some true)
  | dict _ => exact (by decide +kernel : kitB "dict" "tuple" = some false)
theorem kit_int (d : PyData) : kitB (tyN d) "int" = some (isIntD d) := by
  cases d with
  | none => exact (by decide +kernel : kitB "NoneType" "int" = some false)
  | bool _ => exact (by decide +kernel : kitB "bool" "int" = some true)
  | int _ => exact (by decide +kernel : kitB "int" "int" = some true)
  | str _ => exact (by decide +kernel : kitB "str" "int" = some false)
  | list _ => exact (by decide +kernel : kitB "list" "int" = some false)
  | tuple _ => exact (by decide +kernel : kitB "tuple" "int" = some false)
  | dict _ => exact (by decide +kernel : kitB "dict" "int" = some false)
theorem kit_bool (d : PyData) : kitB (tyN d) "bool" = some (isBoolD d) := by
  cases d with
  | none => exact (by decide +kernel : kitB "NoneType" "bool" = some false)
  | bool _ => exact (by decide +kernel : kitB "bool" "bool" = some true)
  | int _ => exact (by decide +kernel : kitB "int" "bool" = some false)
  | str _ => exact (by decide +kernel : kitB "str" "bool" = some false)
  | list _ => exact (by decide +kernel : kitB "list" "bool" = some false)
  | tuple _ => exact (by decide +kernel : kitB "tuple" "bool" = some false)
  | dict _ => exact (by decide +kernel : kitB "dict" "bool" = some false)
/-! ### webs -/
/-- each item is less than the next one -/
def asc : List Int → Bool
  | x :: y :: r => decide (x < y) && asc (y :: r)
  | _ => true
def perB (many : Int) : PyData → Bool
  | .int i => decide (0 ≤ i) && decide (i < many)
  | _ => false
def intOf : PyData → Int
  | .int i => i
  | _ => 0
def pocketB (u many : Int) : PyData → Bool
  | .tuple ds => ds.all (fun d => perB many d && !decide (intOf d = u)) && asc (ds.map intOf)
  | _ => false
def pocketsB (many : Int) : Nat → List PyData → Bool
  | _, [] => true
  | u, p :: ps => pocketB (u : Int) many p && pocketsB many (u + 1) ps
def webB : PyData → Bool
  | .tuple ps => (decide (1 ≤ ps.length) && decide (ps.length ≤ 9)) && pocketsB (ps.length : Int) 0 ps
  | _ => false
theorem pers_ints : ∀ {ds : List PyData} {many u : Int}, ds.all (fun d => perB many d && !decide (intOf d = u)) = true → ds = (ds.map intOf).map PyData.int
  | [], _, _, _ => rfl
  | d :: ds, many, u, h => by
    rw [List.all_cons, Bool.and_eq_true] at h
    have ih := pers_ints (ds := ds) h.2
    cases d with
    | int i =>
      show PyData.int i :: ds = PyData.int i :: (ds.map intOf).map PyData.int
      rw [← ih]
    | _ => simp [perB] at h
theorem asc_range : ∀ ns : List Int, asc ns = ((List.range (ns.length - 1)).map fun k => decide (ns.getD k 0 < ns.getD (k + 1) 0)).all id
  | [] => rfl
  | [_] => rfl
  | x :: y :: r => by
    have ih := asc_range (y :: r)
    show (decide (x < y) && asc (y :: r)) = ((List.range (r.length + 1)).map fun k => decide ((x :: y :: r).getD k 0 < (x :: y :: r).getD (k + 1) 0)).all id
    rw [ih, List.range_succ_eq_map, List.map_cons, List.map_map, List.all_cons]
    rfl
theorem pocketsB_range (m : Int) : ∀ (ps : List PyData) (u : Nat), pocketsB m u ps = ((List.range ps.length).map fun k => pocketB ((u + k : Nat) : Int) m (ps.getD k .none)).all id
  | [], _ => rfl
  | p :: ps, u => by
    have ih := pocketsB_range m ps (u + 1)
    show (pocketB (u : Int) m p && pocketsB m (u + 1) ps) = ((List.range (ps.length + 1)).map fun k => pocketB ((u + k : Nat) : Int) m ((p :: ps).getD k .none)).all id
    rw [ih, List.range_succ_eq_map, List.map_cons, List.map_map, List.all_cons]
    congr 2
    apply List.map_congr_left
    intro k _
    show pocketB ((u + 1 + k : Nat) : Int) m (ps.getD k .none) = pocketB ((u + (k + 1) : Nat) : Int) m (ps.getD k .none)
    congr 2
    omega
end Hn

set_option maxHeartbeats 4000000
/-! the library's rules with the written part by its own name: within a comprehension the reading must not speak of the block -/
namespace Hn
open PySem PySem.Spec PyProof.Rows L2 EF
open PySem.W (Frag keepIn)
section
variable {X : Cx} {K : Frag} {tg e e2 : Expr} {tl : TE} {ta t : TA} {p pos tpos : Pos} {elts : List Expr} {kk : Nat}
theorem ix_listK (h : X.K = K) : IxR X (rIxL K) := by subst h; exact ix_list
theorem ix_tupK (h : X.K = K) : IxR X (rIxT K) := by subst h; exact ix_tup
theorem in_seqK (h : X.K = K) : OpR X (compareOp .In) (rIn K false) := by subst h; exact op_in_seq
theorem notIn_seqK (h : X.K = K) : OpR X (compareOp .NotIn) (rIn K true) := by subst h; exact op_notIn_seq
theorem isiK (h : X.K = K) : CallR X (.builtin "isinstance") (rIsi K) := by subst h; exact call_isi
theorem isiTK (h : X.K = K) : CallR X (.builtin "isinstance") (rIsiT K) := by subst h; exact call_isiT
theorem isiEK (h : X.K = K) : CallR X (.builtin "isinstance") (rIsiE K) := by subst h; exact call_isiE
theorem allK (h : X.K = K) (hc : X.calm = true) : CallR X (.builtin "all") (rAll K) := by subst h; exact cr_all hc
theorem anyK (h : X.K = K) (hc : X.calm = true) : CallR X (.builtin "any") (rAny K) := by subst h; exact cr_any hc
theorem sumK (h : X.K = K) (hc : X.calm = true) : CallR X (.builtin "sum") (rSum K) := by subst h; exact cr_sum hc
/-- len of a list, of a tuple -/
def rLen (K : Frag) : List V → Hp → VK → Prop := fun xs H Q => ∃ p ys, xs = [.ref p] ∧ (SqL K H p ys ∨ SqT K H p ys) ∧ Q (.int ys.length) H
theorem lenK (h : X.K = K) : CallR X (.builtin "len") (rLen K) := by subst h; exact call_len_seq
/-- list(x) of a list, of a tuple -/
def rListOf (K : Frag) : List V → Hp → VK → Prop := fun xs H Q => ∃ p ys, xs = [.ref p] ∧ (SqL K H p ys ∨ SqT K H p ys) ∧ ∀ l, H l = none → Q (.ref l) (upd H l (.lst ys))
theorem listK (h : X.K = K) : CallR X (.type "list") (rListOf K) := by subst h; exact call_list_of
/-- tuple(x) -/
def rTupOf (K : Frag) : List V → Hp → VK → Prop := fun xs H Q => ∃ p ys, xs = [.ref p] ∧ ((SqL K H p ys ∧ ∀ l, H l = none → Q (.ref l) (upd H l (.tup ys))) ∨ (SqT K H p ys ∧ Q (.ref p) H))
theorem tupleK (h : X.K = K) : CallR X (.type "tuple") (rTupOf K) := by subst h; exact call_tuple_of
theorem sl_listK (h : X.K = K) : SlR X (rSlL K) := by subst h; exact sl_list
theorem sl_tupK (h : X.K = K) : SlR X (rSlA K) := by subst h; exact sl_tupA
theorem catAK (h : X.K = K) : OpR X (binaryOp .Add) (rCatA K) := by subst h; exact op_catA
theorem pi_listK (h : X.K = K) (hl : PE X e tl) : PI X tg e (iList K tl) := by subst h; exact pi_list hl
theorem pi_tupK (h : X.K = K) (hl : PE X e tl) : PI X tg e (iTup K tl) := by subst h; exact pi_tup hl
theorem pi_enumK (h : X.K = K) (hg : Gl X "enumerate") (hm : X.mg "enumerate" = none) (ha : PA X [e] ta) (hs : starEach [e] X.env = [(false, eval e X.env)] := by rfl) :
    PI X (.Tuple elts kk tpos) (.Call (.Name "enumerate" p) [e] [] pos) (iEnum K ta) := by subst h; exact pi_enum hg hm ha hs
theorem pi_zipK (h : X.K = K) (hg : Gl X "zip") (hm : X.mg "zip" = none) (ha : PA X [e, e2] ta) (hs : starEach [e, e2] X.env = (false, eval e X.env) :: starEach [e2] X.env := by rfl) (hs2 : (backTo pos (starEach [e2] X.env)).any (·.1) = false := by rfl) :
    PI X (.Tuple elts kk tpos) (.Call (.Name "zip" p) [e, e2] [] pos) (RZ.iZipA K ta) := by subst h; exact RZ.pi_zipA hg hm ha hs hs2
end
end Hn

set_option maxHeartbeats 4000000
/-! set comprehensions whose elements are of any kind, given how one is put in -/
namespace Hn
open PySem PySem.Spec PyProof.Rows L2 EF
open PySem.W (Frag keepIn)
/-- an empty set, as Python makes it -/
def noneSet (w : World) : Obj := { cls := Value.type "set", data := Data.set #[] 0 (SetTable.fresh 0 0 !w.params.followText "set-order") }
/-- how a kind of sets stands on the heap: fresh D is the empty one, add D y H N says that y can be put into D's, and N holds then -/
structure SetWord (X : Cx) (fresh : Addr → HO) (add : Addr → V → Hp → (Hp → Prop) → Prop) : Prop where
  new : ∀ (H : Hp) (h : Heap) (a : Addr), h.get? a = some (noneSet X.w) → ObjOk X.prog X.w H h a (fresh a)
  put : ∀ (Y : Cx) (pins : List (Addr × Obj)) (σ : L2.St) (H : Hp) (s : Shared) (E : Value → Shared → Prop) (D : Addr) (y : V) (u : Value) (N : Hp → Prop) (Q : Value → Shared → Prop),
    Y.prog = X.prog → Y.w = X.w → Y.K = X.K → Y.A = X.A → Y.calm = X.calm → L2.Inv Y pins σ H s → L2.RelV y u → add D y H N → (∀ s' H', L2.Inv Y pins σ H' s' → N H' → Q .none s') →
    wpAny (model Y.prog Y.w) Y.A (call (.builtin "set.add") [.ref D, u]) Q E s
/-- the turns of a set comprehension -/
def SgTurns (add : Addr → V → Hp → (Hp → Prop) → Prop) (g : TG) (tt : TT) (te : TE) (ρ : L2.St) (vs : List Nat) (J : It) (D : Addr) (R : Hp → Prop) (W : Nat → Nat → Hp → Prop) : Prop :=
  ∀ (i m : Nat) (H : Hp), W i m H → (J.stop i H ∧ R H) ∨ (J.go i H ∧ ∃ N : Hp → Prop, (∀ H', N H' → ∃ m', m' < m ∧ W (i + 1) m' H') ∧
    ∀ (x : V) (H' : Hp), J.yld i H x H' → g x ρ H' fun σ2 H2 => wipe σ2 vs = ρ ∧ tt σ2 H2 fun b H3 => if b = true then te σ2 H3 fun y H4 => add D y H4 N else N H3)
def tSg (fresh : Addr → HO) (add : Addr → V → Hp → (Hp → Prop) → Prop) (wi : TI) (g : TG) (tt : TT) (te : TE) (vs : List Nat) : TE :=
  fun σ H Q => wi σ H fun J H1 => ∀ D, H1 D = none → ∃ W, (∃ m, W 0 m (upd H1 D (fresh D))) ∧ SgTurns add g tt te (wipe σ vs) vs J D (fun H => Q (.ref D) H) W
section
variable {X : Cx} {elt tg iter : Expr} {ifs : List Expr} {scope : Scope} {own : List (Str × Nat)} {pos : Pos} {wi : TI} {g : TG} {tt : TT} {te : TE} {fresh : Addr → HO} {add : Addr → V → Hp → (Hp → Prop) → Prop}
/-- the loop itself, within a block B -/
theorem sg_loop {B : Cx} (SW : SetWord X fresh add) (e1 : B.prog = X.prog) (e2 : B.w = X.w) (e3 : B.K = X.K) (e4 : B.A = X.A) (e5 : B.calm = X.calm) (hc : X.calm = true) {J : It} {fp : List Addr} {it : Addr} {tn : Nat → Heap → Prop}
    (T : Turn X.prog X.w X.K tg J fp it tn) (pg : PG B tg g) (pt : PTs B ifs tt) (pe : PE B elt te) (hx : B.xe = fun _ _ => False) {D : Addr} {R : Hp → Prop} {W : Nat → Nat → Hp → Prop} {ρ : L2.St} {vs : List Nat}
    (hT : SgTurns add g tt te ρ vs J D R W)
    (stat : ∀ H s, L2.Inv B [] ρ H s → (∀ b ∈ fp, H b = none) → ∀ b ∈ fp, FpOk B [] H b)
    {G : Result → Shared → Prop} (fin : ∀ H s, L2.Inv B [] ρ H s → R H → G (.ok .next) s)
    {m i : Nat} {H : Hp} {s : Shared} (I : L2.Inv B [] ρ H s) (st : tn i s.heap) (nf : ∀ b ∈ fp, H b = none) (w : W i m H) :
    codeAny (model X.prog X.w) X.A (.compLoop (.SetComp elt [⟨tg, iter, ifs, 0⟩] scope pos) 0 (.ref it) (.ref D) B.env) G s := by
  refine PpSet.compLoopS_any (fun k s' => ∃ i H', L2.Inv B [] ρ H' s' ∧ tn i s'.heap ∧ (∀ b ∈ fp, H' b = none) ∧ W i k H') ?_ m ⟨i, H, I, st, nf, w⟩
  rintro k s5 ⟨i, H5, I5, st5, n5, w5⟩
  rcases hT i k H5 w5 with ⟨stop, r⟩ | ⟨go, N, hN, step⟩
  · have td := T.done B e1 e2 e3 (e5.trans hc) i [] s5 ρ H5 (fun _ _ => False) I5 (stat H5 s5 I5 n5) st5 stop
    rw [e4] at td
    refine thnF td ?_
    rintro _ s6 ⟨rfl, I6⟩
    exact fin H5 s6 I6 r
  · have ti := T.item B e1 e2 e3 (e5.trans hc) i [] s5 ρ H5 (fun _ _ => False) I5 (stat H5 s5 I5 n5) st5 go
    rw [e4] at ti
    refine thnF ti ?_
    rintro _ s6 ⟨u, rfl, h6⟩
    refine thnF h6 ?_
    rintro _ s7 ⟨x, H7, I7, r7, y7, st7, n7⟩
    have I7' := I7.pinned (stat H7 s7 I7 n7) (T.obj (i + 1) s7.heap st7)
    have z := pg.run ([] ++ pinsAt fp s7.heap) s7 ρ H7 x u _ I7' r7 (step x H7 y7)
    rw [hx, e1, e2, e4] at z
    refine thnF z ?_
    rintro _ s8 ⟨σ8, H8, I8, hw8, q8⟩
    have z := pt.run ([] ++ pinsAt fp s7.heap) s8 σ8 H8 _ I8 q8
    rw [hx, e1, e2, e4] at z
    refine thnF z ?_
    rintro b s9 ⟨H9, I9, q9⟩
    have fin' : ∀ s' H', L2.Inv B ([] ++ pinsAt fp s7.heap) σ8 H' s' → N H' → ∃ k', k' < k ∧ ∃ i H', L2.Inv B [] ρ H' s' ∧ tn i s'.heap ∧ (∀ b ∈ fp, H' b = none) ∧ W i k' H' := by
      intro s' H' I' nx
      obtain ⟨k', hk, w'⟩ := hN H' nx
      have pin : ∀ b ∈ fp, ∀ o, s7.heap.get? b = some o → s'.heap.get? b = some o ∧ H' b = none := fun b hb o e => by
        have z := I'.pin (b, o) (List.mem_append_right _ (List.mem_append_right _ (mem_pinsAt hb e)))
        exact ⟨z.1, z.2.1⟩
      refine ⟨k', hk, i + 1, H', (I'.unpinned).weak ?_ ?_, T.keep (i + 1) s7.heap s'.heap st7 fun b hb o e => (pin b hb o e).1, fun b hb => ?_, w'⟩
      · rw [← hw8, wipe_length]
      · intro j v e
        rw [← hw8] at e
        exact (wipe_some e).1
      · obtain ⟨o, e, _⟩ := T.obj (i + 1) s7.heap st7 b hb
        exact (pin b hb o e).2
    cases b with
    | false => exact fin' s9 H9 I9 q9
    | true =>
      have z := pe.run ([] ++ pinsAt fp s7.heap) s9 σ8 H9 _ I9 q9
      rw [hx, e1, e2, e4] at z
      refine thnF z ?_
      rintro v s10 ⟨y, H10, I10, r10, q10⟩
      have z := SW.put B ([] ++ pinsAt fp s7.heap) σ8 H10 s10 (notedBy (model X.prog X.w) X.A B.env fun e s' => G (Except.error e) s') D y v N (fun _ s5 => ∃ k', k' < k ∧ ∃ i H', L2.Inv B [] ρ H' s5 ∧ tn i s5.heap ∧ (∀ b ∈ fp, H' b = none) ∧ W i k' H') e1 e2 e3 e4 e5 I10 r10 q10 fin'
      rw [e1, e2, e4] at z
      exact z
/-- {e for x in xs if t} -/
theorem pe_sg (SW : SetWord X fresh add) (hc : X.calm = true) (hN : X.N.Nodup) (hi : PI X tg iter wi) (ok : BlkOk X.N X.env.scope scope own)
    (hg : ∀ (s : Shared) (H : Hp) (C : Addr) (cl : List (Str × Addr)) (fp : List Addr), PG (X.blk s H scope (compEnvC scope cl C X.env) fp) tg g)
    (ht : ∀ (s : Shared) (H : Hp) (C : Addr) (cl : List (Str × Addr)) (fp : List Addr), PTs (X.blk s H scope (compEnvC scope cl C X.env) fp) ifs tt)
    (he : ∀ (s : Shared) (H : Hp) (C : Addr) (cl : List (Str × Addr)) (fp : List Addr), PE (X.blk s H scope (compEnvC scope cl C X.env) fp) elt te)
    (hs : ∀ x : Value, foldedSetIterable iter X.env x = pure x := by intro x; rfl) :
    PE X (.SetComp elt [⟨tg, iter, ifs, 0⟩] scope pos) (tSg fresh add wi g tt te (own.map (·.2))) := by
  refine ⟨fun pins s σ H Q I h => ?_⟩
  rw [PpSet.eval_SetComp]
  have cl : ∀ y ∈ scope.names, y.2 = .free → ∃ c, List.lookup y.1 X.env.cells = some c := fun y hy e => (ok.free y hy e).elim (fun k => I.ok.has y.1 (.inl k)) fun k => I.ok.has y.1 (.inr k)
  refine wpAny_comprehension_free rfl hs (closure_ok cl) ok.kind (fun y hy e => by rw [ok.uniq y hy, e]) ?_
  refine thn (hi.run pins s σ H _ I h) fun v s1 a => thn a ?_
  rintro _ s2 ⟨it, fp, tn, J, H2, rfl, I2, T, st2, f2, q⟩
  refine PpSet.newSet_ok (newEnv_comp ?_)
  obtain ⟨W, ⟨m0, w0⟩, turns⟩ := q s2.heap.objs.size (HOk.fresh I2.hok (Nat.le_refl _))
  have kp : ∀ b o, s2.heap.get? b = some o → (s2.heap.push (noneSet X.w)).get? b = some o := fun b o e => Heap.get?_push_of_some _ e
  have I3 : L2.Inv X pins σ (upd H2 s2.heap.objs.size (fresh s2.heap.objs.size)) ⟨s2.heap.push (noneSet X.w), s2.gens, s2.drawn, s2.toks, s2.os⟩ :=
    I2.laid kp (Nat.le_refl _) (SW.new _ _ _ (Heap.get?_push_size _ rfl))
  have sz3 : s2.heap.objs.size < (s2.heap.push (noneSet X.w)).objs.size := by rw [Heap.size_push]; exact Nat.lt_succ_self _
  have sz : ∀ b ∈ fp, b < s2.heap.objs.size := fun b hb => by
    obtain ⟨o, e, _⟩ := T.obj 0 s2.heap st2 b hb
    exact Heap.lt_size e
  have f3 : ∀ b ∈ fp, FpOk X pins (upd H2 s2.heap.objs.size (fresh s2.heap.objs.size)) b ∧ b < (s2.heap.push (noneSet X.w)).objs.size := fun b hb =>
    ⟨⟨by rw [upd_ne (Nat.ne_of_lt (sz b hb))]; exact (f2 b hb).1, (f2 b hb).2⟩, Nat.lt_trans (sz b hb) sz3⟩
  have st3 := T.keep 0 s2.heap (s2.heap.push (noneSet X.w)) st2 fun b _ o e => kp b o e
  generalize hs3 : (⟨s2.heap.push (noneSet X.w), s2.gens, s2.drawn, s2.toks, s2.os⟩ : Shared) = s3 at I3
  have h3 : s2.heap.push (noneSet X.w) = s3.heap := by rw [← hs3]
  rw [h3] at f3 st3
  have I4 := block_start I3 ok hN f3
  have pg := hg s3 (upd H2 s2.heap.objs.size (fresh s2.heap.objs.size)) s3.heap.objs.size (cellsFrom (s3.heap.objs.size + 1) scope.names (cloFrom X.env.cells scope.names [])) fp
  have pt := ht s3 (upd H2 s2.heap.objs.size (fresh s2.heap.objs.size)) s3.heap.objs.size (cellsFrom (s3.heap.objs.size + 1) scope.names (cloFrom X.env.cells scope.names [])) fp
  have pe := he s3 (upd H2 s2.heap.objs.size (fresh s2.heap.objs.size)) s3.heap.objs.size (cellsFrom (s3.heap.objs.size + 1) scope.names (cloFrom X.env.cells scope.names [])) fp
  have st4 := T.keep 0 s3.heap (pushCells (s3.heap.push { cls := .type "dict", data := .dict #[] }) scope.names) st3 fun b _ o e => pushCells_keeps _ _ b o (Heap.get?_push_of_some _ e)
  have loop : codeAny (model X.prog X.w) X.A (.compLoop (.SetComp elt [⟨tg, iter, ifs, 0⟩] scope pos) 0 (.ref it) (.ref s2.heap.objs.size) (compEnvC scope (cellsFrom (s3.heap.objs.size + 1) scope.names (cloFrom X.env.cells scope.names [])) s3.heap.objs.size X.env))
      (compPost (model X.prog X.w) X.A X.xe none (EP X pins σ Q) (.ref s2.heap.objs.size) s3.heap.objs.size) ⟨pushCells (s3.heap.push { cls := .type "dict", data := .dict #[] }) scope.names, s3.gens, s3.drawn, s3.toks, s3.os⟩ := by
    refine sg_loop (B := X.blk s3 (upd H2 s2.heap.objs.size (fresh s2.heap.objs.size)) scope (compEnvC scope (cellsFrom (s3.heap.objs.size + 1) scope.names (cloFrom X.env.cells scope.names [])) s3.heap.objs.size X.env) fp) SW rfl rfl rfl rfl rfl hc T pg pt pe rfl turns ?_ ?_ I4 st4 (fun b hb => (f3 b hb).1.1) w0
    · intro H' s' I' n b hb
      exact ⟨n b hb, (I'.ok.exf b hb).1, I'.ok.exfs b hb, .inl hb, fun x c e => (I'.ok.exf b hb).2 x c e, fun p hp => absurd hp (by simp)⟩
    · intro H' s' I' r
      have I7 : L2.Inv X pins σ H' s' := I3.call' I'.os I'.base I'.hok I'.bare fun b hb => ⟨(f3 b hb).1.2.2.2.1, (f3 b hb).1.2.1, (f3 b hb).1.2.2.2.2.1, (f3 b hb).1.2.2.2.2.2⟩
      have k := I3.fpOk (Nat.le_refl _) (show H' s3.heap.objs.size = none from I'.free)
      obtain ⟨m, hm, _⟩ := I'.loc
      exact ⟨m, hm, fun h' sb => ⟨.ref s2.heap.objs.size, H', I7.turned (fun b o ne e => (sb.2 b ne).trans e) k.1 k.2.1 k.2.2.2.1 k.2.2.2.2.1 k.2.2.2.2.2, rfl, r⟩⟩
  rw [← hs3] at loop st4
  exact PpSet.codeAny_compStart_set loop (T.self X.A 0 _ _ _ st4 loop)
end
end Hn

set_option maxHeartbeats 4000000
/-! sets of tuples of ints: made by a comprehension, sorted whatever the lengths -/
namespace Hn
open PySem PySem.Spec PyProof.Rows L2 EF
open PySem.W (Frag keepIn)
/-- y, a tuple of ints, can be put into the set at D, and N holds then -/
def addT (K : Frag) (P : Program) (w : World) (D : Addr) (y : V) (H : Hp) (N : Hp → Prop) : Prop :=
  ∃ (x : Addr) (k : List Int) (L : List (Addr × List Int)), y = .ref x ∧ SqT K H x (k.map V.int) ∧ H D = some (SetTO P w D L) ∧ (∀ p ∈ L, SqT K H p.1 (p.2.map V.int)) ∧ L.length + 1 < 64 ∧
    ∀ L', (k ∈ L.map (·.2) → L' = L) → (k ∉ L.map (·.2) → L'.Perm ((x, k) :: L)) → N (upd H D (SetTO P w D L'))
theorem putT {Y : Cx} {pins : List (Addr × Obj)} {σ : L2.St} {H : Hp} {s : Shared} {E : Value → Shared → Prop} {D : Addr} {y : V} {u : Value} {N : Hp → Prop} {Q : Value → Shared → Prop} (hu : Y.A.units + 1 < cLine)
    (I : L2.Inv Y pins σ H s) (r : L2.RelV y u) (h : addT Y.K Y.prog Y.w D y H N) (q : ∀ s' H', L2.Inv Y pins σ H' s' → N H' → Q .none s') : wpAny (model Y.prog Y.w) Y.A (call (.builtin "set.add") [.ref D, u]) Q E s := by
  obtain ⟨x, k, L, rfl, hx, hD, hL, few, n⟩ := h
  obtain rfl : u = Value.ref x := r
  have z := (I.hok D _ hD).1
  obtain ⟨es, ep, t, S⟩ := z.full fun p hp => I.isT (hL p hp)
  obtain ⟨o, ho, eo, do'⟩ := S.ob
  refine wpAny_call_entry F.slot_set_add ⟨o, ho, eo.1⟩ F.entry_set_add ?_ (F.args_set_add_2 _ _)
  show wpAny _ _ (do let x ← (do let a ← Builtin.Frozenset.addrOf (.ref D); pure (a, Value.ref x)); let _ ← setAdd x.1 x.2; ret Value.none) _ _ _
  refine wpAny_bind (wpAny_bind (wpAny_pure (wpAny_pure (wpAny_bind (wpAny_holding (wpAny_bind (wpAny_pyHash_tuple hu (I.isT hx) ?_)))))))
  refine add_at (s := ⟨s.heap, s.gens, s.drawn, s.toks + (k.length + 1), s.os⟩) S (I.isT hx) hu few ?_
  intro b h' L' es' ep' t' sb S' e1 e2
  refine wpAny_pure ⟨.none, rfl, q _ (upd H D (SetTO Y.prog Y.w D L')) ?_ (n L' e1 e2)⟩
  refine I.write ?_ (.inl rfl) (fun b u ne e => (sb.2 b ne).trans e) ?_ (setTO_new S'.t0)
  · rw [hD]
    exact trivial
  · obtain ⟨o', ho', _⟩ := S'.ob
    exact ⟨o', ho'⟩
theorem wordT {X : Cx} (hu : X.A.units + 1 < cLine) : SetWord X (fun D => SetTO X.prog X.w D []) (addT X.K X.prog X.w) where
  new := fun H h a e => setTO_new (setTR_fresh e).t0
  put := fun Y pins σ H s E D y u N Q e1 e2 e3 e4 e5 I r h q => by
    rw [← e1, ← e2, ← e3] at h
    exact putT (by rw [e4]; exact hu) I r h q
end Hn

set_option maxHeartbeats 4000000
/-! sorted(s) of a set of tuples of ints of any lengths -/
namespace Hn
open PySem PySem.Spec PyProof.Rows L2 EF
open PySem.W (Frag keepIn)
/-- the datum of a tuple of ints -/
def encT (p : Addr × List Int) : PyData := .tuple (p.2.map .int)
/-- q does not stand behind r -/
def notAfter (q r : Addr × List Int) : Prop := ¬ r.2 < q.2
theorem refs_pick {L : List (Addr × List Int)} : ∀ {vs : List Value}, (∀ v ∈ vs, ∃ q ∈ L, v = Value.ref q.1) → ∃ L1 : List (Addr × List Int), vs = L1.map (fun q => Value.ref q.1) ∧ ∀ q ∈ L1, q ∈ L
  | [], _ => ⟨[], rfl, fun _ h => nomatch h⟩
  | v :: vs, h => by
    obtain ⟨q, hq, rfl⟩ := h v List.mem_cons_self
    obtain ⟨L1, rfl, h1⟩ := refs_pick (vs := vs) fun u hu => h u (List.mem_cons_of_mem _ hu)
    exact ⟨q :: L1, rfl, fun r hr => (List.mem_cons.mp hr).elim (fun e => e ▸ hq) (h1 r)⟩
theorem each_refs : ∀ (L : List (Addr × List Int)), W.EachIs (fun v p => v = Value.ref p.1) (L.map fun q => Value.ref q.1) L
  | [] => .nil
  | q :: L => .cons rfl (each_refs L)
theorem of_each : ∀ {vs : List Value} {L : List (Addr × List Int)}, W.EachIs (fun v p => v = Value.ref p.1) vs L → vs = L.map fun q => Value.ref q.1
  | _, _, .nil => rfl
  | _, _, .cons h t => by rw [h, of_each t]; rfl
theorem reads_ints {h : Heap} : ∀ {ks : List Int} {vs : List Value}, IntsAre vs ks → ReadsAll h vs (ks.map .int) []
  | _, _, .nil => .nil
  | _, _, .cons n t r => .cons (.int n t) (reads_ints r)
/-- what holds of each holds of all -/
theorem each_mem {R : Value → Addr × List Int → Prop} : ∀ {L : List (Addr × List Int)}, (∀ q ∈ L, R (.ref q.1) q) → W.EachIs R (L.map fun q => Value.ref q.1) L
  | [], _ => .nil
  | q :: L, h => .cons (h q List.mem_cons_self) (each_mem fun r hr => h r (List.mem_cons_of_mem _ hr))
theorem lt_enc (p q : Addr × List Int) : W.dataLt (encT p) (encT q) = decide (p.2 < q.2) := by
  rw [encT, encT, W.dataLt_tuple]
  exact W.dataLt_ints p.2 q.2
theorem le_enc (p q : Addr × List Int) : W.dataLe false encT p q = !decide (q.2 < p.2) := by
  rw [← lt_enc]
  rfl
theorem reads_tup {P : Program} {w : World} {h : Heap} {q : Addr × List Int} (t : L2.IsT P w h q.2 q.1) : Reads h (.ref q.1) (encT q) [] := by
  obtain ⟨o, items, n, ho, ec, ed, i⟩ := t
  exact .tuple ho ec ed (reads_ints (ints_of_items i))
theorem sortedS {P : Program} {w : World} {A : Around} {E : Value → Shared → Prop} {s : Shared} {a : Addr} {L : List (Addr × List Int)} {es : Array (Int × Value)} {ep : Nat} {t : SetTable} {Q : Value → Shared → Prop}
    (R : SetTR P w s.heap a L es ep t) (hh : A.handled = none) (hu : A.units + 10 < cLine) (ne : ∀ p ∈ L, p.2 ≠ [])
    (hQ : ∀ (s' : Shared) (p : Addr) (out : Array Value) (c : Nat) (L' : List (Addr × List Int)), (∀ b o, s.heap.get? b = some o → s'.heap.get? b = some o) → s'.gens = s.gens → s'.os = s.os → s.heap.objs.size ≤ p →
      s'.heap.get? p = some (seqObj "list" out c) → out.toList = L'.map (fun q => Value.ref q.1) → L'.Perm L → L'.Pairwise notAfter → Q (.ref p) s') :
    wpAny (model P w) A (call (.builtin "sorted") [.ref a]) Q E s := by
  obtain ⟨o, ho, hex, hd⟩ := R.ob
  have hsz := R.size
  have few := R.few
  refine Calls.call_function_entry kind_sorted plain_sorted entry_sorted (args_sorted1 _) ?_
  refine wpAny_bind (wpAny_pure (wpAny_bind ?_))
  refine collect_set hh ⟨o, ho, hex.1, hd⟩ R.fits (by rw [show scanBound = 4096 from rfl]; omega) R.tab.ris R.led fun s1 vs k1 hz g1 o1 pm => ?_
  have hes : es.toList.map (·.2) = L.map (fun q => Value.ref q.1) := by
    rw [R.rows]
    simp [rowsOf, List.map_map]
  rw [hes] at pm
  obtain ⟨L1, rfl, h1⟩ := refs_pick (L := L) fun v hv => by
    obtain ⟨q, hq, e⟩ := List.mem_map.mp (pm.mem_iff.mp hv)
    exact ⟨q, hq, e.symm⟩
  have one : ∀ q ∈ L, ∀ r ∈ L, q.1 = r.1 → q = r := fun q hq r hr e => by
    have z := R.tup q hq
    rw [e] at z
    exact Prod.ext e (IsTupleKey.inj z (R.tup r hr))
  have nL := nodup_of_map R.nd
  have p1 : L1.Perm L := by
    have nref : (L.map fun q => Value.ref q.1).Nodup := List.pairwise_map.mpr (nL.imp_of_mem fun hq hr n e => n (one _ hq _ hr (Value.ref.inj e)))
    have n1 : L1.Nodup := nodup_of_map (pm.nodup_iff.mpr nref)
    refine (List.perm_ext_iff_of_nodup n1 nL).mpr fun q => ⟨h1 q, fun hq => ?_⟩
    obtain ⟨r, hr, e⟩ := List.mem_map.mp (pm.mem_iff.mpr (List.mem_map.mpr ⟨q, hq, rfl⟩))
    rw [one q hq r (h1 r hr) (Value.ref.inj e).symm]
    exact hr
  have len1 : L1.length < 64 := by rw [p1.length_eq]; exact few
  refine wpAny_bind (wpAny_newList ?_ (by rw [List.length_map, sizeLine_eq]; omega))
  have hoL : (s1.heap.push (seqObj "list" (L1.map fun q => Value.ref q.1).toArray 0)).get? s1.heap.objs.size = some (seqObj "list" (L1.map fun q => Value.ref q.1).toArray 0) := Heap.get?_push_size _ rfl
  have rd : ∀ q ∈ L, Reads (s1.heap.push (seqObj "list" (L1.map fun q => Value.ref q.1).toArray 0)) (.ref q.1) (encT q) [] := fun q hq => reads_tup (isT_keep (R.tup q hq) fun b u e => Heap.get?_push_of_some _ (k1 b u e))
  refine wpAny_bind (wpAny_holding (W.list_sort_data (bs := L1) (enc := encT) (R := fun v p => v = Value.ref p.1) hoL (each_refs L1) (each_mem fun q hq => ⟨[], rd q (h1 q hq), fun n => nomatch n⟩) ?_ (.inl ?_) (by rw [sizeLine_eq]; omega) ?_ ?_))
  · intro d hd d' hd'
    obtain ⟨p, _, rfl⟩ := List.mem_map.mp hd
    obtain ⟨q, _, rfl⟩ := List.mem_map.mp hd'
    exact W.alike_ints p.2 q.2
  · intro d hd
    obtain ⟨p, hp, rfl⟩ := List.mem_map.mp hd
    have z := ne p (h1 p hp)
    cases e : p.2 with
    | nil => exact absurd e z
    | cons x r => exact ⟨.int x, r.map .int, by rw [encT, e]; rfl⟩
  · intro p hp
    have z : (encT p).depth = 1 := by
      rw [encT]
      show PyData.depthAll (p.2.map PyData.int) + 1 = 1
      rw [W.depth_ints]
    rw [z]
    show A.units + 1 + 1 + 1 < cLine
    omega
  · intro out hl hE
    obtain ⟨c, hc⟩ := sortedHeap_at (out := out.toArray) hoL
    have e' := of_each hE
    refine wpAny_pure ⟨_, rfl, hQ _ s1.heap.objs.size out.toArray c (L1.mergeSort (W.dataLe false encT)) (fun b u e => ?_) g1 o1 hz hc e' ((List.mergeSort_perm _ _).trans p1) ?_⟩
    · have q := k1 b u e
      have hlt := Heap.lt_size q
      show (sortedHeap _ _ _ _).get? b = some u
      rw [sortedHeap_old (Nat.ne_of_lt hlt) (by rw [size_push']; exact Nat.lt_succ_of_lt hlt)]
      exact Heap.get?_push_of_some _ q
    · refine (W.sort_pairwise (W.sortLe_total _ _ _) L1).imp ?_
      intro p q h
      have z := le_enc p q
      rw [show W.dataLe false encT p q = true from h] at z
      intro lt
      rw [decide_eq_true lt] at z
      cases z
theorem room10 {A : Around} {k : Nat} (hr : Room k A) : A.units + 10 < cLine := by
  have := hr.un
  omega
/-- sorted(s), s a set of tuples of ints, none of them empty -/
def rSortS (K : Frag) (P : Program) (w : World) : List V → Hp → VK → Prop := fun vs H Q => ∃ (a : Addr) (L : List (Addr × List Int)), vs = [.ref a] ∧ H a = some (SetTO P w a L) ∧ (∀ p ∈ L, SqT K H p.1 (p.2.map V.int)) ∧ (∀ p ∈ L, p.2 ≠ []) ∧
  ∀ (L' : List (Addr × List Int)) (p : Addr), L'.Perm L → (L'.map (·.2)).Nodup → L'.length < 64 → L'.Pairwise notAfter → H p = none → Q (.ref p) (upd H p (.lst (L'.map fun q => V.ref q.1)))
theorem sortSK {X : Cx} {K : Frag} {P : Program} {w : World} (e1 : X.K = K) (e2 : X.prog = P) (e3 : X.w = w) (hc : X.calm = true) (hu : X.A.units + 10 < cLine) : CallR X (.builtin "sorted") (rSortS K P w) := by
  subst e1 e2 e3
  rintro pins s σ H vs us Q I r ⟨a, L, rfl, ha, hk, ne, q⟩
  obtain ⟨es, ep, t, R⟩ := (I.hok a _ ha).1.full fun p hp => I.isT (hk p hp)
  rw [Vals.ref1 r]
  refine sortedS R (I.ok.hd hc) hu ne fun s' p out c L' k g o hp hg hout pm pw => ?_
  have few : L'.length < 64 := by rw [pm.length_eq]; exact R.few
  have hn := HOk.fresh I.hok hp
  have ok : ObjOk X.prog X.w (upd H p (.lst (L'.map fun q => V.ref q.1))) s'.heap p (.lst (L'.map fun q => V.ref q.1)) := by
    refine ⟨by rw [List.length_map, sizeLine_eq]; omega, out.toList, c, ?_, hg⟩
    rw [hout]
    exact vals_of_refs L'
  refine ⟨.ref p, upd H p (.lst (L'.map fun q => V.ref q.1)), ?_, rfl, q L' p pm ((pm.map (fun x => x.2)).nodup_iff.mpr R.nd) few pw hn⟩
  obtain ⟨h', g', d', t', o'⟩ := s'
  obtain rfl : g' = s.gens := g
  obtain rfl : o' = s.os := o
  exact I.call' (ch := []) rfl (Un.laid k hp hn) (HOk.laid I.hok k hp ok) I.bare (fun b z => absurd z List.not_mem_nil)
section
variable {fresh : Addr → HO} {add : Addr → V → Hp → (Hp → Prop) → Prop} {g : TG} {tt : TT} {te : TE} {ρ : L2.St} {vs : List Nat} {D : Addr} {R : Hp → Prop} {H0 : Hp}
/-- a set comprehension over range(..) -/
theorem sg_range {lo : Int} {n : Nat} (Pv : Nat → Hp → Prop) (h0 : Pv 0 H0)
    (step : ∀ i H, i < n → Pv i H → g (.int (lo + (i : Int))) ρ H fun σ2 H2 => wipe σ2 vs = ρ ∧ tt σ2 H2 fun b H3 => if b = true then te σ2 H3 fun y H4 => add D y H4 (Pv (i + 1)) else Pv (i + 1) H3)
    (fin : ∀ H, Pv n H → R H) : ∃ W : Nat → Nat → Hp → Prop, (∃ m, W 0 m H0) ∧ SgTurns add g tt te ρ vs (Itr lo n) D R W := by
  refine ⟨fun i m H => i ≤ n ∧ m = n - i ∧ Pv i H, ⟨n, Nat.zero_le _, rfl, h0⟩, ?_⟩
  rintro i m H ⟨hi, rfl, p⟩
  rcases Nat.lt_or_ge i n with q | q
  · refine .inr ⟨q, Pv (i + 1), fun H' p' => ⟨n - (i + 1), by omega, q, rfl, p'⟩, ?_⟩
    rintro x H' ⟨rfl, rfl⟩
    exact step i H' q p
  · obtain rfl : i = n := by omega
    exact .inl ⟨Nat.le_refl _, fin H p⟩
/-- over a list -/
theorem sg_list {K : Frag} {a : Addr} {xs : List V} (Pv : Nat → Hp → Prop) (h0 : Pv 0 H0) (hq : ∀ i H, i ≤ xs.length → Pv i H → SqL K H a xs)
    (step : ∀ i x H, xs[i]? = some x → Pv i H → g x ρ H fun σ2 H2 => wipe σ2 vs = ρ ∧ tt σ2 H2 fun b H3 => if b = true then te σ2 H3 fun y H4 => add D y H4 (Pv (i + 1)) else Pv (i + 1) H3)
    (fin : ∀ H, Pv xs.length H → R H) : ∃ W : Nat → Nat → Hp → Prop, (∃ m, W 0 m H0) ∧ SgTurns add g tt te ρ vs (Itl K a) D R W := by
  refine ⟨fun i m H => i ≤ xs.length ∧ m = xs.length - i ∧ Pv i H, ⟨xs.length, Nat.zero_le _, rfl, h0⟩, ?_⟩
  rintro i m H ⟨hi, rfl, p⟩
  have s := hq i H hi p
  rcases Nat.lt_or_ge i xs.length with q | q
  · refine .inr ⟨⟨xs, xs[i], s, List.getElem?_eq_getElem q⟩, Pv (i + 1), fun H' p' => ⟨xs.length - (i + 1), by omega, q, rfl, p'⟩, ?_⟩
    rintro x H' ⟨rfl, e⟩
    exact step i x H' (e xs s) p
  · obtain rfl : i = xs.length := by omega
    exact .inl ⟨⟨xs, s, Nat.le_refl _⟩, fin H p⟩
/-- over a tuple -/
theorem sg_tup {K : Frag} {a : Addr} {xs : List V} (Pv : Nat → Hp → Prop) (h0 : Pv 0 H0) (hq : ∀ i H, i ≤ xs.length → Pv i H → SqT K H a xs)
    (step : ∀ i x H, xs[i]? = some x → Pv i H → g x ρ H fun σ2 H2 => wipe σ2 vs = ρ ∧ tt σ2 H2 fun b H3 => if b = true then te σ2 H3 fun y H4 => add D y H4 (Pv (i + 1)) else Pv (i + 1) H3)
    (fin : ∀ H, Pv xs.length H → R H) : ∃ W : Nat → Nat → Hp → Prop, (∃ m, W 0 m H0) ∧ SgTurns add g tt te ρ vs (Itt K a) D R W := by
  refine ⟨fun i m H => i ≤ xs.length ∧ m = xs.length - i ∧ Pv i H, ⟨xs.length, Nat.zero_le _, rfl, h0⟩, ?_⟩
  rintro i m H ⟨hi, rfl, p⟩
  have s := hq i H hi p
  rcases Nat.lt_or_ge i xs.length with q | q
  · refine .inr ⟨⟨xs, xs[i], s, List.getElem?_eq_getElem q⟩, Pv (i + 1), fun H' p' => ⟨xs.length - (i + 1), by omega, q, rfl, p'⟩, ?_⟩
    rintro x H' ⟨rfl, e⟩
    exact step i x H' (e xs s) p
  · obtain rfl : i = xs.length := by omega
    exact .inl ⟨⟨xs, s, Nat.le_refl _⟩, fin H p⟩
end
end Hn

set_option maxHeartbeats 4000000
/-! sorted of a list of data of any kind -/
namespace Hn
open PySem PySem.Spec PyProof.Rows L2 EF
open PySem.W (Frag keepIn)
theorem each_vals {P : List (V × PyData)} : ∀ {vs : List Value}, Vals (P.map (·.1)) vs → W.EachIs (fun v p => RelV p.1 v) vs P := by
  induction P with
  | nil =>
    intro vs h
    cases h
    exact .nil
  | cons p P ih =>
    intro vs h
    cases h with
    | cons r t => exact .cons r (ih t)
theorem vals_each {P : List (V × PyData)} : ∀ {vs : List Value}, W.EachIs (fun v p => RelV p.1 v) vs P → Vals (P.map (·.1)) vs := by
  induction P with
  | nil =>
    intro vs h
    cases h
    exact .nil
  | cons p P ih =>
    intro vs h
    cases h with
    | cons r t => exact .cons r (ih t)
def rSortLD (K : Frag) : List V → Hp → VK → Prop := fun vs H Q => ∃ (a : Addr) (L : List (V × PyData)), vs = [.ref a] ∧ SqL K H a (L.map (·.1)) ∧ (∀ p ∈ L, Dp K H p.1 p.2) ∧ W.AllAlike (L.map (·.2)) ∧ W.Sortable (L.map (·.2)) ∧ (∀ p ∈ L, p.2.depth ≤ 7) ∧
  ∀ (L' : List (V × PyData)) (p : Addr), L'.Perm L → L'.Pairwise (fun p q => W.dataLe false (fun p : V × PyData => p.2) p q = true) → H p = none → Q (.ref p) (upd H p (.lst (L'.map (·.1))))
theorem sortLD {X : Cx} {K : Frag} (e1 : X.K = K) (hu : X.A.units + 10 < cLine) : CallR X (.builtin "sorted") (rSortLD K) := by
  subst e1
  rintro pins s σ H vs us Q I r ⟨a, L, rfl, hs, hd, al, so, dp, q⟩
  obtain ⟨its, rv, hl, hz⟩ := I.list hs
  rw [Vals.ref1 r]
  have e := each_vals rv
  rw [List.length_map] at hz
  have er : W.EachIs (fun v p => ∃ as, Reads s.heap v ((fun p : V × PyData => p.2) p) as) its L := by
    clear q hl hs al so dp hz r
    have z : ∀ p ∈ L, ∀ u, RelV p.1 u → ∃ as, Reads s.heap u p.2 as := fun p hp u ru => Dp.reads I p.2 p.1 u (hd p hp) ru
    clear hd rv
    induction e with
    | nil => exact .nil
    | cons r t ih => exact .cons (z _ List.mem_cons_self _ r) (ih fun p hp => z p (List.mem_cons_of_mem _ hp))
  refine W.sorted_data (R := fun v p => RelV p.1 v) (enc := fun p : V × PyData => p.2) hl.isList e er al so hz (fun p hp => ?_) fun out ho hE => ?_
  · have := dp p hp
    omega
  · obtain ⟨c, hc⟩ := PyProof.Rows.sortedAll_at s.heap its out.toArray
    have pm : (L.mergeSort (W.dataLe false fun p : V × PyData => p.2)).Perm L := List.mergeSort_perm _ _
    have hlen : ((L.mergeSort (W.dataLe false fun p : V × PyData => p.2)).map (·.1)).length ≤ sizeLine := by
      rw [List.length_map, pm.length_eq]
      exact hz
    refine ⟨.ref _, upd H (s.heap.objs.size + 1) (.lst ((L.mergeSort (W.dataLe false fun p : V × PyData => p.2)).map (·.1))), I.laid (t' := s.toks) (fun _ _ => PyProof.Rows.sortedAll_old) (Nat.le_succ _) ⟨hlen, out, c, vals_each hE, hc⟩, rfl, q _ _ pm (W.sort_pairwise (W.sortLe_total _ _ _) L) (I.hok.fresh (Nat.le_succ _))⟩
/-- of int tuples, none of them empty -/
theorem alike_tups {L : List (V × PyData)} (h : ∀ p ∈ L, ∃ ns : List Int, p.2 = .tuple (ns.map .int)) : W.AllAlike (L.map (·.2)) := by
  intro d hd d' hd'
  obtain ⟨p, hp, rfl⟩ := List.mem_map.mp hd
  obtain ⟨q, hq, rfl⟩ := List.mem_map.mp hd'
  obtain ⟨ns, e⟩ := h p hp
  obtain ⟨ms, e'⟩ := h q hq
  rw [e, e']
  exact W.alike_ints ns ms
theorem sortable_tups {L : List (V × PyData)} (h : ∀ p ∈ L, ∃ ns : List Int, p.2 = .tuple (ns.map .int) ∧ ns ≠ []) : W.Sortable (L.map (·.2)) := by
  refine .inl fun d hd => ?_
  obtain ⟨p, hp, rfl⟩ := List.mem_map.mp hd
  obtain ⟨ns, e, ne⟩ := h p hp
  cases ns with
  | nil => exact absurd rfl ne
  | cons x r => exact ⟨.int x, r.map .int, by rw [e]; rfl⟩
theorem le_tups {p q : V × PyData} {ns ms : List Int} (e : p.2 = .tuple (ns.map .int)) (e' : q.2 = .tuple (ms.map .int)) : W.dataLe false (fun p : V × PyData => p.2) p q = !decide (ms < ns) := by
  show (!W.dataLt q.2 p.2) = _
  rw [e, e', W.dataLt_tuple]
  congr 1
  exact W.dataLt_ints ms ns
def rSortLT (K : Frag) : List V → Hp → VK → Prop := fun vs H Q => ∃ (a : Addr) (L : List (Addr × List Int)), vs = [.ref a] ∧ SqL K H a (L.map fun p => V.ref p.1) ∧ (∀ p ∈ L, SqT K H p.1 (p.2.map V.int)) ∧ (∀ p ∈ L, p.2 ≠ []) ∧
  ∀ (L' : List (Addr × List Int)) (p : Addr), L'.Perm L → L'.Pairwise notAfter → H p = none → Q (.ref p) (upd H p (.lst (L'.map fun q => V.ref q.1)))
theorem dp_ints {K : Frag} {H : Hp} : ∀ ns : List Int, DpAll K H (ns.map V.int) (ns.map PyData.int)
  | [] => .nil
  | n :: ns => .cons (.int n) (dp_ints ns)
theorem dp_tup {K : Frag} {H : Hp} {a : Addr} {ns : List Int} (h : SqT K H a (ns.map V.int)) : Dp K H (.ref a) (.tuple (ns.map .int)) := .tup h (dp_ints ns)
theorem sortLT {X : Cx} {K : Frag} (e1 : X.K = K) (hu : X.A.units + 10 < cLine) : CallR X (.builtin "sorted") (rSortLT K) := by
  rintro pins s σ H vs us Q I r ⟨a, L, rfl, hs, hk, ne, q⟩
  have el : (L.map fun p => ((V.ref p.1, PyData.tuple (p.2.map .int)) : V × PyData)).map (·.1) = L.map fun p => V.ref p.1 := by rw [List.map_map]; rfl
  have tp : ∀ p ∈ L.map fun p => ((V.ref p.1, PyData.tuple (p.2.map .int)) : V × PyData), ∃ ns : List Int, p.2 = .tuple (ns.map .int) ∧ ns ≠ [] := fun p hp => by
    obtain ⟨z, hz, rfl⟩ := List.mem_map.mp hp
    exact ⟨z.2, rfl, ne z hz⟩
  refine sortLD e1 hu pins s σ H _ us Q I r ⟨a, L.map fun p => (V.ref p.1, .tuple (p.2.map .int)), rfl, by rw [el]; exact hs, fun p hp => ?_, alike_tups fun p hp => (tp p hp).imp fun _ z => z.1, sortable_tups tp, fun p hp => ?_, fun L1 p pm pw np => ?_⟩
  · obtain ⟨z, hz, rfl⟩ := List.mem_map.mp hp
    exact dp_tup (hk z hz)
  · obtain ⟨z, hz, rfl⟩ := List.mem_map.mp hp
    show PyData.depthAll (z.2.map PyData.int) + 1 ≤ 7
    rw [W.depth_ints]
    decide
  · let dec : V × PyData → Addr × List Int := fun p => (match p.1 with | .ref a => a | _ => 0, match p.2 with | .tuple ds => ds.map (fun d => match d with | .int i => i | _ => 0) | _ => [])
    have de : ∀ z : Addr × List Int, dec (V.ref z.1, PyData.tuple (z.2.map .int)) = z := fun z => by
      show (z.1, (z.2.map PyData.int).map _) = z
      rw [List.map_map]
      exact Prod.ext rfl (List.map_id _)
    have e2 : L1 = (L1.map dec).map fun p => ((V.ref p.1, PyData.tuple (p.2.map .int)) : V × PyData) := by
      rw [List.map_map]
      refine (List.map_id L1).symm.trans (List.map_congr_left fun p hp => ?_)
      obtain ⟨z, hz, rfl⟩ := List.mem_map.mp (pm.mem_iff.mp hp)
      show _ = (V.ref (dec (V.ref z.1, PyData.tuple (z.2.map .int))).1, PyData.tuple ((dec (V.ref z.1, PyData.tuple (z.2.map .int))).2.map .int))
      rw [de]
      rfl
    have pm2 : (L1.map dec).Perm L := by
      have z := pm.map dec
      rw [List.map_map, show (dec ∘ fun p : Addr × List Int => ((V.ref p.1, PyData.tuple (p.2.map .int)) : V × PyData)) = id from funext de, List.map_id] at z
      exact z
    have e3 : L1.map (·.1) = (L1.map dec).map fun p => V.ref p.1 := by
      conv => lhs; rw [e2]
      simp only [List.map_map]
      rfl
    rw [e3]
    refine q (L1.map dec) p pm2 ?_ np
    rw [e2] at pw
    refine (List.pairwise_map.mp pw).imp fun {a b} h => ?_
    have z := le_tups (p := (V.ref a.1, PyData.tuple (a.2.map .int))) (q := (V.ref b.1, PyData.tuple (b.2.map .int))) rfl rfl
    rw [show W.dataLe false (fun p : V × PyData => p.2) (V.ref a.1, PyData.tuple (a.2.map .int)) (V.ref b.1, PyData.tuple (b.2.map .int)) = true from h] at z
    intro lt
    rw [decide_eq_true lt] at z
    cases z
end Hn

set_option maxHeartbeats 4000000
/-! d in t, t a tuple of data -/
namespace Hn
open PySem PySem.Spec PyProof.Rows L2 EF
open PySem.W (Frag keepIn)
def rInT (K : Frag) : R2 := fun x y H Q => ∃ d ds, Dp K H x d ∧ Dp K H y (.tuple ds) ∧ SeqAt.shaped d = true ∧ SeqAt.shaped (.tuple ds) = true ∧ Q (.bl (ds.any fun z => PyData.eqv z d)) H
theorem op_inT {X : Cx} {K : Frag} (e : X.K = K) (hu : X.A.units + 65 < cLine) : OpR X (compareOp .In) (rInT K) := by
  subst e
  rintro pins s σ H x y v u Q I rx ry ⟨d, ds, hd, he, sd, se, q⟩
  obtain ⟨_, r1⟩ := Dp.reads I d x v hd rx
  obtain ⟨_, r2⟩ := Dp.reads I (.tuple ds) y u he ry
  exact SeqAt.in_tuple_reads r2 r1 (SeqAt.canLay_of_shaped se) (SeqAt.canLay_of_shaped sd) (room_in_shaped sd hu) ⟨.bl _, H, I, rfl, q⟩
theorem op_inL {X : Cx} {K : Frag} (e : X.K = K) (hu : X.A.units + 65 < cLine) : OpR X (compareOp .In) (rInD K) := by
  subst e
  exact op_inD hu
theorem op_eqL {X : Cx} {K : Frag} (e : X.K = K) (hu : X.A.units + 64 < cLine) : OpR X (compareOp .Eq) (rEqD K) := by
  subst e
  exact op_eqD hu
def rNotInT (K : Frag) : R2 := fun x y H Q => ∃ d ds, Dp K H x d ∧ Dp K H y (.tuple ds) ∧ SeqAt.shaped d = true ∧ SeqAt.shaped (.tuple ds) = true ∧ Q (.bl (!ds.any fun z => PyData.eqv z d)) H
theorem op_notInT {X : Cx} {K : Frag} (e : X.K = K) (hu : X.A.units + 65 < cLine) : OpR X (compareOp .NotIn) (rNotInT K) := by
  subst e
  rintro pins s σ H x y v u Q I rx ry ⟨d, ds, hd, he, sd, se, q⟩
  obtain ⟨_, r1⟩ := Dp.reads I d x v hd rx
  obtain ⟨_, r2⟩ := Dp.reads I (.tuple ds) y u he ry
  exact SeqAt.notIn_tuple_reads r2 r1 (SeqAt.canLay_of_shaped se) (SeqAt.canLay_of_shaped sd) (room_in_shaped sd hu) ⟨.bl _, H, I, rfl, q⟩
end Hn

set_option maxHeartbeats 4000000
/-! expressions: names, constants, operators, comparisons, tests, displays -/
namespace Pl
open PySem PySem.Spec PyProof.Rows L2 Hn
open PySem.W (Frag keepIn)
abbrev lim : Nat := 16000000
theorem lim_le {n : Nat} (h : n ≤ lim) : n ≤ sizeLine := Nat.le_trans h (by rw [sizeLine_eq]; decide)
theorem lim_lt {n : Nat} (h : n ≤ lim) : n < sizeLine := Nat.lt_of_le_of_lt h (by rw [sizeLine_eq]; decide)
@[irreducible] def guardR {α : Type} (c : Prop) [Decidable c] (r : R α) : R α := if c then r else .no
@[simp] theorem guardR_true {α : Type} {c : Prop} [Decidable c] {r : R α} (h : c) : guardR c r = r := by unfold guardR; exact if_pos h
theorem post_guard {α β : Type} {g : G} {W : WX} {σ : L2.St} {μ : Mu} {H : Hp} {Rp : Mu → Hp → α → β → Prop} {Q : β → Hp → Prop} {c : Prop} {_ : Decidable c} {r : R α} (h : PostG g W σ μ H Rp (guardR c r) Q) : c ∧ PostG g W σ μ H Rp r Q := by
  unfold guardR at h
  split at h
  · exact ⟨‹_›, h⟩
  · exact h.elim
/-- two rules for one operator -/
theorem orOp {X : Cx} {o : Value → Value → Sem Value} {r1 r2 : R2} (h1 : OpR X o r1) (h2 : OpR X o r2) : OpR X o (fun x y H Q => r1 x y H Q ∨ r2 x y H Q) := fun pins s σ H x y v u Q I rx ry h => h.elim (h1 pins s σ H x y v u Q I rx ry) (h2 pins s σ H x y v u Q I rx ry)
theorem orCall {X : Cx} {f : Value} {r1 r2 : List V → Hp → VK → Prop} (h1 : CallR X f r1) (h2 : CallR X f r2) : CallR X f (fun vs H Q => r1 vs H Q ∨ r2 vs H Q) := fun pins s σ H vs us Q I r h => h.elim (h1 pins s σ H vs us Q I r) (h2 pins s σ H vs us Q I r)
@[simp] def mV (i : Nat) (ρ : Env) (st : Sto) : R D := match ρ[i]? with
  | some (some d) => .ok d st
  | _ => .no
@[simp] def mC (d : D) (_ : Env) (st : Sto) : R D := .ok d st
@[simp] def mBin (mo : D → D → Sto → R D) (ma mb : Env → Sto → R D) (ρ : Env) (st : Sto) : R D := (ma ρ st).bind fun x st1 => (mb ρ st1).bind fun y st2 => mo x y st2
@[simp] def mUn (mo : D → Sto → R D) (ma : Env → Sto → R D) (ρ : Env) (st : Sto) : R D := (ma ρ st).bind fun x st1 => mo x st1
/-- the truth of a flag that is a value -/
@[simp] def blOf (d : D) (st : Sto) : R Bool := match d with
  | .bl b => .ok b st
  | _ => .no
@[simp] def mTst (m : Env → Sto → R D) (ρ : Env) (st : Sto) : R Bool := (m ρ st).bind blOf
@[simp] def mVal (m : Env → Sto → R Bool) (ρ : Env) (st : Sto) : R D := (m ρ st).bind fun b st1 => .ok (.bl b) st1
@[simp] def mAnd (ma mb : Env → Sto → R Bool) (ρ : Env) (st : Sto) : R Bool := (ma ρ st).bind fun b st1 => if b = true then mb ρ st1 else .ok false st1
@[simp] def mOr (ma mb : Env → Sto → R Bool) (ρ : Env) (st : Sto) : R Bool := (ma ρ st).bind fun b st1 => if b = true then .ok true st1 else mb ρ st1
@[simp] def mNot (ma : Env → Sto → R Bool) (ρ : Env) (st : Sto) : R Bool := (ma ρ st).bind fun b st1 => .ok (!b) st1
@[simp] def mAndV (ma mb : Env → Sto → R D) (ρ : Env) (st : Sto) : R D := (ma ρ st).bind fun x st1 => (blOf x st1).bind fun b st2 => if b = true then mb ρ st2 else .ok (.bl false) st2
@[simp] def mOrV (ma mb : Env → Sto → R D) (ρ : Env) (st : Sto) : R D := (ma ρ st).bind fun x st1 => (blOf x st1).bind fun b st2 => if b = true then .ok (.bl true) st2 else mb ρ st2
@[simp] def mNotV (ma : Env → Sto → R D) (ρ : Env) (st : Sto) : R D := (ma ρ st).bind fun x st1 => (blOf x st1).bind fun b st2 => .ok (.bl (!b)) st2
@[simp] def mIf (mt : Env → Sto → R Bool) (ma mb : Env → Sto → R D) (ρ : Env) (st : Sto) : R D := (mt ρ st).bind fun b st1 => if b = true then ma ρ st1 else mb ρ st1
@[simp] def mChain (mo mo' : D → D → Sto → R D) (ma mb mc : Env → Sto → R D) (ρ : Env) (st : Sto) : R D := (ma ρ st).bind fun x st1 => (mb ρ st1).bind fun y st2 => (mo x y st2).bind fun z st3 => (blOf z st3).bind fun b st4 =>
  if b = true then (mc ρ st4).bind fun w st5 => mo' y w st5 else .ok (.bl false) st4
@[simp] def mNil (_ : Env) (st : Sto) : R (List D) := .ok [] st
@[simp] def mCons (ma : Env → Sto → R D) (mr : Env → Sto → R (List D)) (ρ : Env) (st : Sto) : R (List D) := (ma ρ st).bind fun x st1 => (mr ρ st1).bind fun xs st2 => .ok (x :: xs) st2
/-- the items of a list, of a list or a tuple -/
def itemsL (st : Sto) : D → Option (List D)
  | .lst xs => some xs
  | .loc n => match st[n]? with
    | some (.lst xs) => some xs
    | _ => none
  | _ => none
def itemsR (st : Sto) : D → Option (List D)
  | .lst xs => some xs
  | .rol xs => some xs
  | .loc n => match st[n]? with
    | some (.lst xs) => some xs
    | _ => none
  | _ => none
def itemsS (st : Sto) : D → Option (List D)
  | .tup xs => some xs
  | d => itemsR st d
@[simp] theorem itemsL_lst {st : Sto} {xs : List D} : itemsL st (.lst xs) = some xs := rfl
@[simp] theorem itemsR_lst {st : Sto} {xs : List D} : itemsR st (.lst xs) = some xs := rfl
@[simp] theorem itemsR_rol {st : Sto} {xs : List D} : itemsR st (.rol xs) = some xs := rfl
@[simp] theorem itemsS_lst {st : Sto} {xs : List D} : itemsS st (.lst xs) = some xs := rfl
@[simp] theorem itemsS_rol {st : Sto} {xs : List D} : itemsS st (.rol xs) = some xs := rfl
@[simp] theorem itemsS_tup {st : Sto} {xs : List D} : itemsS st (.tup xs) = some xs := rfl
theorem itemsL_loc {st : Sto} {n : Nat} {xs : List D} (h : st[n]? = some (.lst xs)) : itemsL st (.loc n) = some xs := by simp only [itemsL, h]
theorem itemsR_loc {st : Sto} {n : Nat} {xs : List D} (h : st[n]? = some (.lst xs)) : itemsR st (.loc n) = some xs := by simp only [itemsR, h]
theorem itemsS_loc {st : Sto} {n : Nat} {xs : List D} (h : st[n]? = some (.lst xs)) : itemsS st (.loc n) = some xs := itemsR_loc h
def ofOpt {α β : Type} (o : Option α) (f : α → R β) : R β := match o with
  | some a => f a
  | none => .no
@[simp] theorem ofOpt_some {α β : Type} (a : α) (f : α → R β) : ofOpt (some a) f = f a := rfl
theorem post_opt {α β γ : Type} {g : G} {W : WX} {σ : L2.St} {μ : Mu} {H : Hp} {Rp : Mu → Hp → β → γ → Prop} {Q : γ → Hp → Prop} {o : Option α} {f : α → R β} (h : PostG g W σ μ H Rp (ofOpt o f) Q) : ∃ a, o = some a ∧ PostG g W σ μ H Rp (f a) Q := by
  cases o with
  | none => exact h.elim
  | some a => exact ⟨a, rfl, h⟩
@[simp] def mStar (ma : Env → Sto → R D) (mr : Env → Sto → R (List D)) (ρ : Env) (st : Sto) : R (List D) := (ma ρ st).bind fun x st1 => ofOpt (itemsS st1 x) fun ys => (mr ρ st1).bind fun xs st2 => .ok (ys ++ xs) st2
@[simp] def mTup (ms : Env → Sto → R (List D)) (ρ : Env) (st : Sto) : R D := (ms ρ st).bind fun xs st1 => guardR (xs.length ≤ lim) (.ok (.tup xs) st1)
@[simp] def mLst (ms : Env → Sto → R (List D)) (ρ : Env) (st : Sto) : R D := (ms ρ st).bind fun xs st1 => guardR (xs.length ≤ lim) (.ok (.lst xs) st1)
/-- a new list in the store -/
@[simp] def mLstM (ms : Env → Sto → R (List D)) (ρ : Env) (st : Sto) : R D := (ms ρ st).bind fun xs st1 => guardR (xs.length ≤ lim) (.ok (.loc st1.length) (st1 ++ [.lst xs]))
/-- an operator by data -/
def OM (g : G) (r : R2) (mo : D → D → Sto → R D) : Prop := ∀ (W : WX) (σ : L2.St) (μ : Mu) (H : Hp) (st : Sto) (x y : V) (dx dy : D) (Q : VK), RS g μ H st → RV g μ H dx x → RV g μ H dy y → PostG g W σ μ H (RV g) (mo dx dy st) Q → r x y H Q
def UM (g : G) (r : V → Hp → VK → Prop) (mo : D → Sto → R D) : Prop := ∀ (W : WX) (σ : L2.St) (μ : Mu) (H : Hp) (st : Sto) (x : V) (dx : D) (Q : VK), RS g μ H st → RV g μ H dx x → PostG g W σ μ H (RV g) (mo dx st) Q → r x H Q
theorem OM.or {g : G} {r1 r2 : R2} {m1 m2 : D → D → Sto → R D} (h1 : OM g r1 m1) (h2 : OM g r2 m2) (sel : D → D → Sto → Bool) : OM g (fun x y H Q => r1 x y H Q ∨ r2 x y H Q) (fun a b st => if sel a b st = true then m1 a b st else m2 a b st) := by
  intro W σ μ H st x y dx dy Q S rx ry p
  dsimp only at p
  split at p
  · exact .inl (h1 W σ μ H st x y dx dy Q S rx ry p)
  · exact .inr (h2 W σ μ H st x y dx dy Q S rx ry p)
/-- what an expression's answer says of its data -/
theorem RV.bl_of {g : G} {μ : Mu} {H : Hp} {b : Bool} {v : V} (h : RV g μ H (.bl b) v) : v = .bl b := h
section
variable {g : G} {W : WX} {X : Cx} {a b c : Expr} {ma mb mc : Env → Sto → R D} {pos : Pos} {σ : L2.St} {μ μ1 : Mu} {H H1 : Hp} {ρ : Env} {st : Sto}
theorem itemsL_at {d : D} {x : V} {xs : List D} (S : RS g μ H st) (h : RV g μ H d x) (e : itemsL st d = some xs) : ∃ a vs, x = .ref a ∧ H a = some (.lst vs) ∧ RVs g μ H xs vs := by
  cases d with
  | lst ys =>
    obtain ⟨a, vs, e1, q, r⟩ := h
    cases e
    exact ⟨a, vs, e1, q.2, r⟩
  | loc n =>
    obtain ⟨a, e1, q⟩ := h
    unfold itemsL at e
    simp only at e
    split at e
    · rename_i ys e2
      cases e
      obtain ⟨vs, e3, r⟩ := S.at_ n _ a e2 q
      exact ⟨a, vs, e1, e3, r⟩
    · cases e
  | _ => cases e
theorem itemsR_at {d : D} {x : V} {xs : List D} (S : RS g μ H st) (h : RV g μ H d x) (e : itemsR st d = some xs) : ∃ a vs, x = .ref a ∧ SqL g.K H a vs ∧ RVs g μ H xs vs := by
  cases d with
  | lst ys =>
    obtain ⟨a, vs, e1, q, r⟩ := h
    cases e
    exact ⟨a, vs, e1, SqL.of q.2, r⟩
  | rol ys =>
    obtain ⟨a, vs, e1, q, r⟩ := h
    cases e
    exact ⟨a, vs, e1, sqL_of q, r⟩
  | loc n =>
    obtain ⟨a, e1, q⟩ := h
    unfold itemsR at e
    simp only at e
    split at e
    · rename_i ys e2
      cases e
      obtain ⟨vs, e3, r⟩ := S.at_ n _ a e2 q
      exact ⟨a, vs, e1, SqL.of e3, r⟩
    · cases e
  | _ => cases e
theorem itemsS_at {d : D} {x : V} {xs : List D} (S : RS g μ H st) (h : RV g μ H d x) (e : itemsS st d = some xs) : ∃ a vs, x = .ref a ∧ (SqT g.K H a vs ∨ SqL g.K H a vs) ∧ RVs g μ H xs vs := by
  cases d with
  | tup ys =>
    obtain ⟨a, vs, e1, q, r⟩ := h
    cases e
    exact ⟨a, vs, e1, .inl (SqT.of q.2), r⟩
  | lst ys => obtain ⟨a, vs, h1, h2, h3⟩ := itemsR_at S h e; exact ⟨a, vs, h1, .inr h2, h3⟩
  | rol ys => obtain ⟨a, vs, h1, h2, h3⟩ := itemsR_at S h e; exact ⟨a, vs, h1, .inr h2, h3⟩
  | loc ys => obtain ⟨a, vs, h1, h2, h3⟩ := itemsR_at S h e; exact ⟨a, vs, h1, .inr h2, h3⟩
  | _ => cases e
theorem pm_v {i : Nat} (h : PE X a (tVar i)) : PM g W X a (mV i) := h.imp fun σ H Q ⟨μ, ρ, st, rel, p⟩ => by
  unfold mV at p
  split at p
  · rename_i d e
    obtain ⟨v, h1, h2⟩ := rel.slot i d e
    exact ⟨v, h1, p.now rel.sto h2⟩
  · exact p.elim
theorem pm_c {v : V} (d : D) (h : PE X a (tC v)) (r : ∀ μ H, RV g μ H d v) : PM g W X a (mC d) := h.imp fun σ H Q ⟨μ, ρ, st, rel, p⟩ => p.now rel.sto (r μ H)
theorem pm_bin {op : Operator} {r : R2} {mo : D → D → Sto → R D} (ho : OpR X (binaryOp op) r) (hm : OM g r mo) (ha : PM g W X a ma) (hb : PM g W X b mb) : PM g W X (.BinOp a op b pos) (mBin mo ma mb) :=
  (pe_op ho ha hb).imp fun σ H Q ⟨μ, ρ, st, rel, p⟩ => tG_bind rel p fun μ1 dx st1 x H1 go1 rel1 rv1 p1 => tG_bind rel1 p1 fun μ2 dy st2 y H2 go2 rel2 rv2 p2 => hm W σ μ2 H2 st2 x y dx dy Q rel2.sto (rv1.go go2) rv2 p2
theorem pm_un {op : UnaryOp} {r : V → Hp → VK → Prop} {mo : D → Sto → R D} (ho : UnR X (unaryOp op) r) (hm : UM g r mo) (ha : PM g W X a ma) : PM g W X (.UnaryOp op a pos) (mUn mo ma) :=
  (pe_un ho ha).imp fun σ H Q ⟨μ, ρ, st, rel, p⟩ => tG_bind rel p fun μ1 dx st1 x H1 go1 rel1 rv1 p1 => hm W σ μ1 H1 st1 x dx Q rel1.sto rv1 p1
theorem pm_cmp {op : CmpOp} {r : R2} {mo : D → D → Sto → R D} (ho : OpR X (compareOp op) r) (hm : OM g r mo) (ha : PM g W X a ma) (hb : PM g W X b mb) (hk : behindInMarks op b = false) : PM g W X (.Compare a [op] [b] pos) (mBin mo ma mb) :=
  (pe_cmpR ho ha hb hk).imp fun σ H Q ⟨μ, ρ, st, rel, p⟩ => tG_bind rel p fun μ1 dx st1 x H1 go1 rel1 rv1 p1 => tG_bind rel1 p1 fun μ2 dy st2 y H2 go2 rel2 rv2 p2 => hm W σ μ2 H2 st2 x y dx dy Q rel2.sto (rv1.go go2) rv2 p2
theorem post_bl {α β : Type} {Rp : Mu → Hp → α → β → Prop} {d : D} {k : Bool → Sto → R α} {Q : β → Hp → Prop} {st : Sto} (h : PostG g W σ μ H Rp ((blOf d st).bind k) Q) : ∃ b, d = .bl b ∧ PostG g W σ μ H Rp (k b st) Q := by
  cases d with
  | bl b => exact ⟨b, rfl, h⟩
  | _ => exact h.elim
theorem post_bl' {d : D} {P : Bool → Sto → Prop} {B : Er → Sto → Prop} {st : Sto} (h : (blOf d st).post P B) : ∃ b, d = .bl b ∧ P b st := by
  cases d with
  | bl b => exact ⟨b, rfl, h⟩
  | _ => exact h.elim
/-- a flag's value as a test -/
theorem tst_k {Q : Bool → Hp → Prop} {d : D} (S : RS g μ H st) (p : PostG g W σ μ H RB (blOf d st) Q) {v : V} (r : RV g μ H d v) : ∃ k, v = .bl k ∧ Q k H := by
  obtain ⟨b, rfl, q⟩ := post_bl' p
  exact ⟨b, r, q μ b H Go.refl S rfl⟩
theorem tst_fwd {r : R D} {Q : Bool → Hp → Prop} (p : PostG g W σ μ H RB (r.bind blOf) Q) : PostG g W σ μ H (RV g) r fun v H' => ∃ k, v = .bl k ∧ Q k H' := by
  refine R.post_mono (R.post_bind p) (fun d st' q μ' v H' go S rv => ?_) fun _ _ q => q
  obtain ⟨b, rfl, q⟩ := post_bl' q
  exact ⟨b, rv, q μ' b H' go S rfl⟩
theorem pmt_cmp {op : CmpOp} {r : R2} {mo : D → D → Sto → R D} (ho : OpR X (compareOp op) r) (hm : OM g r mo) (ha : PM g W X a ma) (hb : PM g W X b mb) (hk : behindInMarks op b = false) : PMT g W X (.Compare a [op] [b] pos) (mTst (mBin mo ma mb)) :=
  (pt_cmpR ho ha hb hk).imp fun σ H Q ⟨μ, ρ, st, rel, p⟩ => tG_bind rel (tst_fwd p) fun μ1 dx st1 x H1 go1 rel1 rv1 p1 => tG_bind rel1 p1 fun μ2 dy st2 y H2 go2 rel2 rv2 p2 => hm W σ μ2 H2 st2 x y dx dy _ rel2.sto (rv1.go go2) rv2 p2
theorem chain_k {r r' : R2} {mo mo' : D → D → Sto → R D} (hm : OM g r mo) (hm' : OM g r' mo') {Q : VK} (rel : Rel g μ σ H ρ st) (p : PostG g W σ μ H (RV g) (mChain mo mo' ma mb mc ρ st) Q) : tChain r r' (tOf g W ma) (tOf g W mb) (tOf g W mc) σ H Q :=
  tG_bind rel p fun μ1 dx st1 x H1 go1 rel1 rv1 p1 => tG_bind rel1 p1 fun μ2 dy st2 y H2 go2 rel2 rv2 p2 => by
    refine hm W σ μ2 H2 st2 x y dx dy _ rel2.sto (rv1.go go2) rv2 (R.post_mono (R.post_bind p2) (fun d st3 q μ3 v H3 go3 S3 rv3 => ?_) fun _ _ q => q)
    obtain ⟨k, rfl, q⟩ := post_bl (g := g) (W := W) (σ := σ) (μ := μ2) (H := H2) (Rp := RV g) (Q := Q) (k := fun b st4 => if b = true then (mc ρ st4).bind fun w st5 => mo' dy w st5 else .ok (.bl false) st4) q
    refine ⟨k, rv3, ?_⟩
    cases k with
    | true =>
      exact tG_bind (rel2.go go3 S3) (PostG.base go3 (show PostG g W σ μ2 H2 (RV g) ((mc ρ st3).bind fun w st5 => mo' dy w st5) Q from q)) fun μ4 dw st4 w H4 go4 rel4 rv4 p4 =>
        hm' W σ μ4 H4 st4 y w dy dw Q rel4.sto ((rv2.go go3).go go4) rv4 p4
    | false => exact PostG.done (show PostG g W σ μ2 H2 (RV g) (.ok (.bl false) st3) Q from q) go3 S3 rfl
theorem pm_chain {op op' : CmpOp} {r r' : R2} {mo mo' : D → D → Sto → R D} (ho : OpR X (compareOp op) r) (hm : OM g r mo) (ho' : OpR X (compareOp op') r') (hm' : OM g r' mo') (ha : PM g W X a ma) (hb : PM g W X b mb) (hc : PM g W X c mc)
    (hk : lastMarks [op, op'] [b, c] = false := by with_unfolding_all rfl) : PM g W X (.Compare a [op, op'] [b, c] pos) (mChain mo mo' ma mb mc) :=
  (pe_chain ho ho' ha hb hc hk).imp fun σ H Q ⟨μ, ρ, st, rel, p⟩ => chain_k hm hm' rel p
theorem pmt_chain {op op' : CmpOp} {r r' : R2} {mo mo' : D → D → Sto → R D} (ho : OpR X (compareOp op) r) (hm : OM g r mo) (ho' : OpR X (compareOp op') r') (hm' : OM g r' mo') (ha : PM g W X a ma) (hb : PM g W X b mb) (hc : PM g W X c mc)
    (hk : lastMarks [op, op'] [b, c] = false := by with_unfolding_all rfl) : PMT g W X (.Compare a [op, op'] [b, c] pos) (mTst (mChain mo mo' ma mb mc)) :=
  (pt_chain ho ho' ha hb hc hk).imp fun σ H Q ⟨μ, ρ, st, rel, p⟩ => chain_k hm hm' rel (tst_fwd p)
variable {mt mu : Env → Sto → R Bool} {rest : List Expr}
theorem pmt_val (h : PM g W X a ma) (he : ∀ whole, isTrue a X.env whole = (do let v ← whole; standAt a.pos; holding [v] (truthy v)) := by intro _; rfl) : PMT g W X a (mTst ma) :=
  (pt_val h he).imp fun σ H Q ⟨μ, ρ, st, rel, p⟩ => ⟨μ, ρ, st, rel, tst_fwd p⟩
theorem pmw_and1 (h : PMT g W X a mt) : PMW g W X (.BoolOp .And [a] pos) mt := pw_and1 h
theorem pmw_or1 (h : PMT g W X a mt) : PMW g W X (.BoolOp .Or [a] pos) mt := pw_or1 h
theorem tT_bind {m : Env → Sto → R Bool} {k : Bool → Sto → R Bool} {Q : Bool → Hp → Prop} {Kt : Bool → Hp → Prop} (rel : Rel g μ σ H ρ st) (p : PostG g W σ μ H RB ((m ρ st).bind k) Q)
    (c : ∀ μ1 b st1 H1, Go μ H μ1 H1 → Rel g μ1 σ H1 ρ st1 → PostG g W σ μ1 H1 RB (k b st1) Q → Kt b H1) : tTOf g W m σ H Kt :=
  tG_bind (Rp := RB) rel p fun μ1 b st1 b' H1 go rel1 e p1 => by cases (show b' = b from e); exact c μ1 b st1 H1 go rel1 p1
theorem pmw_and (ha : PMT g W X a mt) (hb : PMW g W X (.BoolOp .And (b :: rest) pos) mu) : PMW g W X (.BoolOp .And (a :: b :: rest) pos) (mAnd mt mu) :=
  (pw_and ha hb).imp fun σ H Q ⟨μ, ρ, st, rel, p⟩ => tT_bind rel p fun μ1 k st1 H1 go rel1 p1 => by
    cases k with
    | true => exact ⟨μ1, ρ, st1, rel1, p1⟩
    | false => exact PostG.now (show PostG g W σ μ1 H1 RB (.ok false st1) Q from p1) rel1.sto rfl
theorem pmw_or (ha : PMT g W X a mt) (hb : PMW g W X (.BoolOp .Or (b :: rest) pos) mu) : PMW g W X (.BoolOp .Or (a :: b :: rest) pos) (mOr mt mu) :=
  (pw_or ha hb).imp fun σ H Q ⟨μ, ρ, st, rel, p⟩ => tT_bind rel p fun μ1 k st1 H1 go rel1 p1 => by
    cases k with
    | true => exact PostG.now (show PostG g W σ μ1 H1 RB (.ok true st1) Q from p1) rel1.sto rfl
    | false => exact ⟨μ1, ρ, st1, rel1, p1⟩
theorem pmt_w (h : PMW g W X a mt) : PMT g W X a mt := h.pt
theorem pmt_not (ha : PMT g W X a mt) : PMT g W X (.UnaryOp .Not a pos) (mNot mt) :=
  (pt_not ha).imp fun σ H Q ⟨μ, ρ, st, rel, p⟩ => tT_bind rel p fun μ1 k st1 H1 go rel1 p1 => PostG.now (show PostG g W σ μ1 H1 RB (.ok (!k) st1) Q from p1) rel1.sto rfl
theorem pm_one {op} (h : PM g W X a ma) : PM g W X (.BoolOp op [a] pos) ma := pe_one h
theorem pm_and (ha : PM g W X a ma) (hb : PM g W X (.BoolOp .And (b :: rest) pos) mb) : PM g W X (.BoolOp .And (a :: b :: rest) pos) (mAndV ma mb) :=
  (pe_and ha hb).imp fun σ H Q ⟨μ, ρ, st, rel, p⟩ => tG_bind rel p fun μ1 dx st1 x H1 go1 rel1 rv1 p1 => by
    obtain ⟨k, rfl, q⟩ := post_bl p1
    refine ⟨k, rv1, ?_⟩
    cases k with
    | true => exact ⟨μ1, ρ, st1, rel1, q⟩
    | false => exact PostG.now (show PostG g W σ μ1 H1 (RV g) (.ok (.bl false) st1) Q from q) rel1.sto rfl
theorem pm_or (ha : PM g W X a ma) (hb : PM g W X (.BoolOp .Or (b :: rest) pos) mb) : PM g W X (.BoolOp .Or (a :: b :: rest) pos) (mOrV ma mb) :=
  (pe_or ha hb).imp fun σ H Q ⟨μ, ρ, st, rel, p⟩ => tG_bind rel p fun μ1 dx st1 x H1 go1 rel1 rv1 p1 => by
    obtain ⟨k, rfl, q⟩ := post_bl p1
    refine ⟨k, rv1, ?_⟩
    cases k with
    | false => exact ⟨μ1, ρ, st1, rel1, q⟩
    | true => exact PostG.now (show PostG g W σ μ1 H1 (RV g) (.ok (.bl true) st1) Q from q) rel1.sto rfl
theorem pm_not (ha : PM g W X a ma) : PM g W X (.UnaryOp .Not a pos) (mNotV ma) :=
  (pe_not ha).imp fun σ H Q ⟨μ, ρ, st, rel, p⟩ => tG_bind rel p fun μ1 dx st1 x H1 go1 rel1 rv1 p1 => by
    obtain ⟨k, rfl, q⟩ := post_bl p1
    exact ⟨k, rv1, PostG.now (show PostG g W σ μ1 H1 (RV g) (.ok (.bl (!k)) st1) Q from q) rel1.sto rfl⟩
theorem pm_if (ht : PMT g W X c mt) (ha : PM g W X a ma) (hb : PM g W X b mb) : PM g W X (.IfExp c a b pos) (mIf mt ma mb) :=
  (pe_ifExp ht ha hb).imp fun σ H Q ⟨μ, ρ, st, rel, p⟩ => tG_bind (Rp := RB) rel p fun μ1 k st1 k' H1 go rel1 e p1 => by
    cases (show k' = k from e)
    cases k with
    | true => exact ⟨μ1, ρ, st1, rel1, p1⟩
    | false => exact ⟨μ1, ρ, st1, rel1, p1⟩
variable {es : List Expr} {ms : Env → Sto → R (List D)} {sp : Pos}
theorem pma_nil : PMA g W X [] mNil := pa_nil.imp fun σ H Q ⟨μ, ρ, st, rel, p⟩ => PostG.now p rel.sto rfl
theorem pma_cons (ha : PM g W X a ma) (hr : PMA g W X es ms) (hs : starEach (a :: es) X.env = (false, eval a X.env) :: starEach es X.env := by rfl) : PMA g W X (a :: es) (mCons ma ms) :=
  (pa_cons ha hr hs).imp fun σ H Q ⟨μ, ρ, st, rel, p⟩ => tG_bind rel p fun μ1 dx st1 x H1 go1 rel1 rv1 p1 => tG_bind rel1 p1 fun μ2 ds st2 xs H2 go2 rel2 rv2 p2 => PostG.now p2 rel2.sto (.cons (rv1.go go2) rv2)
theorem pma_star (hK : X.K = g.K) (ha : PM g W X a ma) (hr : PMA g W X es ms) (hs : starEach (.Starred a sp :: es) X.env = (true, eval a X.env) :: starEach es X.env := by rfl) : PMA g W X (.Starred a sp :: es) (mStar ma ms) :=
  (StX.pa_star ha hr hs).imp fun σ H Q ⟨μ, ρ, st, rel, p⟩ => tG_bind rel p fun μ1 dx st1 x H1 go1 rel1 rv1 p1 => by
    obtain ⟨ys, e, q⟩ := post_opt p1
    obtain ⟨l, vs, rfl, hl, r⟩ := itemsS_at rel1.sto rv1 e
    rw [hK]
    exact ⟨l, vs, rfl, hl, tG_bind rel1 q fun μ2 ds st2 xs H2 go2 rel2 rv2 p2 => PostG.now p2 rel2.sto ((r.go go2).app rv2)⟩
theorem pm_tup {x1} (h : PMA g W X es ms) : PM g W X (.Tuple es x1 pos) (mTup ms) :=
  (pe_tup h).imp fun σ H Q ⟨μ, ρ, st, rel, p⟩ => tG_bind rel p fun μ1 ds st1 xs H1 go1 rel1 rv1 p1 => by
    obtain ⟨hl, q⟩ := post_guard p1
    exact ⟨by rw [rv1.length]; exact lim_le hl, fun t ht => PostG.done q (Go.side rel1.sto ht) (rel1.sto.side ht) ⟨t, xs, rfl, ⟨rel1.sto.off ht, upd_same⟩, rv1.go (Go.side rel1.sto ht)⟩⟩
theorem pm_lst (h : PMA g W X es ms) : PM g W X (.List es pos) (mLst ms) :=
  (pe_lst h).imp fun σ H Q ⟨μ, ρ, st, rel, p⟩ => tG_bind rel p fun μ1 ds st1 xs H1 go1 rel1 rv1 p1 => by
    obtain ⟨hl, q⟩ := post_guard p1
    exact ⟨by rw [rv1.length]; exact lim_le hl, fun t ht => PostG.done q (Go.side rel1.sto ht) (rel1.sto.side ht) ⟨t, xs, rfl, ⟨rel1.sto.off ht, upd_same⟩, rv1.go (Go.side rel1.sto ht)⟩⟩
theorem pm_lstM (h : PMA g W X es ms) : PM g W X (.List es pos) (mLstM ms) :=
  (pe_lst h).imp fun σ H Q ⟨μ, ρ, st, rel, p⟩ => tG_bind rel p fun μ1 ds st1 xs H1 go1 rel1 rv1 p1 => by
    obtain ⟨hl, q⟩ := post_guard p1
    exact ⟨by rw [rv1.length]; exact lim_le hl, fun t ht => PostG.done q (Go.push ht) (rel1.sto.push ht ⟨xs, upd_same, rv1.go (Go.push ht)⟩) ⟨t, rfl, at_push rel1.sto⟩⟩
end
end Pl

set_option maxHeartbeats 4000000
/-! operators by data -/
namespace Pl
open PySem PySem.Spec PyProof.Rows L2 Hn
open PySem.W (Frag keepIn)
mutual
/-- as data without numbers of the store -/
def toP : D → Option PyData
  | .non => some .none
  | .bl b => some (.bool b)
  | .int i => some (.int i)
  | .str s => some (.str s)
  | .tup xs => match toPs xs with
    | some ps => some (.tuple ps)
    | none => none
  | .lst xs => match toPs xs with
    | some ps => some (.list ps)
    | none => none
  | _ => none
def toPs : List D → Option (List PyData)
  | [] => some []
  | d :: ds => match toP d, toPs ds with
    | some p, some ps => some (p :: ps)
    | _, _ => none
end
def toQ (st : Sto) : D → Option PyData
  | .loc n => match st[n]? with
    | some (.lst xs) => match toPs xs with
      | some ps => some (.list ps)
      | none => none
    | _ => none
  | d => toP d
def dkey : D → Option Key
  | .int i => some (.inl i)
  | .str s => some (.inr s)
  | _ => none
def dkeys : List D → Option (List Key)
  | [] => some []
  | d :: ds => match dkey d, dkeys ds with
    | some k, some ks => some (k :: ks)
    | _, _ => none
def tkey : D → Option (List Key)
  | .tup xs => dkeys xs
  | _ => none
def getK {κ : Type} [DecidableEq κ] (kvs : List (κ × D)) (k : κ) : Option D := (kvs.find? fun kv => decide (kv.1 = k)).map (·.2)
/-- what a dict says of a key -/
def dlook (st : Sto) (d k : D) : Option (Option D) :=
  match d with
  | .loc n => match st[n]? with
    | some (.dct kvs) => match dkey k with
      | some k => some (getK kvs k)
      | none => none
    | some (.dcT kvs) => match tkey k with
      | some k => some (getK kvs k)
      | none => none
    | _ => none
  | .dct ks vs => match dkey k with
    | some k => some (getK (ks.zip vs) k)
    | none => none
  | _ => none
/-- is it a dict -/
def isDct (st : Sto) : D → Bool
  | .loc n => match st[n]? with
    | some (.dct _) => true
    | some (.dcT _) => true
    | _ => false
  | .dct _ _ => true
  | _ => false
section
variable {g : G} {W : WX} {X : Cx} {σ : L2.St} {μ μ1 : Mu} {H H1 : Hp} {ρ : Env} {st : Sto}
mutual
theorem toP_dp : ∀ {d : D} {x : V} {p : PyData}, RV g μ H d x → toP d = some p → Dp g.K H x p
  | .non, _, _, h, e => by cases e; cases (show _ = V.non from h); exact .non
  | .bl b, _, _, h, e => by cases e; cases (show _ = V.bl b from h); exact .bl b
  | .int i, _, _, h, e => by cases e; cases (show _ = V.int i from h); exact .int i
  | .str s, _, _, h, e => by cases e; cases (show _ = V.str s from h); exact .str s
  | .tup xs, _, _, h, e => by
    obtain ⟨a, vs, rfl, q, r⟩ := h
    unfold toP at e
    split at e
    · rename_i ps e2
      cases e
      exact .tup (SqT.of q.2) (toPs_dp r e2)
    · cases e
  | .lst xs, _, _, h, e => by
    obtain ⟨a, vs, rfl, q, r⟩ := h
    unfold toP at e
    split at e
    · rename_i ps e2
      cases e
      exact .lst (SqL.of q.2) (toPs_dp r e2)
    · cases e
  | .rol xs, _, _, h, e => by cases e
  | .dct _ _, _, _, h, e => by cases e
  | .loc _, _, _, h, e => by cases e
  | .nam _, _, _, h, e => by cases e
  | .err _ _, _, _, h, e => by cases e
theorem toPs_dp : ∀ {ds : List D} {xs : List V} {ps : List PyData}, RVs g μ H ds xs → toPs ds = some ps → DpAll g.K H xs ps
  | [], _, _, h, e => by
    rw [show _ = [] from h]
    cases e
    exact .nil
  | d :: ds, _, _, h, e => by
    obtain ⟨v, r, rfl, h1, h2⟩ := h
    unfold toPs at e
    split at e
    · rename_i p ps e1 e2
      cases e
      exact .cons (toP_dp h1 e1) (toPs_dp h2 e2)
    · cases e
end
theorem toQ_dp {d : D} {x : V} {p : PyData} (S : RS g μ H st) (h : RV g μ H d x) (e : toQ st d = some p) : Dp g.K H x p := by
  cases d with
  | loc n =>
    obtain ⟨a, rfl, q⟩ := h
    unfold toQ at e
    simp only at e
    split at e
    · rename_i ys e2
      split at e
      · rename_i ps e3
        cases e
        obtain ⟨vs, e4, r⟩ := S.at_ n _ a e2 q
        exact .lst (SqL.of e4) (toPs_dp r e3)
      · cases e
    · cases e
  | _ => exact toP_dp h e
theorem dkey_at {d : D} {x : V} {k : Key} (h : RV g μ H d x) (e : dkey d = some k) : x = kV k := by
  cases d with
  | int i => cases e; exact h
  | str s => cases e; exact h
  | _ => cases e
theorem dkeys_at : ∀ {ds : List D} {xs : List V} {ks : List Key}, RVs g μ H ds xs → dkeys ds = some ks → xs = ks.map kV
  | [], _, _, h, e => by cases e; exact h
  | d :: ds, _, _, h, e => by
    obtain ⟨v, r, rfl, h1, h2⟩ := h
    unfold dkeys at e
    split at e
    · rename_i k ks e1 e2
      cases e
      rw [dkey_at h1 e1, dkeys_at h2 e2]
      rfl
    · cases e
theorem tkey_at {d : D} {x : V} {k : List Key} (h : RV g μ H d x) (e : tkey d = some k) : ∃ b, x = .ref b ∧ μ.off b ∧ H b = some (.tup (k.map kV)) := by
  cases d with
  | tup xs =>
    obtain ⟨a, vs, rfl, q, r⟩ := h
    exact ⟨a, rfl, q.1, by rw [← dkeys_at r e]; exact q.2⟩
  | _ => cases e
def RO (g : G) (μ : Mu) (H : Hp) : Option D → Option V → Prop
  | some d, some v => RV g μ H d v
  | none, none => True
  | _, _ => False
theorem getK_at {κ : Type} [DecidableEq κ] (k : κ) : ∀ {ps : List (κ × D)} {kvs : List (κ × V)}, kvs.map (·.1) = ps.map (·.1) → RVs g μ H (ps.map (·.2)) (kvs.map (·.2)) → RO g μ H (getK ps k) (valV kvs k)
  | [], [], _, _ => True.intro
  | [], _ :: _, e, _ => by cases e
  | _ :: _, [], e, _ => by cases e
  | p :: ps, q :: kvs, e, r => by
    rw [List.map_cons, List.map_cons] at e
    injection e with e1 e2
    obtain ⟨v, r', e3, h1, h2⟩ := r
    rw [List.map_cons] at e3
    injection e3 with e4 e5
    by_cases h : p.1 = k
    · rw [valV_pos (e1.trans h)]
      unfold getK
      rw [List.find?_cons, decide_eq_true h]
      show RV g μ H p.2 q.2
      rw [e4]
      exact h1
    · rw [valV_neg (fun z => h (e1.symm.trans z))]
      unfold getK
      rw [List.find?_cons, decide_eq_false h]
      exact getK_at k e2 (by rw [← e5] at h2; exact h2)
theorem zip_fst {ks : List Key} {vs : List D} (h : ks.length = vs.length) : (ks.zip vs).map (·.1) = ks := List.map_fst_zip (by omega)
theorem zip_snd {ks : List Key} {vs : List D} (h : ks.length = vs.length) : (ks.zip vs).map (·.2) = vs := List.map_snd_zip (by omega)
theorem dlook_at {d k : D} {x y : V} {o : Option D} (S : RS g μ H st) (hx : RV g μ H d x) (hy : RV g μ H k y) (e : dlook st d k = some o) : ∃ a ov, x = .ref a ∧ DGet H a y ov ∧ RO g μ H o ov := by
  cases d with
  | loc n =>
    obtain ⟨a, rfl, q⟩ := hx
    unfold dlook at e
    simp only at e
    split at e
    · rename_i kvs e2
      split at e
      · rename_i k' e3
        cases e
        obtain ⟨vs, e4, e5, r⟩ := S.at_ n _ a e2 q
        rw [dkey_at hy e3]
        exact ⟨a, _, rfl, DGet.k e4, getK_at k' e5 r⟩
      · cases e
    · rename_i kvs e2
      split at e
      · rename_i k' e3
        cases e
        obtain ⟨vs, e4, e5, r⟩ := S.at_ n _ a e2 q
        obtain ⟨b, rfl, nb, eb⟩ := tkey_at hy e3
        exact ⟨a, _, rfl, DGet.t e4 eb, getK_at k' e5 r⟩
      · cases e
    · cases e
  | dct ks vs =>
    obtain ⟨a, kvs, rfl, q, e5, r⟩ := hx
    unfold dlook at e
    simp only at e
    split at e
    · rename_i k' e3
      cases e
      rw [dkey_at hy e3]
      have hl : ks.length = vs.length := by
        rw [← e5, List.length_map]
        have := r.length
        rw [List.length_map] at this
        exact this
      exact ⟨a, _, rfl, DGet.k q.2, getK_at k' (by rw [zip_fst hl]; exact e5) (by rw [zip_snd hl]; exact r)⟩
    · cases e
  | _ => cases e
end
/-! ### arithmetic -/
def addD (a b : D) (st : Sto) : R D := match a with
  | .int i => match b with
    | .int j => .ok (.int (i + j)) st
    | _ => .no
  | .str s => match b with
    | .str t => guardR (s.length + t.length ≤ lim) (.ok (.str (s ++ t)) st)
    | _ => .no
  | .tup xs => match b with
    | .tup ys => guardR (xs.length + ys.length ≤ lim) (.ok (.tup (xs ++ ys)) st)
    | _ => .no
  | a => ofOpt (itemsL st a) fun xs => ofOpt (itemsL st b) fun ys => guardR (xs.length + ys.length ≤ lim) (.ok (.lst (xs ++ ys)) st)
@[simp] theorem addD_int {i j : Int} {st : Sto} : addD (.int i) (.int j) st = .ok (.int (i + j)) st := rfl
@[simp] theorem addD_tup {xs ys : List D} {st : Sto} : addD (.tup xs) (.tup ys) st = guardR (xs.length + ys.length ≤ lim) (.ok (.tup (xs ++ ys)) st) := rfl
@[simp] theorem addD_lst {xs ys : List D} {st : Sto} : addD (.lst xs) (.lst ys) st = guardR (xs.length + ys.length ≤ lim) (.ok (.lst (xs ++ ys)) st) := rfl
@[simp] theorem addD_str {s t : Str} {st : Sto} : addD (.str s) (.str t) st = guardR (s.length + t.length ≤ lim) (.ok (.str (s ++ t)) st) := rfl
@[simp] def subD (a b : D) (st : Sto) : R D := match a, b with
  | .int i, .int j => .ok (.int (i - j)) st
  | _, _ => .no
abbrev b64 : Int := 18446744073709551616
abbrev mulOk (i j : Int) : Prop := (-b64 < i ∧ i < b64) ∨ (-b64 < j ∧ j < b64)
def mulD (a b : D) (st : Sto) : R D := match a with
  | .int i => match b with
    | .int j => guardR (mulOk i j) (.ok (.int (i * j)) st)
    | _ => .no
  | .tup xs => match b with
    | .int j => guardR ((0 < xs.length ∧ xs.length ≤ 1000) ∧ 2 ≤ j ∧ j ≤ 1000) (.ok (.tup (List.replicate j.toNat xs).flatten) st)
    | _ => .no
  | a => match b with
    | .int j => ofOpt (itemsL st a) fun xs => guardR (0 ≤ j ∧ j ≤ 1000 ∧ xs.length ≤ 1000) (.ok (.lst (List.replicate j.toNat xs).flatten) st)
    | _ => .no
@[simp] theorem mulD_int {i j : Int} {st : Sto} : mulD (.int i) (.int j) st = guardR (mulOk i j) (.ok (.int (i * j)) st) := rfl
@[simp] theorem mulD_lst {xs : List D} {j : Int} {st : Sto} : mulD (.lst xs) (.int j) st = guardR (0 ≤ j ∧ j ≤ 1000 ∧ xs.length ≤ 1000) (.ok (.lst (List.replicate j.toNat xs).flatten) st) := rfl
@[simp] theorem mulD_tup {xs : List D} {j : Int} {st : Sto} : mulD (.tup xs) (.int j) st = guardR ((0 < xs.length ∧ xs.length ≤ 1000) ∧ 2 ≤ j ∧ j ≤ 1000) (.ok (.tup (List.replicate j.toNat xs).flatten) st) := rfl
@[simp] def fdivD (a b : D) (st : Sto) : R D := match a, b with
  | .int i, .int j => guardR (0 < j ∧ j < 1073741824) (.ok (.int (i / j)) st)
  | _, _ => .no
@[simp] def modD (a b : D) (st : Sto) : R D := match a, b with
  | .int i, .int j => guardR (0 < j) (.ok (.int (i % j)) st)
  | _, _ => .no
@[simp] def powD (a b : D) (st : Sto) : R D := match a, b with
  | .int i, .int j => guardR (0 ≤ j ∧ j ≤ 1000000 ∧ i.natAbs < 18446744073709551616) (.ok (.int (i ^ j.toNat)) st)
  | _, _ => .no
@[simp] def negD (a : D) (st : Sto) : R D := match a with
  | .int i => .ok (.int (-i)) st
  | _ => .no
section
variable {g : G} {W : WX} {X : Cx} {σ : L2.St} {μ μ1 : Mu} {H H1 : Hp} {ρ : Env} {st : Sto}
/-- a new tuple, a new list as an answer -/
theorem new_tup {ds : List D} {vs : List V} {Q : VK} (S : RS g μ H st) (r : RVs g μ H ds vs) (p : PostG g W σ μ H (RV g) (.ok (.tup ds) st) Q) {t : Addr} (ht : H t = none) : Q (.ref t) (upd H t (.tup vs)) :=
  PostG.done p (Go.side S ht) (S.side ht) ⟨t, vs, rfl, ⟨S.off ht, upd_same⟩, r.go (Go.side S ht)⟩
theorem new_lst {ds : List D} {vs : List V} {Q : VK} (S : RS g μ H st) (r : RVs g μ H ds vs) (p : PostG g W σ μ H (RV g) (.ok (.lst ds) st) Q) {t : Addr} (ht : H t = none) : Q (.ref t) (upd H t (.lst vs)) :=
  PostG.done p (Go.side S ht) (S.side ht) ⟨t, vs, rfl, ⟨S.off ht, upd_same⟩, r.go (Go.side S ht)⟩
theorem new_lstM {ds : List D} {vs : List V} {Q : VK} (S : RS g μ H st) (r : RVs g μ H ds vs) (p : PostG g W σ μ H (RV g) (.ok (.loc st.length) (st ++ [.lst ds])) Q) {t : Addr} (ht : H t = none) : Q (.ref t) (upd H t (.lst vs)) :=
  PostG.done p (Go.push ht) (S.push ht ⟨vs, upd_same, r.go (Go.push ht)⟩) ⟨t, rfl, at_push S⟩
def rAdd (K : Frag) : R2 := fun x y H Q => (rI0 (fun i j => V.int (i + j)) x y H Q ∨ (∃ i j, x = .str i ∧ y = .str j ∧ i.length + j.length ≤ sizeLine ∧ Q (.str (i ++ j)) H)) ∨ (rCatA K x y H Q ∨ rCat x y H Q)
theorem op_addA (hK : X.K = g.K) : OpR X (binaryOp .Add) (rAdd g.K) := by
  rw [← hK]
  exact fun pins s σ H x y v u Q I rx ry h => by
    rcases h with (h | h) | (h | h)
    · exact op_add pins s σ H x y v u Q I rx ry h
    · exact op_add_str pins s σ H x y v u Q I rx ry h
    · exact op_catA pins s σ H x y v u Q I rx ry h
    · exact op_cat pins s σ H x y v u Q I rx ry h
theorem om_add : OM g (rAdd g.K) addD := by
  intro W σ μ H st x y dx dy Q S rx ry p
  unfold addD at p
  split at p
  · rename_i i
    split at p
    · rename_i j
      exact .inl (.inl ⟨i, j, rx, ry, p.now S rfl⟩)
    · exact p.elim
  · rename_i s
    split at p
    · rename_i t
      obtain ⟨hl, q⟩ := post_guard p
      exact .inl (.inr ⟨s, t, rx, ry, lim_le hl, PostG.now q S rfl⟩)
    · exact p.elim
  · rename_i xs
    split at p
    · rename_i ys
      obtain ⟨hl, q⟩ := post_guard p
      obtain ⟨a, vs, rfl, k1, r1⟩ := rx
      obtain ⟨b, ws, rfl, k2, r2⟩ := ry
      refine .inr (.inl ⟨a, b, vs, ws, rfl, rfl, SqT.of k1.2, SqT.of k2.2, by rw [r1.length, r2.length]; exact lim_le hl, fun e => ?_, fun _ e => ?_, fun _ _ t ht => new_tup S (r1.app r2) q ht⟩)
      · have l := r1.length
        rw [e] at l
        obtain rfl := List.eq_nil_of_length_eq_zero l.symm
        exact PostG.now q S ⟨b, ws, rfl, k2, r2⟩
      · have l := r2.length
        rw [e] at l
        obtain rfl := List.eq_nil_of_length_eq_zero l.symm
        exact PostG.now q S ⟨a, vs, rfl, k1, by rw [List.append_nil]; exact r1⟩
    · exact p.elim
  · obtain ⟨xs, e1, p⟩ := post_opt p
    obtain ⟨ys, e2, p⟩ := post_opt p
    obtain ⟨hl, q⟩ := post_guard p
    obtain ⟨a, vs, rfl, k1, r1⟩ := itemsL_at S rx e1
    obtain ⟨b, ws, rfl, k2, r2⟩ := itemsL_at S ry e2
    exact .inr (.inr ⟨a, b, vs, ws, rfl, rfl, k1, k2, by rw [r1.length, r2.length]; exact lim_le hl, fun t ht => new_lst S (r1.app r2) q ht⟩)
theorem om_sub : OM g (rI0 fun i j => V.int (i - j)) subD := by
  intro W σ μ H st x y dx dy Q S rx ry p
  unfold subD at p
  split at p
  · exact ⟨_, _, rx, ry, p.now S rfl⟩
  · exact p.elim
theorem op_mulA (hK : X.K = g.K) : OpR X (binaryOp .Mult) (fun x y H Q => rI CMul (fun i j => V.int (i * j)) x y H Q ∨ (rRep x y H Q ∨ rRepT g.K x y H Q)) := by
  rw [← hK]
  exact orOp op_mul (orOp op_rep op_repT)
theorem flat_rep {ds : List D} {vs : List V} (r : RVs g μ H ds vs) : ∀ n : Nat, RVs g μ H (List.replicate n ds).flatten (List.replicate n vs).flatten
  | 0 => rfl
  | n + 1 => by
    rw [List.replicate_succ, List.replicate_succ, List.flatten_cons, List.flatten_cons]
    exact r.app (flat_rep r n)
theorem om_mul : OM g (fun x y H Q => rI CMul (fun i j => V.int (i * j)) x y H Q ∨ (rRep x y H Q ∨ rRepT g.K x y H Q)) mulD := by
  intro W σ μ H st x y dx dy Q S rx ry p
  unfold mulD at p
  split at p
  · rename_i i
    split at p
    · rename_i j
      obtain ⟨hl, q⟩ := post_guard p
      exact .inl ⟨i, j, rx, ry, hl, PostG.now q S rfl⟩
    · exact p.elim
  · rename_i xs
    split at p
    · rename_i j
      obtain ⟨⟨⟨h1, h2⟩, h3, h4⟩, q⟩ := post_guard p
      obtain ⟨a, vs, rfl, k1, r1⟩ := rx
      cases (show y = .int j from ry)
      have l := r1.length
      exact .inr (.inr ⟨a, j, vs, rfl, rfl, SqT.of k1.2, (fun e => by rw [e] at l; rw [← l] at h1; cases h1), h3, h4, (by rw [l]; exact h2), fun t ht => new_tup S (flat_rep r1 _) q ht⟩)
    · exact p.elim
  · split at p
    · rename_i j
      obtain ⟨xs, e1, p⟩ := post_opt p
      obtain ⟨⟨h1, h2, h3⟩, q⟩ := post_guard p
      obtain ⟨a, vs, rfl, k1, r1⟩ := itemsL_at S rx e1
      cases (show y = .int j from ry)
      refine .inr (.inl ⟨a, j, vs, rfl, rfl, k1, by omega, by omega, ?_, fun t ht => new_lst S (flat_rep r1 _) q ht⟩)
      rw [r1.length]
      refine lim_le (Nat.le_trans (Nat.mul_le_mul h3 (show j.toNat ≤ 1000 by omega)) (by decide))
    · exact p.elim
theorem om_fdiv : OM g (rI CDiv fun i j => V.int (i / j)) fdivD := by
  intro W σ μ H st x y dx dy Q S rx ry p
  unfold fdivD at p
  split at p
  · obtain ⟨hl, q⟩ := post_guard p
    exact ⟨_, _, rx, ry, hl, PostG.now q S rfl⟩
  · exact p.elim
theorem om_mod : OM g (rI (fun _ j => 0 < j) fun i j => V.int (i % j)) modD := by
  intro W σ μ H st x y dx dy Q S rx ry p
  unfold modD at p
  split at p
  · obtain ⟨hl, q⟩ := post_guard p
    exact ⟨_, _, rx, ry, hl, PostG.now q S rfl⟩
  · exact p.elim
theorem om_pow : OM g (rI CPow fun i j => V.int (i ^ j.toNat)) powD := by
  intro W σ μ H st x y dx dy Q S rx ry p
  unfold powD at p
  split at p
  · obtain ⟨hl, q⟩ := post_guard p
    exact ⟨_, _, rx, ry, hl, PostG.now q S rfl⟩
  · exact p.elim
theorem um_neg : UM g (rU fun i => V.int (-i)) negD := by
  intro W σ μ H st x dx Q S rx p
  unfold negD at p
  split at p
  · exact ⟨_, rx, p.now S rfl⟩
  · exact p.elim
end
/-! ### comparisons -/
@[simp] def cmpI (f : Int → Int → Bool) (a b : D) (st : Sto) : R D := match a, b with
  | .int i, .int j => .ok (.bl (f i j)) st
  | _, _ => .no
def intsD : List D → Option (List Int)
  | [] => some []
  | .int i :: ds => match intsD ds with
    | some is => some (i :: is)
    | none => none
  | _ => none
@[simp] theorem ints_map : ∀ ns : List Int, intsD (ns.map D.int) = some ns
  | [] => rfl
  | n :: ns => by simp only [List.map_cons, intsD, ints_map ns]
theorem ints_eq : ∀ {ds : List D} {ns : List Int}, intsD ds = some ns → ds = ns.map D.int
  | [], _, e => by cases e; rfl
  | d :: ds, _, e => by
    unfold intsD at e
    split at e
    · cases ‹_ = []›
    · rename_i e0
      cases e0
      split at e
      · rename_i e1
        cases e
        rw [ints_eq e1]
        rfl
      · cases e
    · cases e
def ltD (a b : D) (st : Sto) : R D := match a with
  | .int i => match b with
    | .int j => .ok (.bl (decide (i < j))) st
    | _ => .no
  | .tup xs => match b with
    | .tup ys => ofOpt (intsD xs) fun ns => ofOpt (intsD ys) fun ms => .ok (.bl (HT.lexLt ns ms)) st
    | _ => .no
  | _ => .no
@[simp] theorem ltD_int {i j : Int} {st : Sto} : ltD (.int i) (.int j) st = .ok (.bl (decide (i < j))) st := rfl
@[simp] theorem ltD_tup {xs ys : List D} {st : Sto} : ltD (.tup xs) (.tup ys) st = ofOpt (intsD xs) fun ns => ofOpt (intsD ys) fun ms => .ok (.bl (HT.lexLt ns ms)) st := rfl
def eqD (a b : D) (st : Sto) : R D := ofOpt (toQ st a) fun p => ofOpt (toQ st b) fun q => guardR (SeqAt.shaped p = true ∧ SeqAt.shaped q = true) (.ok (.bl (PyData.eqv p q)) st)
def neD (a b : D) (st : Sto) : R D := ofOpt (toQ st a) fun p => ofOpt (toQ st b) fun q => guardR (SeqAt.shaped p = true ∧ SeqAt.shaped q = true) (.ok (.bl (!PyData.eqv p q)) st)
/-- x in y; neg: not in -/
def inD (neg : Bool) (a b : D) (st : Sto) : R D := match isDct st b with
  | true => ofOpt (dlook st b a) fun o => .ok (.bl (o.isSome ^^ neg)) st
  | false => match b with
    | .tup ys => ofOpt (toQ st a) fun p => ofOpt (toPs ys) fun ps => guardR (SeqAt.shaped p = true ∧ SeqAt.shaped (.tuple ps) = true) (.ok (.bl ((ps.any fun z => PyData.eqv z p) ^^ neg)) st)
    | b => ofOpt (toQ st a) fun p => ofOpt (itemsL st b) fun ys => ofOpt (toPs ys) fun ps => guardR (SeqAt.shaped p = true ∧ SeqAt.shaped (.list ps) = true) (.ok (.bl ((ps.any fun z => PyData.eqv z p) ^^ neg)) st)
def isNon : D → Bool
  | .non => true
  | _ => false
@[simp] theorem isNon_non : isNon .non = true := rfl
@[simp] theorem isNon_int {i : Int} : isNon (.int i) = false := rfl
@[simp] theorem isNon_tup {i : List D} : isNon (.tup i) = false := rfl
@[simp] theorem isNon_lst {i : List D} : isNon (.lst i) = false := rfl
@[simp] theorem isNon_loc {i : Nat} : isNon (.loc i) = false := rfl
@[simp] theorem isNon_bl {i : Bool} : isNon (.bl i) = false := rfl
@[simp] theorem isNon_str {i : Str} : isNon (.str i) = false := rfl
@[simp] def isD (neg : Bool) (a b : D) (st : Sto) : R D := match b with
  | .non => .ok (.bl (isNon a ^^ neg)) st
  | _ => .no
section
variable {g : G} {W : WX} {X : Cx} {σ : L2.St} {μ μ1 : Mu} {H H1 : Hp} {ρ : Env} {st : Sto}
theorem om_cmpI (f : Int → Int → Bool) : OM g (rI0 fun i j => V.bl (f i j)) (cmpI f) := by
  intro W σ μ H st x y dx dy Q S rx ry p
  unfold cmpI at p
  split at p
  · exact ⟨_, _, rx, ry, p.now S rfl⟩
  · exact p.elim
theorem op_ltA (hK : X.K = g.K) (hu : X.A.units < cLine) : OpR X (compareOp .Lt) (fun x y H Q => rI0 (fun i j => V.bl (decide (i < j))) x y H Q ∨ rLtT g.K x y H Q) := by
  rw [← hK]
  exact orOp op_lt (op_ltT hu)
theorem om_lt : OM g (fun x y H Q => rI0 (fun i j => V.bl (decide (i < j))) x y H Q ∨ rLtT g.K x y H Q) ltD := by
  intro W σ μ H st x y dx dy Q S rx ry p
  unfold ltD at p
  split at p
  · split at p
    · exact .inl ⟨_, _, rx, ry, p.now S rfl⟩
    · exact p.elim
  · split at p
    · obtain ⟨ns, e1, p⟩ := post_opt p
      obtain ⟨ms, e2, p⟩ := post_opt p
      obtain ⟨a, vs, rfl, k1, r1⟩ := rx
      obtain ⟨b, ws, rfl, k2, r2⟩ := ry
      obtain rfl := ints_eq e1
      obtain rfl := ints_eq e2
      obtain rfl := r1.ints
      obtain rfl := r2.ints
      rw [ints_map, ofOpt_some, ints_map, ofOpt_some] at p
      exact .inr ⟨a, b, ns, ms, rfl, rfl, SqT.of k1.2, SqT.of k2.2, PostG.now p S rfl⟩
    · exact p.elim
  · exact p.elim
theorem op_eqA (hK : X.K = g.K) (hu : X.A.units + 65 < cLine) : OpR X (compareOp .Eq) (rEqD g.K) := by rw [← hK]; exact op_eqD (by omega)
theorem op_neA (hK : X.K = g.K) (hu : X.A.units + 65 < cLine) : OpR X (compareOp .NotEq) (rNeD g.K) := by rw [← hK]; exact op_neD (by omega)
theorem om_eq : OM g (rEqD g.K) eqD := by
  intro W σ μ H st x y dx dy Q S rx ry p
  obtain ⟨a, e1, p⟩ := post_opt p
  obtain ⟨b, e2, p⟩ := post_opt p
  obtain ⟨hl, p⟩ := post_guard p
  exact ⟨a, b, toQ_dp S rx e1, toQ_dp S ry e2, hl.1, hl.2, PostG.now p S rfl⟩
theorem om_ne : OM g (rNeD g.K) neD := by
  intro W σ μ H st x y dx dy Q S rx ry p
  obtain ⟨a, e1, p⟩ := post_opt p
  obtain ⟨b, e2, p⟩ := post_opt p
  obtain ⟨hl, p⟩ := post_guard p
  exact ⟨a, b, toQ_dp S rx e1, toQ_dp S ry e2, hl.1, hl.2, PostG.now p S rfl⟩
def rDin (neg : Bool) : R2 := fun y x H Q => ∃ a o, x = .ref a ∧ DGet H a y o ∧ Q (.bl (o.isSome ^^ neg)) H
theorem op_din (hu : X.A.units + 65 < cLine) : OpR X (compareOp .In) (rDin false) := by
  intro pins s σ H x y v u Q I rx ry h
  obtain ⟨a, o, rfl, gg, q⟩ := h
  obtain rfl : u = Value.ref a := ry
  exact d_in (by omega) I gg rx fun s3 I3 => ⟨.bl o.isSome, H, I3, rfl, by rw [Bool.xor_false] at q; exact q⟩
theorem op_dnin (hu : X.A.units + 65 < cLine) : OpR X (compareOp .NotIn) (rDin true) := by
  intro pins s σ H x y v u Q I rx ry h
  obtain ⟨a, o, rfl, gg, q⟩ := h
  obtain rfl : u = Value.ref a := ry
  exact d_notIn (by omega) I gg rx fun s3 I3 => ⟨.bl (!o.isSome), H, I3, rfl, by rw [Bool.xor_true] at q; exact q⟩
def rInA (K : Frag) (neg : Bool) : R2 := fun x y H Q => rDin neg x y H Q ∨ ((∃ d ds, Dp K H x d ∧ Dp K H y (.tuple ds) ∧ SeqAt.shaped d = true ∧ SeqAt.shaped (.tuple ds) = true ∧ Q (.bl ((ds.any fun z => PyData.eqv z d) ^^ neg)) H) ∨
  ∃ d ds, Dp K H x d ∧ Dp K H y (.list ds) ∧ SeqAt.shaped d = true ∧ SeqAt.shaped (.list ds) = true ∧ Q (.bl ((ds.any fun z => PyData.eqv z d) ^^ neg)) H)
theorem op_inA (hK : X.K = g.K) (hu : X.A.units + 65 < cLine) : OpR X (compareOp .In) (rInA g.K false) := by
  intro pins s σ H x y v u Q I rx ry h
  rw [← hK] at h
  unfold rInA at h
  simp only [Bool.xor_false] at h
  rcases h with h | h | h
  · exact op_din hu pins s σ H x y v u Q I rx ry h
  · exact op_inT rfl hu pins s σ H x y v u Q I rx ry h
  · exact op_inD hu pins s σ H x y v u Q I rx ry h
theorem op_ninA (hK : X.K = g.K) (hu : X.A.units + 65 < cLine) : OpR X (compareOp .NotIn) (rInA g.K true) := by
  intro pins s σ H x y v u Q I rx ry h
  rw [← hK] at h
  unfold rInA at h
  simp only [Bool.xor_true] at h
  rcases h with h | h | h
  · exact op_dnin hu pins s σ H x y v u Q I rx ry h
  · exact op_notInT rfl hu pins s σ H x y v u Q I rx ry h
  · exact op_notInD hu pins s σ H x y v u Q I rx ry h
theorem ro_some {o : Option D} {ov : Option V} (h : RO g μ H o ov) : ov.isSome = o.isSome := by
  cases o <;> cases ov <;> first
    | rfl
    | exact h.elim
theorem om_in (neg : Bool) : OM g (rInA g.K neg) (inD neg) := by
  intro W σ μ H st x y dx dy Q S rx ry p
  unfold inD at p
  split at p
  · obtain ⟨o, e1, p⟩ := post_opt p
    obtain ⟨a, ov, rfl, gg, ro⟩ := dlook_at S ry rx e1
    exact .inl ⟨a, ov, rfl, gg, by rw [ro_some ro]; exact PostG.now p S rfl⟩
  · split at p
    · obtain ⟨d, e1, p⟩ := post_opt p
      obtain ⟨ps, e2, p⟩ := post_opt p
      obtain ⟨hl, p⟩ := post_guard p
      obtain ⟨b, ws, rfl, k2, r2⟩ := ry
      exact .inr (.inl ⟨d, ps, toQ_dp S rx e1, .tup (SqT.of k2.2) (toPs_dp r2 e2), hl.1, hl.2, PostG.now p S rfl⟩)
    · obtain ⟨d, e1, p⟩ := post_opt p
      obtain ⟨ys, e3, p⟩ := post_opt p
      obtain ⟨ps, e2, p⟩ := post_opt p
      obtain ⟨hl, p⟩ := post_guard p
      obtain ⟨b, ws, rfl, k2, r2⟩ := itemsL_at S ry e3
      exact .inr (.inr ⟨d, ps, toQ_dp S rx e1, .lst (SqL.of k2) (toPs_dp r2 e2), hl.1, hl.2, PostG.now p S rfl⟩)
theorem isNon_at {d : D} {x : V} (h : RV g μ H d x) : decide (x = .non) = isNon d := by
  cases d with
  | non => rw [show x = V.non from h]; exact decide_eq_true rfl
  | bl b => rw [show x = V.bl b from h]; exact decide_eq_false (fun z => nomatch z)
  | int b => rw [show x = V.int b from h]; exact decide_eq_false (fun z => nomatch z)
  | str b => rw [show x = V.str b from h]; exact decide_eq_false (fun z => nomatch z)
  | tup xs => obtain ⟨a, vs, rfl, _⟩ := h; exact decide_eq_false (fun z => nomatch z)
  | lst xs => obtain ⟨a, vs, rfl, _⟩ := h; exact decide_eq_false (fun z => nomatch z)
  | rol xs => obtain ⟨a, vs, rfl, _⟩ := h; exact decide_eq_false (fun z => nomatch z)
  | dct xs ys => obtain ⟨a, vs, rfl, _⟩ := h; exact decide_eq_false (fun z => nomatch z)
  | loc xs => obtain ⟨a, rfl, _⟩ := h; exact decide_eq_false (fun z => nomatch z)
  | nam xs => obtain ⟨a, rfl, _⟩ := h; exact decide_eq_false (fun z => nomatch z)
  | err xs ys => obtain ⟨a, rfl, _⟩ := h; exact decide_eq_false (fun z => nomatch z)
theorem om_is : OM g (fun x y H Q => y = .non ∧ Q (.bl (decide (x = .non))) H) (isD false) := by
  intro W σ μ H st x y dx dy Q S rx ry p
  unfold isD at p
  split at p
  · exact ⟨ry, by rw [isNon_at rx]; exact PostG.now p S (by rw [Bool.xor_false]; rfl)⟩
  · exact p.elim
theorem om_isn : OM g (fun x y H Q => y = .non ∧ Q (.bl (!decide (x = .non))) H) (isD true) := by
  intro W σ μ H st x y dx dy Q S rx ry p
  unfold isD at p
  split at p
  · exact ⟨ry, by rw [isNon_at rx]; exact PostG.now p S (by rw [Bool.xor_true]; rfl)⟩
  · exact p.elim
end
/-! ### by the operators' signs -/
section
variable {g : G} {W : WX} {X : Cx} {a b : Expr} {ma mb : Env → Sto → R D} {pos : Pos}
theorem pm_add (hK : X.K = g.K) (ha : PM g W X a ma) (hb : PM g W X b mb) : PM g W X (.BinOp a .Add b pos) (mBin addD ma mb) := pm_bin (op_addA hK) om_add ha hb
theorem pm_sub (ha : PM g W X a ma) (hb : PM g W X b mb) : PM g W X (.BinOp a .Sub b pos) (mBin subD ma mb) := pm_bin op_sub om_sub ha hb
theorem pm_mul (hK : X.K = g.K) (ha : PM g W X a ma) (hb : PM g W X b mb) : PM g W X (.BinOp a .Mult b pos) (mBin mulD ma mb) := pm_bin (op_mulA hK) om_mul ha hb
theorem pm_fdiv (ha : PM g W X a ma) (hb : PM g W X b mb) : PM g W X (.BinOp a .FloorDiv b pos) (mBin fdivD ma mb) := pm_bin op_fdiv om_fdiv ha hb
theorem pm_mod (ha : PM g W X a ma) (hb : PM g W X b mb) : PM g W X (.BinOp a .Mod b pos) (mBin modD ma mb) := pm_bin op_mod om_mod ha hb
theorem pm_pow (ha : PM g W X a ma) (hb : PM g W X b mb) : PM g W X (.BinOp a .Pow b pos) (mBin powD ma mb) := pm_bin op_pow om_pow ha hb
theorem pm_neg (ha : PM g W X a ma) : PM g W X (.UnaryOp .USub a pos) (mUn negD ma) := pm_un un_neg um_neg ha
end
end Pl

set_option maxHeartbeats 4000000
/-! a set display with one element, an int -/
namespace Hn
open PySem PySem.Spec PyProof.Rows L2 EF
open PySem.W (Frag keepIn)
theorem kds_of {K : Frag} {c : Value} {q : Str} (h : W.codeIn K c q = true) : W.kdsCode K c = true := by
  unfold W.codeIn at h
  unfold W.kdsCode
  split at h
  · split at h
    · rename_i e
      simp only [e]
    · cases h
  · cases h
/-- as Dfn.kept; the def's code is one of the written part -/
theorem Dfn.keptC {P : Program} {w : World} {K : Frag} {mg : Str → Option Value} {base : Heap} {x : Str} {st : Stmt} {N ps : List Str} {k : Nat} {sp : Sp} (D : Dfn K mg x st ps) (S : FnScope N ps (defScope st)) (len : ∀ vs H Q E, sp vs H Q E → vs.length = ps.length)
    (hbody : ∀ (f : Addr) (cdv : Value) (A : Around) (outer : List Env) (s : Shared) (H : Hp) (vs : List V) (Q : VK) (E : XK), W.kdsCode K cdv = true → Room k (A.deeper (envOfC x (defScope st) s.heap.objs.size f cdv)) → sp vs H Q E →
      ∃ t, PSs (cxOf CX0 P w K mg base N x (defScope st) f cdv A outer s H E).nox (defBody st) t ∧ t { nx := fun _ H' => Q .non H', rt := Q } (start N vs) H) :
    Kept P w K mg base (k + 1) x ps sp := by
  obtain ⟨f, fd, F, b, g⟩ := D
  obtain ⟨oc, od, kV, doc, pm, an, cdv, ct, osl, rfl, lk, hc⟩ := F.ex
  exact ⟨f, _, g, F.kp, b, fn_of lk hc S len fun A outer s H vs Q E hr h => by
    obtain ⟨t, p, q⟩ := hbody f cdv A outer s H vs Q E (kds_of hc) hr h
    exact ⟨t, p.nox, q⟩⟩
/-- {e}, e an int -/
def tSet1 (w : World) (te : TE) : TE := fun σ H Q => ∀ D, H D = none → te σ (upd H D (SetO w D (fun _ => false) 0)) fun y H1 => ∃ k, y = .int k ∧ H1 D = some (SetO w D (fun _ => false) 0) ∧ Q (.ref D) (upd H1 D (SetO w D (fun j => decide (j = k)) 1))
theorem pe_set1 {X : Cx} {e : Expr} {te : TE} {pos : Pos} (he : PE X e te) (hcd : W.kdsCode X.K X.env.code = true) (hs : starEach [e] X.env = [(false, eval e X.env)] := by rfl) : PE X (.Set [e] 0 pos) (tSet1 X.w te) := by
  refine ⟨fun pins s σ H Q I h => ?_⟩
  rw [arm_eval_Set, hs]
  refine wpAny_bind (wpAny_standAt (wpAny_bind (W.kds_main I.kIn hcd fun b => ?_)))
  show wpAny _ _ (setDisplay .oneByOne b [(false, do let v ← eval e X.env; standAt pos; pure v)]) _ _ _
  unfold setDisplay
  rw [if_neg (by decide)]
  refine wpAny_bind (PpSet.newSet_ok ?_)
  have hn := HOk.fresh I.hok (Nat.le_refl s.heap.objs.size)
  have z := h _ hn
  have I1 : L2.Inv X pins σ (upd H s.heap.objs.size (SetO X.w s.heap.objs.size (fun _ => false) 0)) ⟨s.heap.push (noneSet X.w), s.gens, s.drawn, s.toks, s.os⟩ :=
    I.laid (fun b o e => Heap.get?_push_of_some _ e) (Nat.le_refl _) (setO_new (setR_fresh X.w))
  refine wpAny_bind (wpAny_holding (wpAny_bind ?_))
  show wpAny _ _ (evalAll [do let v ← eval e X.env; standAt pos; pure v]) _ _ _
  rw [evalAll.eq_2, evalAll.eq_1]
  refine wpAny_bind (wpAny_bind (thn (he.run pins _ σ _ _ I1 z) ?_))
  rintro u s2 ⟨_, H2, I2, r2, k, rfl, hD, q⟩
  obtain ⟨tk, rfl⟩ : ∃ tk, u = Value.int k tk := r2
  refine wpAny_bind (wpAny_standAt (wpAny_pure (wpAny_bind (wpAny_holding (wpAny_pure (wpAny_pure ?_))))))
  refine wpAny_bind (wpAny_holding (wpAny_bind ?_))
  have hr := setO_get I2 hD
  show wpAny _ _ (forIn [Value.int k tk] PUnit.unit fun x _ => do let _ ← setAdd s.heap.objs.size x; pure (ForInStep.yield PUnit.unit)) _ _ _
  rw [List.forIn_cons]
  refine wpAny_bind (wpAny_bind ?_)
  show wpAny _ _ (holding [Value.int k tk] (do let h ← pyHash (Value.int k tk); setAddHashed s.heap.objs.size (Value.int k tk) h)) _ _ _
  refine wpAny_holding (wpAny_bind (KeyKind.pyHash (intKind X.prog X.w) (k := k) (intKind_is _ _ _ _) ?_))
  refine setR_add_hashed (S := fun _ => false) (s := ⟨s2.heap, s2.gens, s2.drawn, s2.toks + 1, s2.os⟩) hr (by decide) fun h' sb hr' => ?_
  refine wpAny_pure ?_
  show wpAny _ _ (forIn ([] : List Value) PUnit.unit _) _ _ _
  rw [List.forIn_nil]
  refine wpAny_pure ?_
  rw [if_neg (by decide)]
  refine wpAny_pure ?_
  show wpAny _ _ (do forIn ([] : List (Bool × Sem Value)) PUnit.unit _; pure ()) _ _ _
  rw [List.forIn_nil]
  refine wpAny_bind (wpAny_pure (wpAny_pure (wpAny_pure ?_)))
  refine ⟨.ref s.heap.objs.size, upd H2 s.heap.objs.size (SetO X.w s.heap.objs.size (fun j => decide (j = k)) 1), ?_, rfl, q⟩
  have e1 : (fun j => (fun _ => false) j || decide (j = k)) = fun j => decide (j = k) := by
    funext j
    exact Bool.false_or _
  rw [e1] at hr'
  refine I2.write ?_ (.inl rfl) (fun b u ne e => (sb.2 b ne).trans e) ?_ (setO_new hr')
  · rw [hD]
    exact trivial
  · obtain ⟨o, es, ep, t, ho, _⟩ := hr'
    exact ⟨o, ho⟩
end Hn

set_option maxHeartbeats 4000000
/-! enumerate(t) of a tuple -/
namespace Hn
open PySem PySem.Spec PyProof.Rows L2 EF
open PySem.W (Frag keepIn)
/-- enumerate's record, over the iterator at it, which stands at i -/
def enumObj (it : Addr) : Obj := { cls := .type "enumerate", data := .fields #[.none, .bool false, .ref it, rawInt 0, .none, .none] }
theorem wpAny_if {β : Type} {M : Model} {A : Around} {c : Prop} [Decidable c] {x y : Sem β} {Q : β → Shared → Prop} {E : Value → Shared → Prop} {s : Shared} (hx : wpAny M A x Q E s) (hy : wpAny M A y Q E s) : wpAny M A (if c then x else y) Q E s := by
  split
  · exact hx
  · exact hy
theorem meets_enum1 {v : Value} {o : Obj} {H : Heap → Prop} (b : Begins v o H) : Meets (Builtin.«enumerate.__new__» { pos := [.type "enumerate", v] }) fun _ R s =>
    H s.heap ∧ R (.ok (.ret (.ref (s.heap.push o).objs.size))) ⟨(s.heap.push o).push (enumObj s.heap.objs.size), s.gens, s.drawn, s.toks, s.os⟩ := by
  refine Meets.of_wp fun prog w A R s h => ?_
  obtain ⟨hs, h⟩ := h
  unfold Builtin.«enumerate.__new__»
  refine wpAny_bind ?_
  unfold Builtin.SmallTypes.newClass
  refine wpAny_bind (wpAny_pure (wpAny_ite_false (by rfl) (wpAny_bind (wpAny_of_eq sub_enumerate (wpAny_ite_false (by rfl) (wpAny_pure ?_))))))
  refine wpAny_ite_true (by rfl) (wpAny_bind ?_)
  unfold Builtin.SmallTypes.calledThroughType
  refine wpAny_bind (wpAny_stack_any fun st => ?_)
  have key : ∀ short : Bool, wpAny (model prog w) A.in1 (do let it ← pyIter v; let r ← Builtin.SmallTypes.newRecord (.type "enumerate") (Builtin.SmallTypes.ownedTupleFields ++ [it, rawInt 0, .none, .none]); ret r) (fun fin s' => ∃ v, fin = Fin.done (Flow.ret v) ∧ R (Except.ok (Flow.ret v)) s') (fun e s' => R (Except.error e) s') s := by
    intro _
    refine wpAny_bind (b.iter _ _ _ _ _ _ hs ?_)
    refine wpAny_bind ?_
    unfold Builtin.SmallTypes.newRecord
    refine wpAny_newObj_type (wpAny_pure ⟨_, rfl, h⟩) ?_
    show 6 ≤ sizeLine + 2
    rw [sizeLine_eq]
    omega
  refine wpAny_pure (wpAny_if ?_ ?_)
  · exact wpAny_bind (wpAny_of_eq (a := (v, none)) (by rfl) (key true))
  · exact wpAny_bind (wpAny_of_eq (a := (v, none)) (by rfl) (key true))
theorem call_enum1 {prog : Program} {w : World} {A : Around} {E : Value → Shared → Prop} {s : Shared} {v : Value} {o : Obj} {H : Heap → Prop} {Q : Value → Shared → Prop} (b : Begins v o H) (hs : H s.heap)
    (h : ∀ h' : Heap, IsEnum h' (s.heap.objs.size + 1) s.heap.objs.size 0 .none → h'.get? s.heap.objs.size = some o → (∀ b o, s.heap.get? b = some o → h'.get? b = some o) → Q (.ref (s.heap.objs.size + 1)) ⟨h', s.gens, s.drawn, s.toks, s.os⟩) :
    wpAny (model prog w) A (call (.type "enumerate") [v]) Q E s := by
  refine callType_new F.called_enumerate (by decide) (F.typeCall_enumerate_1 v) (F.newCall_enumerate_1 v) (fun obj => F.args_object_init_2 obj v) F.entry_enumerate_new (meets_enum1 b) ⟨hs, ?_⟩
  have hz := Heap.size_push s.heap o
  have he : ((s.heap.push o).push (enumObj s.heap.objs.size)).get? (s.heap.objs.size + 1) = some (enumObj s.heap.objs.size) := by
    rw [← hz]
    exact Heap.get?_push_size _ rfl
  show Shared.TypeIs _ (.ref (s.heap.push o).objs.size) "enumerate" ∧ Q (.ref (s.heap.push o).objs.size) _
  rw [hz]
  exact ⟨⟨_, he, rfl⟩, h _ he (Heap.get?_push_of_some _ (Heap.get?_push_size _ b.free)) fun b o e => Heap.get?_push_of_some _ (Heap.get?_push_of_some _ e)⟩
/-- the turns of enumerate(t), t a tuple of xs -/
def IteT (K : Frag) (a : Addr) (xs : List V) : It where
  go := fun i H => SqT K H a xs ∧ i < xs.length
  yld := fun i H v H' => ∃ T x, v = .ref T ∧ H T = none ∧ H' = upd H T (.tup [.int i, x]) ∧ xs[i]? = some x
  stop := fun i H => SqT K H a xs ∧ xs.length ≤ i
theorem turn_enumT {P : Program} {w : World} {K : Frag} {elts : List Expr} {kk : Nat} {tpos : Pos} (a e it : Addr) (xs : List V) (h1 : e ≠ it) (h2 : e ≠ a) (h3 : a ≠ it) :
    Turn P w K (.Tuple elts kk tpos) (IteT K a xs) [e, it] e fun i h => i ≤ xs.length ∧ (∃ old, IsEnum h e it i old) ∧ h.IsTupleIter it a i where
  mem := List.mem_cons_self
  obj := by
    rintro i h ⟨_, ⟨old, he⟩, ⟨o, ho, _, hd⟩⟩ b hb
    rcases List.mem_cons.mp hb with rfl | hb
    · exact ⟨_, he, fun v q => nomatch q⟩
    · obtain rfl := List.mem_singleton.mp hb
      refine ⟨o, ho, fun v q => ?_⟩
      rw [hd] at q
      cases q
  keep := by
    rintro i h h' ⟨hi, ⟨old, he⟩, ⟨o, ho, hc, hd⟩⟩ k
    exact ⟨hi, ⟨old, k e List.mem_cons_self _ he⟩, o, k it (List.mem_cons_of_mem _ List.mem_cons_self) _ ho, hc, hd⟩
  item := by
    rintro X rfl rfl rfl hc i pins s σ H E I hf ⟨hi, he, hit⟩ ⟨hq, hlt⟩
    obtain ⟨its, rv, hT, _⟩ := I.tuple hq
    have W := WalksT.enumerateD (A := X.A) (Draws.tuple (prog := X.prog) (w := X.w) (A := X.A.in1) (I.ok.hd hc) it a h3 its.toArray) e h1 (fun z => (List.mem_cons.mp z).elim h1 fun z => h2 (List.mem_singleton.mp z)) List.mem_cons_self
    have hlen : its.toArray.size = xs.length := by rw [List.size_toArray, rv.length]
    obtain ⟨x, hx⟩ : ∃ x, xs[i]? = some x := ⟨_, List.getElem?_eq_getElem hlt⟩
    obtain ⟨u, hu, ru⟩ := rv.get hx
    refine W.item i s _ E (by omega) ⟨he, hit, hT⟩ fun T vals h' tk hP hTs hTv mid k1 => ⟨.ref T, rfl, ?_⟩
    obtain ⟨t, y, hy, rfl⟩ := hP
    have huy : u = y := by
      rw [List.getElem?_toArray, hu] at hy
      exact Option.some.inj hy
    subst huy
    refine W.go elts kk tpos i T _ _ E mid fun h'' st'' k2 => ?_
    have nT := W.apart i T h' mid
    have hT2 : IsTup h'' T #[.int i t, u] := by
      obtain ⟨o, ho, hc, n, hd⟩ := hTv
      exact ⟨o, k2 T o nT ho, hc, n, hd⟩
    have new : ObjOk X.prog X.w (upd H T (.tup [.int i, x])) h'' T (.tup [.int i, x]) := by
      refine ⟨by rw [sizeLine_eq]; exact Nat.le_of_ble_eq_true rfl, [.int i t, u], .cons ⟨t, rfl⟩ (.cons ru .nil), hT2⟩
    have I1 := I.turnedNew (t' := tk) (ch := [e, it]) (fun b o nb q => k2 b o nb (k1 b o nb q)) hf hTs new
    refine ⟨.ref T, _, I1, rfl, ⟨T, x, rfl, HOk.fresh I.hok hTs, rfl, hx⟩, ⟨hlt, st''.1, st''.2.1⟩, fun b hb => ?_⟩
    have nb : b ≠ T := fun z => nT (z ▸ hb)
    rw [upd_ne nb]
    exact (hf b hb).1
  done := by
    rintro X rfl rfl rfl hc i pins s σ H E I hf ⟨hi, he, hit⟩ ⟨hq, hle⟩
    obtain ⟨its, rv, hT, _⟩ := I.tuple hq
    have W := WalksT.enumerateD (A := X.A) (Draws.tuple (prog := X.prog) (w := X.w) (A := X.A.in1) (I.ok.hd hc) it a h3 its.toArray) e h1 (fun z => (List.mem_cons.mp z).elim h1 fun z => h2 (List.mem_singleton.mp z)) List.mem_cons_self
    have hlen : its.toArray.size = i := by rw [List.size_toArray, ← rv.length]; omega
    refine W.done s _ E ?_ fun h' tk k => ⟨rfl, I.turnedL (ch := [e, it]) (fun b o nb q => k b o nb q) hf⟩
    rw [hlen]
    exact ⟨he, hit, hT⟩
  self := by
    rintro A i s Q E ⟨_, ⟨old, he⟩, _⟩ q
    exact wpAny_pyIter_enum he q
/-- for i, x in enumerate(t), t a tuple -/
def iEnumT (K : Frag) (ta : TA) : TI := fun σ H R => ta σ H fun vs H1 => ∃ a xs, vs = [.ref a] ∧ SqT K H1 a xs ∧ R (IteT K a xs) H1
theorem pi_enumT {X : Cx} {K : Frag} {e : Expr} {ta : TA} {p pos tpos : Pos} {elts : List Expr} {kk : Nat} (hK : X.K = K) (hg : Gl X "enumerate") (hm : X.mg "enumerate" = none) (ha : PA X [e] ta) (hs : starEach [e] X.env = [(false, eval e X.env)] := by rfl) :
    PI X (.Tuple elts kk tpos) (.Call (.Name "enumerate" p) [e] [] pos) (iEnumT K ta) := by
  subst hK
  refine ⟨fun pins s σ H R I h => ?_⟩
  refine Call_ (ld_blt I hg hm boot_enumerate (callWith_type1 (thn (ha.run pos pins s σ H _ I h) ?_) hs rfl) (by decide) (by decide)) rfl
  rintro us s1 ⟨vs, H1, I1, r1, a, xs, rfl, hq, q⟩
  rw [Vals.ref1 r1]
  obtain ⟨its, rv, hT, hz⟩ := I1.tuple hq
  refine call_enum1 (begins_tuple a its.toArray) hT fun h' he hit k => ?_
  refine wpAny_pyIter_enum he ?_
  have I2 := I1.kept (t' := s1.toks) k
  have ha1 : a < s1.heap.objs.size := by
    obtain ⟨o, ho, _⟩ := hT
    exact Heap.lt_size ho
  refine ⟨s1.heap.objs.size + 1, [s1.heap.objs.size + 1, s1.heap.objs.size], _, IteT X.K a xs, H1, rfl, I2, turn_enumT a _ _ xs (Nat.succ_ne_self _) (Nat.ne_of_gt (Nat.lt_succ_of_lt ha1)) (Nat.ne_of_lt ha1), ⟨Nat.zero_le _, ⟨_, he⟩, ⟨_, hit, rfl, rfl⟩⟩, fun b hb => ?_, q⟩
  have hle : s1.heap.objs.size ≤ b := by
    rcases List.mem_cons.mp hb with rfl | hb
    · exact Nat.le_add_right _ _
    · rw [List.mem_singleton.mp hb]
      exact Nat.le_refl _
  exact I1.fpOk hle (HOk.fresh I1.hok hle)
theorem for_enumT {K : Frag} {a : Addr} {xs : List V} {g : TG} {tb : TS} {D : Ends} {σ : L2.St} {H : Hp} (Pv : Nat → L2.St → Hp → Prop) (h0 : Pv 0 σ H) (hq : ∀ i σ H, Pv i σ H → SqT K H a xs)
    (hs : ∀ i x T σ H, xs[i]? = some x → Pv i σ H → H T = none → g (.ref T) σ (upd H T (.tup [.int (i : Nat), x])) fun σ2 H2 => tb { D with nx := Pv (i + 1), ct := Pv (i + 1), bk := D.nx } σ2 H2) (hd : ∀ σ H, Pv xs.length σ H → D.nx σ H) :
    ∃ W : Nat → Nat → L2.St → Hp → Prop, (∃ m, W 0 m σ H) ∧ ∀ i m σ H, W i m σ H →
      ((IteT K a xs).stop i H ∧ D.nx σ H) ∨ ((IteT K a xs).go i H ∧ ∃ N : L2.St → Hp → Prop, (∀ σ' H', N σ' H' → ∃ m', m' < m ∧ W (i + 1) m' σ' H') ∧ ∀ x H', (IteT K a xs).yld i H x H' → g x σ H' fun σ2 H2 => tb { D with nx := N, ct := N, bk := D.nx } σ2 H2) := by
  refine ⟨fun i m σ H => m = xs.length - i ∧ i ≤ xs.length ∧ Pv i σ H, ⟨xs.length, rfl, Nat.zero_le _, h0⟩, ?_⟩
  rintro i m σ H ⟨rfl, hi, p⟩
  have q1 := hq i σ H p
  rcases Nat.lt_or_ge i xs.length with h | h
  · refine .inr ⟨⟨q1, h⟩, Pv (i + 1), fun σ' H' z => ⟨xs.length - (i + 1), by omega, rfl, h, z⟩, ?_⟩
    rintro x H' ⟨T, x1, rfl, nT, rfl, e1⟩
    exact hs i x1 T σ H e1 p nT
  · obtain rfl : i = xs.length := by omega
    exact .inl ⟨⟨q1, Nat.le_refl _⟩, hd σ H p⟩
theorem lc_enumT {K : Frag} {a : Addr} {xs : List V} {g : TG} {tt : TT} {te : TE} {vs : List Nat} {σ : L2.St} {H1 : Hp} {D : Addr} {Qd : Hp → Prop} (Pv : Nat → Hp → Prop) (h0 : Pv 0 (upd H1 D (.lst [])))
    (hq : ∀ i H, Pv i H → SqT K H a xs)
    (hs : ∀ i x T H, xs[i]? = some x → Pv i H → H T = none → g (.ref T) (wipe σ vs) (upd H T (.tup [.int (i : Nat), x])) fun σ2 H2 => wipe σ2 vs = wipe σ vs ∧ tt σ2 H2 fun c H3 =>
      if c = true then te σ2 H3 fun z H4 => ∃ acc, H4 D = some (.lst acc) ∧ acc.length < sizeLine ∧ Pv (i + 1) (upd H4 D (.lst (acc ++ [z]))) else Pv (i + 1) H3) (hd : ∀ H, Pv xs.length H → Qd H) :
    ∃ W : Nat → Nat → Hp → Prop, (∃ m, W 0 m (upd H1 D (.lst []))) ∧ ∀ i m H, W i m H →
      ((IteT K a xs).stop i H ∧ Qd H) ∨ ((IteT K a xs).go i H ∧ ∃ Nx : Hp → Prop, (∀ H', Nx H' → ∃ m', m' < m ∧ W (i + 1) m' H') ∧ ∀ x H', (IteT K a xs).yld i H x H' → g x (wipe σ vs) H' fun σ2 H2 => wipe σ2 vs = wipe σ vs ∧ tt σ2 H2 fun c H3 =>
        if c = true then te σ2 H3 fun y H4 => ∃ acc, H4 D = some (.lst acc) ∧ acc.length < sizeLine ∧ Nx (upd H4 D (.lst (acc ++ [y]))) else Nx H3) := by
  refine ⟨fun i m H => m = xs.length - i ∧ i ≤ xs.length ∧ Pv i H, ⟨xs.length, rfl, Nat.zero_le _, h0⟩, ?_⟩
  rintro i m H ⟨rfl, hi, p⟩
  have q1 := hq i H p
  rcases Nat.lt_or_ge i xs.length with h | h
  · refine .inr ⟨⟨q1, h⟩, Pv (i + 1), fun H' z => ⟨xs.length - (i + 1), by omega, rfl, h, z⟩, ?_⟩
    rintro x H' ⟨T, x1, rfl, nT, rfl, e1⟩
    exact hs i x1 T H e1 p nT
  · obtain rfl : i = xs.length := by omega
    exact .inl ⟨⟨q1, Nat.le_refl _⟩, hd H p⟩
end Hn

set_option maxHeartbeats 4000000
/-! defs that may raise an own error without a field -/
namespace Hn
open PySem PySem.Spec PyProof.Rows L2 EF
open PySem.W (Frag keepIn)
/-- what the written part says of an own error that is raised -/
structure Err (K : Frag) (mg : Str → Option Value) (x : Str) (C : Addr) : Prop where
  g : mg x = some (.ref C)
  k : keepIn K (.ref C) = true
  e : PySem.W.excIn K C PySem.HandSPX.veTail "ValueError.__new__" = true
  b : PySem.W.subIn K (.ref C) (.type "BaseException") = some true
  t : PySem.W.typeIn K (.ref C) = some (.type "type")
theorem Err.raises {X : Cx} {x : Str} {C : Addr} (T : Err X.K X.mg x C) : Raises X (.ref C) := raises_own T.b T.t
/-- a def that keeps a promise and may raise -/
def KeptX (P : Program) (w : World) (K : Frag) (mg : Str → Option Value) (base : Heap) (k : Nat) (x : Str) (ps : List Str) (sp : Sp) : Prop :=
  ∃ f fd, mg x = some (.ref f) ∧ keepIn K (.ref f) = true ∧ Binds K fd ps [] ∧ FnOk P w K mg base (L2.CX P w) k f fd ps sp
section
variable {P : Program} {w : World} {K : Frag} {mg : Str → Option Value} {base : Heap}
theorem KeptX.mono {j k : Nat} {x : Str} {ps : List Str} {sp : Sp} (G : KeptX P w K mg base j x ps sp) (h : j ≤ k) : KeptX P w K mg base k x ps sp := by
  obtain ⟨f, fd, a, b, c, d⟩ := G
  exact ⟨f, fd, a, b, c, d.mono h⟩
theorem Dfn.keptX {x : Str} {st : Stmt} {N ps : List Str} {k : Nat} {sp : Sp} (D : Dfn K mg x st ps) (S : FnScope N ps (defScope st)) (len : ∀ vs H Q E, sp vs H Q E → vs.length = ps.length)
    (hbody : ∀ (f : Addr) (cdv : Value) (A : Around) (outer : List Env) (s : Shared) (H : Hp) (vs : List V) (Q : VK) (E : XK), Room k (A.deeper (envOfC x (defScope st) s.heap.objs.size f cdv)) → sp vs H Q E →
      ∃ t, PSs (cxOf (L2.CX P w) P w K mg base N x (defScope st) f cdv A outer s H E) (defBody st) t ∧ t { nx := fun _ H' => Q .non H', rt := Q } (start N vs) H) :
    KeptX P w K mg base (k + 1) x ps sp := by
  obtain ⟨f, fd, F, b, g⟩ := D
  exact ⟨f, fd, g, F.kp, b, F.okX S len fun cdv A outer s H vs Q E hr h => hbody f cdv A outer s H vs Q E hr h⟩
end
section
variable {X : Cx} {k : Nat} {x : Str} {ps : List Str} {sp : Sp} {e : Expr} {es : List Expr} {t : TA} {p pos : Pos} {E : L2.St → XK}
/-- f(e, ..), f a def that may raise: what it raises must be wished for here -/
theorem pe_kx (G : KeptX X.prog X.w X.K X.mg X.base k x ps sp) (hr : Room k X.A) (hg : Gl X x) (hx : ∀ σ, PassesAt (L2.CX X.prog X.w) X σ (E σ)) (ha : PA X (e :: es) t) (hdb : (x == ("__debug__" : Str)) = false := by decide)
    (he : starEach (e :: es) X.env = (false, eval e X.env) :: starEach es X.env := by rfl) (hpl : (backTo pos (starEach es X.env)).any (·.1) = false := by rfl) : PE X (.Call (.Name x p) (e :: es) [] pos) (tCallS sp E t) := by
  obtain ⟨f, fd, gm, kp, b, F⟩ := G
  exact pe_callS F hr hg gm kp b hx ha hdb he hpl
/-- X(), X an own error without an __init__ -/
theorem pmk_own0 {C : Addr} (T : Err X.K X.mg x C) (hg : Gl X x) (hdb : (x == ("__debug__" : Str)) = false := by decide) : PMk X (.Call (.Name x p) [] [] pos) (fun _ H Q => Q (.ref C) none H) := by
  intro pins s σ H Q I h
  refine wpAny_Call_Name_kw (ld_glob I hg T.g ?_ hdb)
  refine PySem.W.callWith_K0 I.kIn T.k ?_
  show wpAny _ _ (call (.ref C) []) _ _ _
  obtain ⟨bm, N, nm, qn, bs, hdct, sn, sub, ab, col, dd, k0, k1, k2, k3, k5, mN, hC, hN, hni, Z⟩ := exc_obj I.kIn T.e
  exact wpAny_call_exc_subT F.excBase_ValueError Z hC hN hni (fun h' e hm => mk_of I hm T.raises h (HOk.gone I.hok hm.new)) (Nat.zero_le _)
end
end Hn

set_option maxHeartbeats 4000000
/-! raise C(e), C an own error with a field -/
namespace Hn
open PySem PySem.Spec PyProof.Rows L2 EF
open PySem.W (Frag keepIn)
/-- a made error that is raised: of it the dict stays -/
def Sent (H0 : Hp) (C : Addr) (Q : XK) (v : V) (H : Hp) : Prop := ∃ a d fs, v = .ref a ∧ H a = some (exo a C (some d)) ∧ Fr0 H0 a ∧ H d = some (exd d fs) ∧ (a ≠ d → Q (.ref C) (some d) (delH H a))
section
variable {X : Cx} {C : Addr} {f x : Str} {e : Expr} {te : TE} {p pos : Pos}
def tRaise1 (H0 : Hp) (C : Addr) (f : Str) (te : TE) : L2.St → Hp → XK → Prop := fun σ H Q => te σ H fun v H1 => ∀ a H', ErrAt H' a C [(f, v)] → (∀ b o, H1 b = some o → H' b = some o) → H1 a = none → Sent H0 C Q (.ref a) H'
theorem pmk_err1 (T : ErrC X.prog X.K X.mg C f) (gC : X.mg x = some (.ref C)) (hg : Gl X x) (hr : Room 1 X.A) (hx : X.ex = []) (rs : Raises X (.ref C)) (he : PE X e te)
    (hs : starEach [e] X.env = (false, eval e X.env) :: starEach [] X.env := by rfl) (hdb : (x == ("__debug__" : Str)) = false := by decide) : PMk X (.Call (.Name x p) [e] [] pos) (tRaise1 X.H_0 C f te) := by
  intro pins s σ H Q I h
  refine wpAny_mono ((pe_err1 (p := p) (pos := pos) T gC hg hr he hs hdb).run pins s σ H (Sent X.H_0 C Q) I h) (fun u s1 hu => ?_) fun _ _ z => z
  obtain ⟨v, H1, I1, r1, a, d, fs, rfl, ha, h0, hd, q⟩ := hu
  cases r1
  obtain ⟨⟨t1, ho⟩, _⟩ := I1.hok a _ ha
  have ne : a ≠ d := fun z => by
    rw [← z] at hd
    obtain ⟨⟨mA, ⟨o, es, ep, g1, g2, _⟩, _⟩, _⟩ := I1.hok a _ hd
    rw [ho] at g1
    obtain rfl := Option.some.inj g1
    cases g2
  obtain ⟨G, gs, ga, J⟩ := I1.untrack ha h0 hx
  exact ⟨a, _, _, { s1 with heap := G }, delH H1 a, .ref C, some d, rfl, J, gs, ga, ho, ⟨rfl, rfl⟩, rfl, rfl, delH_same, rfl, I1.bare, rs, q ne⟩
end
/-- the reading: nothing that stood is gone; the dict tells the field -/
theorem sent_by {H0 H1 H' : Hp} {C a : Addr} {f : Str} {v : V} {Q : XK} (fr : H0 a = none) (er : ErrAt H' a C [(f, v)]) (k : ∀ b o, H1 b = some o → H' b = some o) (n : H1 a = none) (q : ∀ (d : Addr) (G : Hp), Same H1 G → G d = some (exd d [(f, v)]) → Q (.ref C) (some d) G) : Sent H0 C Q (.ref a) H' := by
  rcases er with ⟨d, h1, h2⟩ | ⟨h0, _⟩
  · refine ⟨a, d, _, rfl, h1, fr0_none fr, h2, fun ne => q d _ (fun b o e => ?_) ?_⟩
    · rw [delH_ne (ne_of_none e n)]
      exact k b o e
    · rw [delH_ne (Ne.symm ne)]
      exact h2
  · cases h0
/-- what the written part says of an own error with a field -/
structure ErrF (P : Program) (K : Frag) (mg : Str → Option Value) (x f : Str) (C : Addr) : Prop where
  g : mg x = some (.ref C)
  e : ErrC P K mg C f
  b : PySem.W.subIn K (.ref C) (.type "BaseException") = some true
  t : PySem.W.typeIn K (.ref C) = some (.type "type")
theorem ErrF.raises {X : Cx} {P : Program} {x f : Str} {C : Addr} (T : ErrF P X.K X.mg x f C) : Raises X (.ref C) := raises_own T.b T.t
end Hn

set_option maxHeartbeats 4000000
/-! slices of a tuple -/
namespace Hn
open PySem PySem.Spec PyProof.Rows L2 EF
open PySem.W (Frag keepIn)
theorem cut_all {xs : List V} {lo hi : Option Int} (h : HT.sIx xs.length 0 lo = 0 ∧ HT.sIx xs.length xs.length hi = xs.length) : cutV xs lo hi = xs := by
  unfold cutV
  rw [h.1, h.2, Nat.sub_zero, List.drop_zero, List.take_length]
theorem sl_any {K : Frag} {H : Hp} {a : Addr} {xs : List V} {lo hi : Option Int} {Q : VK} (h : SqT K H a xs) (q : ∀ p H', Same H H' → SqT K H' p (cutV xs lo hi) → Q (.ref p) H') : rSlA K (.ref a) lo hi H Q :=
  ⟨a, xs, rfl, h, fun e => q a H (Same.refl H) (by rw [cut_all e]; exact h), fun _ p np => q p _ (same_new np) (SqT.of upd_same)⟩
theorem cut_init (xs : List V) : cutV xs none (some (-1)) = xs.take (xs.length - 1) := by
  have e : HT.sIx xs.length xs.length (some (-1)) = xs.length - 1 := by
    show (if (-1 : Int) < 0 then ((-1 : Int) + (xs.length : Int)).toNat else min (-1 : Int).toNat xs.length) = _
    rw [if_pos (by decide)]
    omega
  unfold cutV
  rw [e, HT.sIx_none, List.drop_zero, Nat.sub_zero]
/-- from the i-th on -/
theorem cut_from (xs : List V) (i : Nat) : cutV xs (some (i : Int)) none = xs.drop i := by
  have e : HT.sIx xs.length 0 (some (i : Int)) = min i xs.length := HT.sIx_nat xs.length 0 i
  unfold cutV
  rw [e, HT.sIx_none]
  rcases Nat.lt_or_ge i xs.length with h | h
  · rw [Nat.min_eq_left (Nat.le_of_lt h)]
    exact List.take_of_length_le (by rw [List.length_drop]; exact Nat.le_refl _)
  · rw [Nat.min_eq_right h, List.drop_length, List.take_nil, List.drop_eq_nil_of_le h]
/-- up to the i-th -/
theorem cut_to (xs : List V) (i : Nat) : cutV xs none (some (i : Int)) = xs.take i := by
  have e : HT.sIx xs.length xs.length (some (i : Int)) = min i xs.length := HT.sIx_nat xs.length xs.length i
  unfold cutV
  rw [e, HT.sIx_none, List.drop_zero, Nat.sub_zero]
  rcases Nat.lt_or_ge i xs.length with h | h
  · rw [Nat.min_eq_left (Nat.le_of_lt h)]
  · rw [Nat.min_eq_right h, List.take_length, List.take_of_length_le h]
/-- from the i-th up to the j-th -/
theorem cut_part (xs : List V) (i j : Nat) : cutV xs (some (i : Int)) (some (j : Int)) = (xs.drop i).take (j - i) := by
  have e : HT.sIx xs.length 0 (some (i : Int)) = min i xs.length := HT.sIx_nat xs.length 0 i
  have e2 : HT.sIx xs.length xs.length (some (j : Int)) = min j xs.length := HT.sIx_nat xs.length xs.length j
  unfold cutV
  rw [e, e2]
  rcases Nat.lt_or_ge i xs.length with h | h
  · rw [Nat.min_eq_left (Nat.le_of_lt h)]
    rcases Nat.lt_or_ge j xs.length with k | k
    · rw [Nat.min_eq_left (Nat.le_of_lt k)]
    · rw [Nat.min_eq_right k, List.take_of_length_le (by rw [List.length_drop]; exact Nat.le_refl _), List.take_of_length_le (by rw [List.length_drop]; omega)]
  · rw [Nat.min_eq_right h, List.drop_length, List.drop_eq_nil_of_le h, List.take_nil, List.take_nil]
end Hn

set_option maxHeartbeats 4000000
/-! subscripts, slices, truth, calls of built-ins, calls of own defs; what is dropped behind a call -/
namespace Pl
open PySem PySem.Spec PyProof.Rows L2 Hn
open PySem.W (Frag keepIn)
theorem hu65 {A : Around} {k : Nat} (hr : Room k A) : A.units + 65 < cLine := by have := hr.un; omega
/-! ### subscripts -/
def ixD (a i : D) (st : Sto) : R D := match isDct st a with
  | true => ofOpt (dlook st a i) fun o => ofOpt o fun d => .ok d st
  | false => match a with
    | .str s => match i with
      | .int j => guardR (s.length ≤ lim) (ofOpt (atI s.cps.toList j) fun c => .ok (.str ⟨#[c]⟩) st)
      | _ => .no
    | a => match i with
      | .int j => ofOpt (itemsS st a) fun xs => ofOpt (atI xs j) fun d => .ok d st
      | _ => .no
@[simp] theorem ixD_tup {xs : List D} {j : Int} {st : Sto} : ixD (.tup xs) (.int j) st = ofOpt (atI xs j) fun d => .ok d st := rfl
@[simp] theorem ixD_lst {xs : List D} {j : Int} {st : Sto} : ixD (.lst xs) (.int j) st = ofOpt (atI xs j) fun d => .ok d st := rfl
@[simp] theorem ixD_rol {xs : List D} {j : Int} {st : Sto} : ixD (.rol xs) (.int j) st = ofOpt (atI xs j) fun d => .ok d st := rfl
theorem ixD_loc {n : Nat} {xs : List D} {j : Int} {st : Sto} (h : st[n]? = some (.lst xs)) : ixD (.loc n) (.int j) st = ofOpt (atI xs j) fun d => .ok d st := by
  simp only [ixD, isDct, h, itemsS, itemsR, ofOpt_some]
section
variable {g : G} {W : WX} {X : Cx} {a b : Expr} {ma mb : Env → Sto → R D} {pos : Pos} {σ : L2.St} {μ μ1 : Mu} {H H1 : Hp} {ρ : Env} {st : Sto}
theorem _root_.L2.PE.or {X : Cx} {e : Expr} {t t' : TE} (h : PE X e t) (h' : PE X e t') : PE X e (fun σ H Q => t σ H Q ∨ t' σ H Q) := ⟨fun pins s σ H Q I q => q.elim (h.run pins s σ H Q I) (h'.run pins s σ H Q I)⟩
def rIxA (K : Frag) : R2 := fun x y H Q => rIxL K x y H Q ∨ (rIxT K x y H Q ∨ rIxS x y H Q)
theorem ix_A (hK : X.K = g.K) : IxR X (rIxA g.K) := by
  rw [← hK]
  exact ix_list.or (ix_tup.or ix_str)
/-- what stands at the same place -/
theorem atI_at {ds : List D} {vs : List V} {j : Int} {d : D} (r : RVs g μ H ds vs) (e : atI ds j = some d) : ∃ v, atI vs j = some v ∧ RV g μ H d v := by
  unfold atI at e ⊢
  rw [r.length]
  cases h : ixN ds.length j with
  | none => rw [h] at e; cases e
  | some n =>
    rw [h] at e
    obtain ⟨v, h1, h2⟩ := r.at (show ds[n]? = some d from e)
    exact ⟨v, h1, h2⟩
theorem pm_ix (hK : X.K = g.K) (hu : X.A.units + 65 < cLine) (ha : PM g W X a ma) (hb : PM g W X b mb) (hs : PlainIx b) (hn : NoSl b) : PM g W X (.Subscript a b pos) (mBin ixD ma mb) :=
  ((pe_dget (by omega) ha hb hn).or (pe_ix (ix_A hK) ha hb hs)).imp fun σ H Q ⟨μ, ρ, st, rel, p⟩ => by
    by_cases hd : ∃ dx st1 dy st2, ma ρ st = .ok dx st1 ∧ mb ρ st1 = .ok dy st2 ∧ isDct st2 dx = true
    · obtain ⟨dx, st1, dy, st2, e1, e2, e3⟩ := hd
      refine .inl (tG_bindE rel p fun μ1 dx' st1' x H1 e1' go1 rel1 rv1 p1 => tG_bindE rel1 p1 fun μ2 dy' st2' y H2 e2' go2 rel2 rv2 p2 => ?_)
      rw [e1] at e1'
      cases e1'
      rw [e2] at e2'
      cases e2'
      unfold ixD at p2
      rw [e3] at p2
      obtain ⟨o, e4, p2⟩ := post_opt p2
      obtain ⟨d, rfl, p2⟩ := post_opt p2
      obtain ⟨l, ov, rfl, gg, ro⟩ := dlook_at rel2.sto (rv1.go go2) rv2 e4
      cases ov with
      | none => exact ro.elim
      | some v => exact ⟨l, v, rfl, gg, PostG.now p2 rel2.sto ro⟩
    · refine .inr (tG_bindE rel p fun μ1 dx st1 x H1 e1 go1 rel1 rv1 p1 => tG_bindE rel1 p1 fun μ2 dy st2 y H2 e2 go2 rel2 rv2 p2 => ?_)
      have e3 : isDct st2 dx = false := by
        cases h : isDct st2 dx with
        | false => rfl
        | true => exact absurd ⟨dx, st1, dy, st2, e1, e2, h⟩ hd
      unfold ixD at p2
      rw [e3] at p2
      simp only at p2
      split at p2
      · split at p2
        · obtain ⟨hl, p2⟩ := post_guard p2
          obtain ⟨c, e4, p2⟩ := post_opt p2
          exact .inr (.inr ⟨_, _, c, rv1.go go2, rv2, lim_le hl, e4, PostG.now p2 rel2.sto rfl⟩)
        · exact p2.elim
      · split at p2
        · obtain ⟨xs, e4, p2⟩ := post_opt p2
          obtain ⟨d, e5, p2⟩ := post_opt p2
          obtain ⟨l, vs, rfl, hl, r⟩ := itemsS_at rel2.sto (rv1.go go2) e4
          obtain ⟨v, e6, rv⟩ := atI_at r e5
          rcases hl with hl | hl
          · exact .inr (.inl ⟨l, vs, _, v, rfl, rv2, hl, e6, PostG.now p2 rel2.sto rv⟩)
          · exact .inl ⟨l, vs, _, v, rfl, rv2, hl, e6, PostG.now p2 rel2.sto rv⟩
        · exact p2.elim
/-! ### slices -/
def cutD (xs : List D) (lo hi : Option Int) : List D := (xs.drop (HT.sIx xs.length 0 lo)).take (HT.sIx xs.length xs.length hi - HT.sIx xs.length 0 lo)
theorem cut_at {ds : List D} {vs : List V} {lo hi : Option Int} (r : RVs g μ H ds vs) : RVs g μ H (cutD ds lo hi) (cutV vs lo hi) := by
  unfold cutD cutV
  rw [r.length]
  exact (r.drop _).take _
abbrev MO := Env → Sto → R (Option Int)
@[simp] def mNoPart (_ : Env) (st : Sto) : R (Option Int) := .ok none st
@[simp] def intOf (d : D) (st : Sto) : R (Option Int) := match d with
  | .int i => .ok (some i) st
  | _ => .no
@[simp] def mPart (m : Env → Sto → R D) (ρ : Env) (st : Sto) : R (Option Int) := (m ρ st).bind intOf
abbrev PMO (g : G) (W : WX) (X : Cx) (e : Option Expr) (m : MO) : Prop := PO X e (tG g W (fun _ _ a b => b = a) m)
theorem _root_.L2.PO.imp {X : Cx} {e : Option Expr} {t t' : TO} (h : PO X e t) (k : ∀ σ H Q, t' σ H Q → t σ H Q) : PO X e t' := ⟨fun pins s σ H Q I q => h.run pins s σ H Q I (k _ _ _ q)⟩
theorem pmo_none : PMO g W X none mNoPart := po_none.imp fun σ H Q ⟨μ, ρ, st, rel, p⟩ => PostG.now p rel.sto rfl
theorem pmo_some (h : PM g W X a ma) : PMO g W X (some a) (mPart ma) := (po_some h).imp fun σ H Q ⟨μ, ρ, st, rel, p⟩ => tG_bind rel p fun μ1 d st1 x H1 go1 rel1 rv1 p1 => by
  cases d with
  | int i => exact ⟨i, rv1, PostG.now (show PostG g W σ μ1 H1 _ (.ok (some i) st1) Q from p1) rel1.sto rfl⟩
  | _ => exact p1.elim
def slD (d : D) (lo hi : Option Int) (st : Sto) : R D := match d with
  | .tup xs => .ok (.tup (cutD xs lo hi)) st
  | d => ofOpt (itemsR st d) fun xs => .ok (.lst (cutD xs lo hi)) st
@[simp] theorem slD_tup {xs : List D} {lo hi : Option Int} {st : Sto} : slD (.tup xs) lo hi st = .ok (.tup (cutD xs lo hi)) st := rfl
@[simp] theorem slD_lst {xs : List D} {lo hi : Option Int} {st : Sto} : slD (.lst xs) lo hi st = .ok (.lst (cutD xs lo hi)) st := rfl
@[simp] theorem slD_rol {xs : List D} {lo hi : Option Int} {st : Sto} : slD (.rol xs) lo hi st = .ok (.lst (cutD xs lo hi)) st := rfl
@[simp] def mSl (ma : Env → Sto → R D) (ml mh : MO) (ρ : Env) (st : Sto) : R D := (ma ρ st).bind fun x st1 => (ml ρ st1).bind fun l st2 => (mh ρ st2).bind fun h st3 => slD x l h st3
theorem sl_A (hK : X.K = g.K) : SlR X (fun x lo hi H Q => rSlA g.K x lo hi H Q ∨ rSlL g.K x lo hi H Q) := by
  rw [← hK]
  exact sl_tupA.or sl_list
variable {ml mh : MO} {lo hi : Option Expr} {p2 : Pos}
theorem pm_slice (hK : X.K = g.K) (ha : PM g W X a ma) (hl : PMO g W X lo ml) (hh : PMO g W X hi mh) : PM g W X (.Subscript a (.Slice lo hi none p2) pos) (mSl ma ml mh) :=
  (pe_slice (sl_A hK) ha hl hh).imp fun σ H Q ⟨μ, ρ, st, rel, p⟩ => tG_bind rel p fun μ1 dx st1 x H1 go1 rel1 rv1 p1 => tG_bind (Rp := fun _ _ a b => b = a) rel1 p1 fun μ2 l st2 l' H2 go2 rel2 e2 p2 => tG_bind (Rp := fun _ _ a b => b = a) rel2 p2 fun μ3 h st3 h' H3 go3 rel3 e3 p3 => by
    cases (show l' = l from e2)
    cases (show h' = h from e3)
    have rv := (rv1.go go2).go go3
    unfold slD at p3
    split at p3
    · rename_i xs
      obtain ⟨q, vs, rfl, k, r⟩ := rv
      exact .inl ⟨q, vs, rfl, SqT.of k.2, fun e => PostG.now p3 rel3.sto ⟨q, vs, rfl, k, by rw [← cut_all e]; exact cut_at r⟩, fun _ t ht => new_tup rel3.sto (cut_at r) p3 ht⟩
    · obtain ⟨xs, e4, p3⟩ := post_opt p3
      obtain ⟨q, vs, rfl, k, r⟩ := itemsR_at rel3.sto rv e4
      exact .inr ⟨q, vs, rfl, k, fun t ht => new_lst rel3.sto (cut_at r) p3 ht⟩
end
/-! ### truth -/
def truD (st : Sto) : D → Option Bool
  | .non => some false
  | .bl b => some b
  | .int i => some (i != 0)
  | .tup xs => some !xs.isEmpty
  | .lst xs => some !xs.isEmpty
  | .rol xs => some !xs.isEmpty
  | .loc n => match st[n]? with
    | some (.lst xs) => some !xs.isEmpty
    | some (.dct kvs) => some !kvs.isEmpty
    | _ => none
  | .dct ks vs => some !ks.isEmpty
  | _ => none
@[simp] def mTru (m : Env → Sto → R D) (ρ : Env) (st : Sto) : R Bool := (m ρ st).bind fun d st1 => ofOpt (truD st1 d) fun b => .ok b st1
theorem emp_at {g : G} {μ : Mu} {H : Hp} {ds : List D} {vs : List V} (r : RVs g μ H ds vs) : ds.isEmpty = vs.isEmpty := by
  cases ds with
  | nil => rw [show vs = [] from r]; rfl
  | cons d ds => obtain ⟨v, w, rfl, _⟩ := r; rfl
theorem map_emp {α β : Type} {f : α → β} {l : List α} : (l.map f).isEmpty = l.isEmpty := by cases l <;> rfl
section
variable {g : G} {W : WX} {X : Cx} {a b : Expr} {ma mb : Env → Sto → R D} {pos : Pos} {σ : L2.St} {μ μ1 : Mu} {H H1 : Hp} {ρ : Env} {st : Sto}
theorem tru_at {d : D} {x : V} {b : Bool} (S : RS g μ H st) (h : RV g μ H d x) (e : truD st d = some b) : TruV g.K x H b := by
  cases d with
  | non => cases e; rw [show x = V.non from h]; rfl
  | bl c => cases e; rw [show x = V.bl _ from h]; rfl
  | int i => cases e; rw [show x = V.int i from h]; rfl
  | str s => cases e
  | tup xs => obtain ⟨q, vs, rfl, k, r⟩ := h; cases e; rw [emp_at r]; exact .inr (.inl ⟨vs, SqT.of k.2, rfl⟩)
  | lst xs => obtain ⟨q, vs, rfl, k, r⟩ := h; cases e; rw [emp_at r]; exact .inl ⟨vs, SqL.of k.2, rfl⟩
  | rol xs => obtain ⟨q, vs, rfl, k, r⟩ := h; cases e; rw [emp_at r]; exact .inl ⟨vs, sqL_of k, rfl⟩
  | dct ks xs =>
    obtain ⟨q, kvs, rfl, k, e5, r⟩ := h
    cases e
    rw [← e5, map_emp]
    exact .inr (.inr ⟨kvs, k.2, rfl⟩)
  | loc n =>
    obtain ⟨q, rfl, k⟩ := h
    unfold truD at e
    simp only at e
    split at e
    · rename_i xs e2
      cases e
      obtain ⟨vs, e4, r⟩ := S.at_ n _ q e2 k
      rw [emp_at r]
      exact .inl ⟨vs, SqL.of e4, rfl⟩
    · rename_i kvs e2
      cases e
      obtain ⟨vs, e4, e5, r⟩ := S.at_ n _ q e2 k
      rw [← map_emp (f := (·.1)), ← e5, map_emp]
      exact .inr (.inr ⟨vs, e4, rfl⟩)
    · cases e
  | nam _ => cases e
  | err _ _ => cases e
theorem pmt_truth (hK : X.K = g.K) (ha : PM g W X a ma) (he : ∀ whole, isTrue a X.env whole = (do let v ← whole; standAt a.pos; holding [v] (truthy v))) : PMT g W X a (mTru ma) :=
  (pt_truth ha he).imp fun σ H Q ⟨μ, ρ, st, rel, p⟩ => tG_bind rel p fun μ1 d st1 x H1 go1 rel1 rv1 p1 => by
    obtain ⟨k, e, p1⟩ := post_opt p1
    rw [hK]
    exact ⟨k, tru_at rel1.sto rv1 e, PostG.now p1 rel1.sto rfl⟩
end
end Pl

set_option maxHeartbeats 4000000
/-! calls of built-ins -/
namespace Pl
open PySem PySem.Spec PyProof.Rows L2 Hn
open PySem.W (Frag keepIn)
def CM (g : G) (r : List V → Hp → VK → Prop) (mo : List D → Sto → R D) : Prop := ∀ (W : WX) (σ : L2.St) (μ : Mu) (H : Hp) (st : Sto) (vs : List V) (ds : List D) (Q : VK), RS g μ H st → RVs g μ H ds vs → PostG g W σ μ H (RV g) (mo ds st) Q → r vs H Q
@[simp] def mCall (mo : List D → Sto → R D) (ms : Env → Sto → R (List D)) (ρ : Env) (st : Sto) : R D := (ms ρ st).bind mo
def blsD : List D → Option (List Bool)
  | [] => some []
  | .bl i :: ds => match blsD ds with
    | some is => some (i :: is)
    | none => none
  | _ => none
@[simp] theorem bls_map : ∀ ns : List Bool, blsD (ns.map D.bl) = some ns
  | [] => rfl
  | n :: ns => by simp only [List.map_cons, blsD, bls_map ns]
theorem bls_eq : ∀ {ds : List D} {ns : List Bool}, blsD ds = some ns → ds = ns.map D.bl
  | [], _, e => by cases e; rfl
  | d :: ds, _, e => by
    unfold blsD at e
    split at e
    · cases ‹_ = []›
    · rename_i e0
      cases e0
      split at e
      · rename_i e1
        cases e
        rw [bls_eq e1]
        rfl
      · cases e
    · cases e
def lenD (ds : List D) (st : Sto) : R D := match ds with
  | [.str s] => guardR (s.length ≤ lim) (.ok (.int s.length) st)
  | [.dct ks vs] => .ok (.int ks.length) st
  | [.loc n] => match st[n]? with
    | some (.lst xs) => .ok (.int xs.length) st
    | some (.dct kvs) => .ok (.int kvs.length) st
    | _ => .no
  | [d] => ofOpt (itemsS st d) fun xs => .ok (.int xs.length) st
  | _ => .no
@[simp] theorem lenD_tup {xs : List D} {st : Sto} : lenD [.tup xs] st = .ok (.int xs.length) st := rfl
@[simp] theorem lenD_lst {xs : List D} {st : Sto} : lenD [.lst xs] st = .ok (.int xs.length) st := rfl
@[simp] theorem lenD_rol {xs : List D} {st : Sto} : lenD [.rol xs] st = .ok (.int xs.length) st := rfl
theorem lenD_loc {n : Nat} {xs : List D} {st : Sto} (h : st[n]? = some (.lst xs)) : lenD [.loc n] st = .ok (.int xs.length) st := by simp only [lenD, h]
@[simp] def absD (ds : List D) (st : Sto) : R D := match ds with
  | [.int i] => .ok (.int (if i < 0 then -i else i)) st
  | _ => .no
@[simp] def intD (ds : List D) (st : Sto) : R D := match ds with
  | [.int i] => .ok (.int i) st
  | [.bl b] => .ok (.int (if b then 1 else 0)) st
  | _ => .no
@[simp] def min2D (ds : List D) (st : Sto) : R D := match ds with
  | [.int i, .int j] => .ok (.int (if j < i then j else i)) st
  | _ => .no
@[simp] def max2D (ds : List D) (st : Sto) : R D := match ds with
  | [.int i, .int j] => .ok (.int (if j > i then j else i)) st
  | _ => .no
def sumD (ds : List D) (st : Sto) : R D := match ds with
  | [d] => ofOpt (itemsR st d) fun xs => ofOpt (intsD xs) fun ns => .ok (.int ns.sum) st
  | _ => .no
def allD (ds : List D) (st : Sto) : R D := match ds with
  | [d] => ofOpt (itemsR st d) fun xs => ofOpt (blsD xs) fun bs => .ok (.bl (bs.all id)) st
  | _ => .no
def anyD (ds : List D) (st : Sto) : R D := match ds with
  | [d] => ofOpt (itemsR st d) fun xs => ofOpt (blsD xs) fun bs => .ok (.bl (bs.any id)) st
  | _ => .no
@[simp] theorem sumD_lst {xs : List D} {st : Sto} : sumD [.lst xs] st = ofOpt (intsD xs) fun ns => .ok (.int ns.sum) st := rfl
@[simp] theorem allD_lst {xs : List D} {st : Sto} : allD [.lst xs] st = ofOpt (blsD xs) fun ns => .ok (.bl (ns.all id)) st := rfl
@[simp] theorem anyD_lst {xs : List D} {st : Sto} : anyD [.lst xs] st = ofOpt (blsD xs) fun ns => .ok (.bl (ns.any id)) st := rfl
def listD (ds : List D) (st : Sto) : R D := match ds with
  | [d] => ofOpt (itemsS st d) fun xs => .ok (.lst xs) st
  | _ => .no
def listM (ds : List D) (st : Sto) : R D := match ds with
  | [d] => ofOpt (itemsS st d) fun xs => .ok (.loc st.length) (st ++ [.lst xs])
  | _ => .no
def tupleD (ds : List D) (st : Sto) : R D := match ds with
  | [.tup xs] => .ok (.tup xs) st
  | [d] => ofOpt (itemsR st d) fun xs => .ok (.tup xs) st
  | _ => .no
@[simp] theorem listD_tup {xs : List D} {st : Sto} : listD [.tup xs] st = .ok (.lst xs) st := rfl
@[simp] theorem listD_lst {xs : List D} {st : Sto} : listD [.lst xs] st = .ok (.lst xs) st := rfl
@[simp] theorem listM_tup {xs : List D} {st : Sto} : listM [.tup xs] st = .ok (.loc st.length) (st ++ [.lst xs]) := rfl
@[simp] theorem tupleD_lst {xs : List D} {st : Sto} : tupleD [.lst xs] st = .ok (.tup xs) st := rfl
@[simp] theorem tupleD_tup {xs : List D} {st : Sto} : tupleD [.tup xs] st = .ok (.tup xs) st := rfl
theorem tupleD_loc {n : Nat} {xs : List D} {st : Sto} (h : st[n]? = some (.lst xs)) : tupleD [.loc n] st = .ok (.tup xs) st := by simp only [tupleD, itemsR, h, ofOpt_some]
/-- ascending ints -/
def sortZ (ns : List Int) : List Int := ns.mergeSort fun a b => decide (a ≤ b)
def pdOf (d : D) : PyData := (toP d).getD .none
def sortP (ds : List D) : List D := ds.mergeSort fun a b => PySem.W.dataLe false pdOf a b
def SortOk (ps : List PyData) : Prop := PySem.W.AllAlike ps ∧ PySem.W.Sortable ps ∧ ∀ p ∈ ps, p.depth ≤ 7
open Classical in
noncomputable def sortedL (xs : List D) (st : Sto) : R D := match intsD xs with
  | some ns => .ok (.lst ((sortZ ns).map D.int)) st
  | none => ofOpt (toPs xs) fun ps => guardR (SortOk ps) (.ok (.lst (sortP xs)) st)
def keysI : List Key → Option (List Int)
  | [] => some []
  | .inl i :: ks => match keysI ks with
    | some is => some (i :: is)
    | none => none
  | _ => none
def sortedKs (ks : List Key) (st : Sto) : R D := ofOpt (keysI ks) fun ns => guardR (ns.length < 64) (.ok (.lst ((sortZ ns).map D.int)) st)
noncomputable def sortedD (ds : List D) (st : Sto) : R D := match ds with
  | [.dct ks vs] => sortedKs ks st
  | [.loc n] => match st[n]? with
    | some (.lst xs) => sortedL xs st
    | some (.dct kvs) => sortedKs (kvs.map (·.1)) st
    | _ => .no
  | [d] => ofOpt (itemsR st d) fun xs => sortedL xs st
  | _ => .no
@[simp] theorem sortedD_lst {xs : List D} {st : Sto} : sortedD [.lst xs] st = sortedL xs st := rfl
theorem sortedL_ints {ns : List Int} {st : Sto} : sortedL (ns.map D.int) st = .ok (.lst ((sortZ ns).map D.int)) st := by simp only [sortedL, ints_map]
theorem sortZ_perm (ns : List Int) : (sortZ ns).Perm ns := List.mergeSort_perm _ _
theorem sortZ_le (ns : List Int) : (sortZ ns).Pairwise (· ≤ ·) :=
  (List.pairwise_mergeSort (le := fun a b : Int => decide (a ≤ b)) (fun a b c h1 h2 => decide_eq_true (Int.le_trans (of_decide_eq_true h1) (of_decide_eq_true h2))) (fun a b => by
    rcases Int.le_total a b with h | h
    · simp [h]
    · simp [h]) ns).imp fun h => of_decide_eq_true h
theorem sortZ_uniq {ns ms : List Int} (p : ms.Perm ns) (w : ms.Pairwise (· ≤ ·)) : ms = sortZ ns :=
  List.Perm.eq_of_pairwise (fun a b _ _ h1 h2 => Int.le_antisymm h1 h2) w (sortZ_le ns) (p.trans (sortZ_perm ns).symm)
section
variable {g : G} {W : WX} {X : Cx} {e : Expr} {es : List Expr} {ms : Env → Sto → R (List D)} {p pos : Pos} {σ : L2.St} {μ μ1 : Mu} {H H1 : Hp} {ρ : Env} {st : Sto} {r : List V → Hp → VK → Prop} {mo : List D → Sto → R D} {x : Str} {id : String}
theorem pm_callB (hc : CallR X (.builtin id) r) (hm : CM g r mo) (hg : Gl X x) (hmg : X.mg x = none) (hv : bootBuiltins x = some (.builtin id)) (ha : PMA g W X (e :: es) ms) (hn : x ≠ "__name__" := by decide) (hdb : (x == ("__debug__" : Str)) = false := by decide)
    (he : starEach (e :: es) X.env = (false, eval e X.env) :: starEach es X.env := by rfl) (hpl : (backTo pos (starEach es X.env)).any (·.1) = false := by rfl) : PM g W X (.Call (.Name x p) (e :: es) [] pos) (mCall mo ms) :=
  (pe_callB hc hg hmg hv ha hn hdb he hpl).imp fun σ H Q ⟨μ, ρ, st, rel, p⟩ => tG_bind rel p fun μ1 ds st1 vs H1 go1 rel1 rv1 p1 => hm W σ μ1 H1 st1 vs ds Q rel1.sto rv1 p1
theorem pm_callTy (hc : CallR X (.type id) r) (hm : CM g r mo) (hg : Gl X x) (hmg : X.mg x = none) (hv : bootBuiltins x = some (.type id)) (ha : PMA g W X (e :: es) ms) (hn : x ≠ "__name__" := by decide) (hdb : (x == ("__debug__" : Str)) = false := by decide)
    (he : starEach (e :: es) X.env = (false, eval e X.env) :: starEach es X.env := by rfl) (hpl : (backTo pos (starEach es X.env)).any (·.1) = false := by rfl) : PM g W X (.Call (.Name x p) (e :: es) [] pos) (mCall mo ms) :=
  (pe_callTy hc hg hmg hv ha hn hdb he hpl).imp fun σ H Q ⟨μ, ρ, st, rel, p⟩ => tG_bind rel p fun μ1 ds st1 vs H1 go1 rel1 rv1 p1 => hm W σ μ1 H1 st1 vs ds Q rel1.sto rv1 p1
theorem one_at {d : D} {vs : List V} (h : RVs g μ H [d] vs) : ∃ v, vs = [v] ∧ RV g μ H d v := by
  obtain ⟨v, r, rfl, h1, h2⟩ := h
  cases (show r = [] from h2)
  exact ⟨v, rfl, h1⟩
theorem two_at {d d' : D} {vs : List V} (h : RVs g μ H [d, d'] vs) : ∃ v v', vs = [v, v'] ∧ RV g μ H d v ∧ RV g μ H d' v' := by
  obtain ⟨v, r, rfl, h1, h2⟩ := h
  obtain ⟨v', rfl, h3⟩ := one_at h2
  exact ⟨v, v', rfl, h1, h3⟩
def rLenA (K : Frag) : List V → Hp → VK → Prop := fun vs H Q => Hn.rLen K vs H Q ∨ ((∃ z, vs = [.str z] ∧ z.length ≤ sizeLine ∧ Q (.int z.length) H) ∨ ∃ a kvs, vs = [V.ref a] ∧ H a = some (.dK kvs) ∧ Q (.int kvs.length) H)
theorem call_lenA (hK : X.K = g.K) : CallR X (.builtin "len") (rLenA g.K) := orCall (lenK hK) (orCall call_len_str call_lenD)
theorem cm_len : CM g (rLenA g.K) lenD := by
  intro W σ μ H st vs ds Q S rv p
  unfold lenD at p
  split at p
  · obtain ⟨v, rfl, h⟩ := one_at rv
    obtain ⟨hl, p⟩ := post_guard p
    exact .inr (.inl ⟨_, by rw [show v = _ from h], lim_le hl, PostG.now p S rfl⟩)
  · obtain ⟨v, rfl, a, kvs, rfl, k, e5, r⟩ := one_at rv
    refine .inr (.inr ⟨a, kvs, rfl, k.2, ?_⟩)
    rw [← e5, List.length_map] at p
    exact PostG.now p S rfl
  · obtain ⟨v, rfl, a, rfl, k⟩ := one_at rv
    split at p
    · rename_i xs e2
      obtain ⟨vs, e4, r⟩ := S.at_ _ _ a e2 k
      rw [← r.length] at p
      exact .inl ⟨a, vs, rfl, .inl (SqL.of e4), PostG.now p S rfl⟩
    · rename_i kvs e2
      obtain ⟨vs, e4, e5, r⟩ := S.at_ _ _ a e2 k
      have hl : kvs.length = vs.length := by
        have := congrArg List.length e5
        rw [List.length_map, List.length_map] at this
        exact this.symm
      rw [hl] at p
      exact .inr (.inr ⟨a, vs, rfl, e4, PostG.now p S rfl⟩)
    · exact p.elim
  · obtain ⟨v, rfl, h⟩ := one_at rv
    obtain ⟨xs, e1, p⟩ := post_opt p
    obtain ⟨a, vs, rfl, k, r⟩ := itemsS_at S h e1
    rw [← r.length] at p
    exact .inl ⟨a, vs, rfl, k.symm, PostG.now p S rfl⟩
  · exact p.elim
theorem cm_abs : CM g (fun xs H Q => ∃ i, xs = [V.int i] ∧ Q (.int (if i < 0 then -i else i)) H) absD := by
  intro W σ μ H st vs ds Q S rv p
  unfold absD at p
  split at p
  · obtain ⟨v, rfl, h⟩ := one_at rv
    exact ⟨_, by rw [show v = _ from h], PostG.now p S rfl⟩
  · exact p.elim
theorem cm_int : CM g (fun xs H Q => (∃ i, xs = [V.int i] ∧ Q (.int i) H) ∨ ∃ k, xs = [V.bl k] ∧ Q (.int (if k then 1 else 0)) H) intD := by
  intro W σ μ H st vs ds Q S rv p
  unfold intD at p
  split at p
  · obtain ⟨v, rfl, h⟩ := one_at rv
    exact .inl ⟨_, by rw [show v = _ from h], PostG.now p S rfl⟩
  · obtain ⟨v, rfl, h⟩ := one_at rv
    exact .inr ⟨_, by rw [show v = _ from h], PostG.now p S rfl⟩
  · exact p.elim
theorem cm_min2 : CM g (fun xs H Q => ∃ i j, xs = [V.int i, .int j] ∧ Q (.int (if j < i then j else i)) H) min2D := by
  intro W σ μ H st vs ds Q S rv p
  unfold min2D at p
  split at p
  · obtain ⟨v, v', rfl, h, h'⟩ := two_at rv
    exact ⟨_, _, by rw [show v = _ from h, show v' = _ from h'], PostG.now p S rfl⟩
  · exact p.elim
theorem cm_max2 : CM g (fun xs H Q => ∃ i j, xs = [V.int i, .int j] ∧ Q (.int (if j > i then j else i)) H) max2D := by
  intro W σ μ H st vs ds Q S rv p
  unfold max2D at p
  split at p
  · obtain ⟨v, v', rfl, h, h'⟩ := two_at rv
    exact ⟨_, _, by rw [show v = _ from h, show v' = _ from h'], PostG.now p S rfl⟩
  · exact p.elim
theorem cm_sum : CM g (rSum g.K) sumD := by
  intro W σ μ H st vs ds Q S rv p
  unfold sumD at p
  split at p
  · obtain ⟨v, rfl, h⟩ := one_at rv
    obtain ⟨xs, e1, p2⟩ := post_opt p
    obtain ⟨ns, e2, p3⟩ := post_opt p2
    obtain ⟨a, vs, rfl, k, r⟩ := itemsR_at S h e1
    obtain rfl := ints_eq e2
    obtain rfl := r.ints
    exact ⟨a, ns, rfl, k, PostG.now p3 S rfl⟩
  · exact p.elim
theorem cm_all : CM g (rAll g.K) allD := by
  intro W σ μ H st vs ds Q S rv p
  unfold allD at p
  split at p
  · obtain ⟨v, rfl, h⟩ := one_at rv
    obtain ⟨xs, e1, p2⟩ := post_opt p
    obtain ⟨ns, e2, p3⟩ := post_opt p2
    obtain ⟨a, vs, rfl, k, r⟩ := itemsR_at S h e1
    obtain rfl := bls_eq e2
    obtain rfl := r.bls
    exact ⟨a, ns, rfl, k, PostG.now p3 S rfl⟩
  · exact p.elim
theorem cm_any : CM g (rAny g.K) anyD := by
  intro W σ μ H st vs ds Q S rv p
  unfold anyD at p
  split at p
  · obtain ⟨v, rfl, h⟩ := one_at rv
    obtain ⟨xs, e1, p2⟩ := post_opt p
    obtain ⟨ns, e2, p3⟩ := post_opt p2
    obtain ⟨a, vs, rfl, k, r⟩ := itemsR_at S h e1
    obtain rfl := bls_eq e2
    obtain rfl := r.bls
    exact ⟨a, ns, rfl, k, PostG.now p3 S rfl⟩
  · exact p.elim
theorem cm_list : CM g (rListOf g.K) listD := by
  intro W σ μ H st vs ds Q S rv p
  unfold listD at p
  split at p
  · obtain ⟨v, rfl, h⟩ := one_at rv
    obtain ⟨xs, e1, p⟩ := post_opt p
    obtain ⟨a, vs, rfl, k, r⟩ := itemsS_at S h e1
    exact ⟨a, vs, rfl, k.symm, fun t ht => new_lst S r p ht⟩
  · exact p.elim
theorem cm_listM : CM g (rListOf g.K) listM := by
  intro W σ μ H st vs ds Q S rv p
  unfold listM at p
  split at p
  · obtain ⟨v, rfl, h⟩ := one_at rv
    obtain ⟨xs, e1, p⟩ := post_opt p
    obtain ⟨a, vs, rfl, k, r⟩ := itemsS_at S h e1
    exact ⟨a, vs, rfl, k.symm, fun t ht => new_lstM S r p ht⟩
  · exact p.elim
theorem cm_tuple : CM g (rTupOf g.K) tupleD := by
  intro W σ μ H st vs ds Q S rv p
  unfold tupleD at p
  split at p
  · obtain ⟨v, rfl, a, vs, rfl, k, r⟩ := one_at rv
    exact ⟨a, vs, rfl, .inr ⟨SqT.of k.2, PostG.now p S ⟨a, vs, rfl, k, r⟩⟩⟩
  · obtain ⟨v, rfl, h⟩ := one_at rv
    obtain ⟨xs, e1, p2⟩ := post_opt p
    obtain ⟨a, vs, rfl, k, r⟩ := itemsR_at S h e1
    exact ⟨a, vs, rfl, .inl ⟨k, fun t ht => new_tup S r p2 ht⟩⟩
  · exact p.elim
/-- pairs of a thing and its datum -/
theorem pairs_at : ∀ {ds : List D} {vs : List V} {ps : List PyData}, RVs g μ H ds vs → toPs ds = some ps → ∃ L : List (V × D), L.map (·.1) = vs ∧ L.map (·.2) = ds ∧ (∀ q ∈ L, RV g μ H q.2 q.1 ∧ toP q.2 = some (pdOf q.2)) ∧ ps = ds.map pdOf
  | [], _, _, h, e => by
    cases e
    exact ⟨[], (show _ = [] from h).symm, rfl, fun _ z => absurd z List.not_mem_nil, rfl⟩
  | d :: ds, _, _, h, e => by
    obtain ⟨v, r, rfl, h1, h2⟩ := h
    unfold toPs at e
    split at e
    · rename_i q qs e1 e2
      cases e
      obtain ⟨L, l1, l2, l3, l4⟩ := pairs_at h2 e2
      have e3 : pdOf d = q := by unfold pdOf; rw [e1]; rfl
      refine ⟨(v, d) :: L, by rw [List.map_cons, l1], by rw [List.map_cons, l2], fun q' hq => ?_, by rw [List.map_cons, e3, l4]⟩
      rcases List.mem_cons.mp hq with rfl | hq
      · exact ⟨h1, by rw [e1, e3]⟩
      · exact l3 q' hq
    · cases e
def rSortM (K : Frag) : List V → Hp → VK → Prop := fun vs H Q => ∃ (a : Addr) (L : List (V × D)), vs = [.ref a] ∧ SqL K H a (L.map (·.1)) ∧ (∀ p ∈ L, Dp K H p.1 (pdOf p.2)) ∧ SortOk (L.map fun p => pdOf p.2) ∧
  ∀ p : Addr, H p = none → Q (.ref p) (upd H p (.lst ((L.mergeSort fun a b => PySem.W.dataLe false pdOf a.2 b.2).map (·.1))))
theorem call_sortM {K : Frag} (e1 : X.K = K) (hu : X.A.units + 65 < cLine) : CallR X (.builtin "sorted") (rSortM K) := by
  subst e1
  rintro pins s σ H vs us Q I r ⟨a, L, rfl, hs, hd, ⟨al, so, dp⟩, q⟩
  obtain ⟨its, rv, hl, hz⟩ := I.list hs
  rw [Vals.ref1 r]
  have e2 : (L.map fun p => ((p.1, pdOf p.2) : V × PyData)).map (·.1) = L.map (·.1) := by rw [List.map_map]; rfl
  have e := each_vals (P := L.map fun p => (p.1, pdOf p.2)) (by rw [e2]; exact rv)
  rw [List.length_map] at hz
  have er : PySem.W.EachIs (fun v p => ∃ as, Reads s.heap v ((fun p : V × PyData => p.2) p) as) its (L.map fun p => (p.1, pdOf p.2)) := by
    have z : ∀ p ∈ L.map (fun p => ((p.1, pdOf p.2) : V × PyData)), ∀ u, RelV p.1 u → ∃ as, Reads s.heap u p.2 as := fun p hp u ru => by
      obtain ⟨w, hw, rfl⟩ := List.mem_map.mp hp
      exact Dp.reads I _ _ u (hd w hw) ru
    revert z e
    generalize (L.map fun p => ((p.1, pdOf p.2) : V × PyData)) = M
    intro e z
    clear q hl hs al so dp hz r rv e2 hd
    induction e with
    | nil => exact .nil
    | cons r t ih => exact .cons (z _ List.mem_cons_self _ r) (ih fun p hp => z p (List.mem_cons_of_mem _ hp))
  have em : (L.map fun p => ((p.1, pdOf p.2) : V × PyData)).map (·.2) = L.map fun p => pdOf p.2 := by rw [List.map_map]; rfl
  refine PySem.W.sorted_data (R := fun v p => RelV p.1 v) (enc := fun p : V × PyData => p.2) hl.isList e er (by rw [em]; exact al) (by rw [em]; exact so) (by rw [List.length_map]; exact hz) (fun p hp => ?_) fun out ho hE => ?_
  · have := dp p.2 (by rw [← em]; exact List.mem_map.mpr ⟨p, hp, rfl⟩)
    omega
  · obtain ⟨c, hc⟩ := PyProof.Rows.sortedAll_at s.heap its out.toArray
    have sm : ((L.map fun p => ((p.1, pdOf p.2) : V × PyData)).mergeSort (PySem.W.dataLe false fun p : V × PyData => p.2)).map (·.1) = (L.mergeSort fun a b => PySem.W.dataLe false pdOf a.2 b.2).map (·.1) := by
      rw [← List.map_mergeSort (r := fun a b : V × D => PySem.W.dataLe false pdOf a.2 b.2) (f := fun p : V × D => ((p.1, pdOf p.2) : V × PyData)) (fun _ _ _ _ => rfl), List.map_map]
      rfl
    have hv := vals_each hE
    rw [sm] at hv
    have hlen : ((L.mergeSort fun a b => PySem.W.dataLe false pdOf a.2 b.2).map (·.1)).length ≤ sizeLine := by
      rw [List.length_map, List.length_mergeSort]
      exact hz
    exact ⟨.ref _, upd H (s.heap.objs.size + 1) (.lst ((L.mergeSort fun a b => PySem.W.dataLe false pdOf a.2 b.2).map (·.1))), I.laid (t' := s.toks) (fun _ _ => PyProof.Rows.sortedAll_old) (Nat.le_succ _) ⟨hlen, out, c, hv, hc⟩, rfl, q _ (I.hok.fresh (Nat.le_succ _))⟩
def rSortK : List V → Hp → VK → Prop := fun xs H Q => ∃ (a : Addr) (kvs : List (Key × V)) (ks : List Int), xs = [.ref a] ∧ Rd H a (.dK kvs) ∧ kvs.map (·.1) = ks.map Sum.inl ∧ ks.length < 64 ∧
    ∀ (ys : List Int) (p : Addr), ys.Perm ks → ys.Pairwise (· ≤ ·) → H p = none → Q (.ref p) (upd H p (.lst (ys.map V.int)))
def rSortedA (K : Frag) : List V → Hp → VK → Prop := fun vs H Q => rSortedI K vs H Q ∨ (rSortM K vs H Q ∨ rSortK vs H Q)
theorem call_sortedA (hK : X.K = g.K) (hc : X.calm = true) (hu : X.A.units + 65 < cLine) : CallR X (.builtin "sorted") (rSortedA g.K) := by
  rw [← hK]
  exact orCall cr_sortedI (orCall (call_sortM rfl hu) (call_sortedDI hc))
theorem keysI_eq : ∀ {ks : List Key} {ns : List Int}, keysI ks = some ns → ks = ns.map Sum.inl
  | [], _, e => by cases e; rfl
  | d :: ds, _, e => by
    unfold keysI at e
    split at e
    · cases ‹_ = []›
    · rename_i e0
      cases e0
      split at e
      · rename_i e1
        cases e
        rw [keysI_eq e1]
        rfl
      · cases e
    · cases e
theorem sortK_k {ks : List Key} {a : Addr} {kvs : List (Key × V)} {Q : VK} (S : RS g μ H st) (ha : H a = some (.dK kvs)) (e5 : kvs.map (·.1) = ks) (p : PostG g W σ μ H (RV g) (sortedKs ks st) Q) : rSortK [.ref a] H Q := by
  obtain ⟨ns, e1, p2⟩ := post_opt p
  obtain ⟨hl, p3⟩ := post_guard p2
  exact ⟨a, kvs, ns, rfl, .inl ha, e5.trans (keysI_eq e1), hl, fun ys t pm w ht => by rw [sortZ_uniq pm w]; exact new_lst S (.ofInts _) p3 ht⟩
theorem sortL_k {xs : List D} {a : Addr} {vs : List V} {Q : VK} (S : RS g μ H st) (k : SqL g.K H a vs) (r : RVs g μ H xs vs) (p : PostG g W σ μ H (RV g) (sortedL xs st) Q) : rSortedA g.K [.ref a] H Q := by
  unfold sortedL at p
  split at p
  · rename_i ns e2
    obtain rfl := ints_eq e2
    obtain rfl := r.ints
    exact .inl ⟨a, ns, rfl, k, fun ys t pm w ht => by rw [sortZ_uniq pm w]; exact new_lst S (.ofInts _) p ht⟩
  · obtain ⟨ps, e1, p2⟩ := post_opt p
    obtain ⟨hl, p3⟩ := post_guard p2
    obtain ⟨L, l1, l2, l3, l4⟩ := pairs_at r e1
    refine .inr (.inl ⟨a, L, rfl, by rw [l1]; exact k, fun q hq => toP_dp (l3 q hq).1 (l3 q hq).2, by rw [l4, ← l2, List.map_map] at hl; exact hl, fun t ht => new_lst S ?_ p3 ht⟩)
    have e3 : sortP xs = (L.mergeSort fun a b => PySem.W.dataLe false pdOf a.2 b.2).map (·.2) := by
      rw [← l2]
      exact (List.map_mergeSort (r := fun a b : V × D => PySem.W.dataLe false pdOf a.2 b.2) (f := fun p : V × D => p.2) (fun _ _ _ _ => rfl)).symm
    rw [e3]
    have al : ∀ M : List (V × D), (∀ q ∈ M, RV g μ H q.2 q.1) → RVs g μ H (M.map (·.2)) (M.map (·.1)) := fun M => by
      induction M with
      | nil => exact fun _ => rfl
      | cons q M ih => exact fun h => ⟨q.1, _, rfl, h q List.mem_cons_self, ih fun z hz => h z (List.mem_cons_of_mem _ hz)⟩
    exact al _ fun q hq => (l3 q ((List.mergeSort_perm _ _).mem_iff.mp hq)).1
theorem cm_sorted : CM g (rSortedA g.K) sortedD := by
  intro W σ μ H st vs ds Q S rv p
  unfold sortedD at p
  split at p
  · obtain ⟨v, rfl, a, kvs, rfl, k, e5, r⟩ := one_at rv
    exact .inr (.inr (sortK_k S k.2 e5 p))
  · obtain ⟨v, rfl, a, rfl, k⟩ := one_at rv
    split at p
    · rename_i xs e2
      obtain ⟨vs, e4, r⟩ := S.at_ _ _ a e2 k
      exact sortL_k S (SqL.of e4) r p
    · rename_i kvs e2
      obtain ⟨vs, e4, e5, r⟩ := S.at_ _ _ a e2 k
      exact .inr (.inr (sortK_k S e4 e5 p))
    · exact p.elim
  · obtain ⟨v, rfl, h⟩ := one_at rv
    obtain ⟨xs, e1, p2⟩ := post_opt p
    obtain ⟨a, vs, rfl, k, r⟩ := itemsR_at S h e1
    exact sortL_k S k r p2
  · exact p.elim
end
end Pl

set_option maxHeartbeats 4000000
/-! own defs: their promise by data, their call; what nobody can reach any more is dropped behind a call -/
namespace Pl
open PySem PySem.Spec PyProof.Rows L2 Hn
open PySem.W (Frag keepIn)
mutual
/-- d names only what stands below n in the store -/
def ClD (n : Nat) : D → Prop
  | .loc m => m < n
  | .tup xs => ClDs n xs
  | .lst xs => ClDs n xs
  | .rol xs => ClDs n xs
  | .dct _ xs => ClDs n xs
  | _ => True
def ClDs (n : Nat) : List D → Prop
  | [] => True
  | d :: ds => ClD n d ∧ ClDs n ds
end
def ClC (n : Nat) : C → Prop
  | .lst xs => ClDs n xs
  | .dct kvs => ClDs n (kvs.map (·.2))
  | .dcT kvs => ClDs n (kvs.map (·.2))
  | .set xs => ClDs n xs
  | .ins _ fs => ClDs n (fs.map (·.2))
/-- what stood in the store is as it was, or names only what stood -/
def Unch (st st' : Sto) : Prop := st.length ≤ st'.length ∧ ∀ i, i < st.length → st'[i]? = st[i]? ∨ ∃ c, st'[i]? = some c ∧ ClC st.length c
open Classical in
noncomputable def gc (st : Sto) (r : R D) : R D := match r with
  | .ok d st' => if ClD st.length d ∧ Unch st st' then .ok d (st'.take st.length) else .ok d st'
  | .er e st' => if ClDs st.length (e.fs.map (·.2)) ∧ Unch st st' then .er e (st'.take st.length) else .er e st'
  | .no => .no
theorem Unch.app (st x : Sto) : Unch st (st ++ x) := ⟨by rw [List.length_append]; omega, fun i h => .inl (List.getElem?_append_left h)⟩
theorem gc_app {st x : Sto} {d : D} (h : ClD st.length d) : gc st (.ok d (st ++ x)) = .ok d st := by
  unfold gc
  simp only
  rw [if_pos ⟨h, Unch.app st x⟩, List.take_left]
theorem gc_same {st : Sto} {d : D} : gc st (.ok d st) = .ok d st := by
  unfold gc
  simp only
  split
  · rw [List.take_length]
  · rfl
theorem gc_er_same {st : Sto} {e : Er} : gc st (.er e st) = .er e st := by
  unfold gc
  simp only
  split
  · rw [List.take_length]
  · rfl
theorem gc_er_app {st x : Sto} {e : Er} (h : ClDs st.length (e.fs.map (·.2))) : gc st (.er e (st ++ x)) = .er e st := by
  unfold gc
  simp only
  rw [if_pos ⟨h, Unch.app st x⟩, List.take_left]
@[simp] theorem gc_no {st : Sto} : gc st .no = .no := rfl
section
variable {g : G} {W : WX} {X : Cx} {σ : L2.St} {μ μ1 : Mu} {ν : List Addr} {H H1 : Hp} {ρ : Env} {st st' : Sto}
mutual
theorem RV.cl : ∀ {d : D} {v : V}, RV g μ H d v → ClD μ.ls.length d
  | .non, _, _ => True.intro
  | .bl _, _, _ => True.intro
  | .int _, _, _ => True.intro
  | .str _, _, _ => True.intro
  | .nam _, _, _ => True.intro
  | .err _ _, _, _ => True.intro
  | .tup xs, _, h => by obtain ⟨_, _, _, _, r⟩ := h; exact RVs.cl r
  | .lst xs, _, h => by obtain ⟨_, _, _, _, r⟩ := h; exact RVs.cl r
  | .rol xs, _, h => by obtain ⟨_, _, _, _, r⟩ := h; exact RVs.cl r
  | .dct _ xs, _, h => by obtain ⟨_, _, _, _, _, r⟩ := h; exact RVs.cl r
  | .loc n, _, h => by obtain ⟨_, _, e⟩ := h; exact (List.getElem?_eq_some_iff.mp e).1
theorem RVs.cl : ∀ {ds : List D} {vs : List V}, RVs g μ H ds vs → ClDs μ.ls.length ds
  | [], _, _ => True.intro
  | d :: ds, _, h => by obtain ⟨_, _, _, h1, h2⟩ := h; exact ⟨RV.cl h1, RVs.cl h2⟩
end
theorem RC.cl {a : Addr} {c : C} (h : RC g μ H a c) : ClC μ.ls.length c := by
  cases c with
  | lst xs => obtain ⟨_, _, r⟩ := h; exact r.cl
  | dct xs => obtain ⟨_, _, _, r⟩ := h; exact r.cl
  | dcT xs => obtain ⟨_, _, _, r⟩ := h; exact r.cl
  | set xs => exact h.elim
  | ins c fs => obtain ⟨_, _, _, _, _, r⟩ := h; exact r.2.cl
def Mu.more (μ : Mu) (ν : List Addr) : Mu := ⟨μ.ls ++ ν, μ.pv⟩
theorem off_less {a : Addr} (k : (μ.more ν).off a) : μ.off a := ⟨fun z => k.1 (List.mem_append_left _ z), k.2⟩
theorem Go.mu {μ' : Mu} (x : Go μ H μ' H1) : ∃ ν, μ' = μ.more ν := by
  obtain ⟨ν, e⟩ := x.ext
  refine ⟨ν, ?_⟩
  have q := x.pv
  cases μ' with
  | mk l p =>
    have e1 : l = μ.ls ++ ν := e
    have e2 : p = μ.pv := q
    rw [e1, e2]
    rfl
mutual
theorem RV.less : ∀ {d : D} {v : V}, RV g (μ.more ν) H d v → ClD μ.ls.length d → RV g μ H d v
  | .non, _, h, _ => h
  | .bl _, _, h, _ => h
  | .int _, _, h, _ => h
  | .str _, _, h, _ => h
  | .nam _, _, h, _ => h
  | .err _ _, _, h, _ => h
  | .tup xs, _, h, c => by
    obtain ⟨a, vs, e, q, r⟩ := h
    exact ⟨a, vs, e, ⟨off_less q.1, q.2⟩, RVs.less r c⟩
  | .lst xs, _, h, c => by
    obtain ⟨a, vs, e, q, r⟩ := h
    exact ⟨a, vs, e, ⟨off_less q.1, q.2⟩, RVs.less r c⟩
  | .rol xs, _, h, c => by
    obtain ⟨a, vs, e, q, r⟩ := h
    exact ⟨a, vs, e, q.imp_left fun q => ⟨off_less q.1, q.2⟩, RVs.less r c⟩
  | .dct _ xs, _, h, c => by
    obtain ⟨a, vs, e, q, k, r⟩ := h
    exact ⟨a, vs, e, ⟨off_less q.1, q.2⟩, k, RVs.less r c⟩
  | .loc n, _, h, c => by
    obtain ⟨a, e, q⟩ := h
    refine ⟨a, e, ?_⟩
    have q2 : (μ.ls ++ ν)[n]? = Option.some a := q
    rw [List.getElem?_append_left (show n < μ.ls.length from c)] at q2
    exact q2
theorem RVs.less : ∀ {ds : List D} {vs : List V}, RVs g (μ.more ν) H ds vs → ClDs μ.ls.length ds → RVs g μ H ds vs
  | [], _, h, _ => h
  | d :: ds, _, h, c => by
    obtain ⟨v, r, e, h1, h2⟩ := h
    exact ⟨v, r, e, RV.less h1 c.1, RVs.less h2 c.2⟩
end
theorem RC.less {a : Addr} {c : C} (h : RC g (μ.more ν) H a c) (k : ClC μ.ls.length c) : RC g μ H a c := by
  cases c with
  | lst xs => obtain ⟨vs, e, r⟩ := h; exact ⟨vs, e, r.less k⟩
  | dct xs => obtain ⟨vs, e, q, r⟩ := h; exact ⟨vs, e, q, r.less k⟩
  | dcT xs => obtain ⟨vs, e, q, r⟩ := h; exact ⟨vs, e, q, r.less k⟩
  | set xs => exact h
  | ins c fs => obtain ⟨C, dx, gs, e, q, r⟩ := h; exact ⟨C, dx, gs, e, q, r.1, r.2.less k⟩
theorem RS.less (S0 : RS g μ H st) (S : RS g (μ.more ν) H1 st') (u : Unch st st') : RS g μ H1 (st'.take st.length) := by
  refine ⟨by rw [List.length_take, Nat.min_eq_left u.1, S0.len], (List.nodup_append.mp (show (μ.ls ++ ν).Nodup from S.nd)).1, fun n c a e1 e2 => ?_, fun a ha => ?_, S.old⟩
  · have hn : n < st.length := by rw [← S0.len]; exact (List.getElem?_eq_some_iff.mp e2).1
    rw [List.getElem?_take, if_pos hn] at e1
    have k := S.at_ n c a e1 (by show (μ.ls ++ ν)[n]? = Option.some a; rw [List.getElem?_append_left (by rw [S0.len]; exact hn)]; exact e2)
    refine k.less ?_
    rcases u.2 n hn with z | ⟨c', z, q⟩
    · rw [z] at e1
      obtain ⟨b, _, r⟩ := S0.addr e1
      exact r.cl
    · rw [z] at e1
      obtain rfl := Option.some.inj e1
      rw [S0.len]
      exact q
  · obtain ⟨h1, h2⟩ := S.pvs a ha
    exact ⟨fun z => h1 (List.mem_append_left _ z), h2⟩
theorem Go.less {μ' : Mu} (x : Go μ H μ' H1) : Go μ H μ H1 := ⟨⟨[], by simp⟩, rfl, fun _ h => .inl h, x.keep⟩
theorem gc_ok {d : D} {Q : VK} (S : RS g μ H st) (p : PostG g W σ μ H (RV g) (gc st (.ok d st')) Q) {μ' : Mu} {v : V} (x : Go μ H μ' H1) (S' : RS g μ' H1 st') (r : RV g μ' H1 d v) : Q v H1 := by
  unfold gc at p
  simp only at p
  split at p
  · rename_i k
    obtain ⟨ν, rfl⟩ := x.mu
    exact PostG.done p x.less (S.less S' k.2) (r.less (by rw [S.len]; exact k.1))
  · exact PostG.done p x S' r
theorem gc_er {e : Er} {Q : VK} (S : RS g μ H st) (p : PostG g W σ μ H (RV g) (gc st (.er e st')) Q) {μ' : Mu} {cls : Value} {dd : Option Addr} (x : Go μ H μ' H1) (S' : RS g μ' H1 st') (r : RErr g μ' H1 e cls dd) : W cls dd σ H1 := by
  unfold gc at p
  simp only at p
  split at p
  · rename_i k
    obtain ⟨ν, rfl⟩ := x.mu
    refine p μ H1 cls dd x.less (S.less S' k.2) ?_
    obtain ⟨C, h1, h2, h3⟩ := r
    refine ⟨C, h1, h2, h3.imp_right fun ⟨f, d, a, v, e1, e2, e3, e4⟩ => ⟨f, d, a, v, e1, e2, e3, e4.less ?_⟩⟩
    have k1 := k.1
    rw [e1] at k1
    rw [S.len]
    exact k1.1
  · exact p μ' H1 cls dd x S' r
end
/-! ### statements' outcomes -/
inductive O where
  | nx (ρ : Env) (st : Sto)
  | rt (d : D) (st : Sto)
  | bk (ρ : Env) (st : Sto)
  | ct (ρ : Env) (st : Sto)
  | er (e : Er) (ρ : Env) (st : Sto)
  | no
def PostS (g : G) (W : WX) (μ : Mu) (H : Hp) (o : O) (Dn : Ends) : Prop :=
  match o with
  | .nx ρ' st' => ∀ μ' σ' H', Go μ H μ' H' → Rel g μ' σ' H' ρ' st' → Dn.nx σ' H'
  | .rt d st' => ∀ μ' v H', Go μ H μ' H' → RS g μ' H' st' → RV g μ' H' d v → Dn.rt v H'
  | .bk ρ' st' => ∀ μ' σ' H', Go μ H μ' H' → Rel g μ' σ' H' ρ' st' → Dn.bk σ' H'
  | .ct ρ' st' => ∀ μ' σ' H', Go μ H μ' H' → Rel g μ' σ' H' ρ' st' → Dn.ct σ' H'
  | .er e ρ' st' => ∀ μ' σ' H' cls dd, Go μ H μ' H' → Rel g μ' σ' H' ρ' st' → RErr g μ' H' e cls dd → W cls dd σ' H'
  | .no => False
def tS (g : G) (W : WX) (m : Env → Sto → O) : TS := fun Dn σ H => ∃ μ ρ st, Rel g μ σ H ρ st ∧ PostS g W μ H (m ρ st) Dn
abbrev PMS (g : G) (W : WX) (X : Cx) (s : Stmt) (m : Env → Sto → O) : Prop := PS X s (tS g W m)
abbrev PMSs (g : G) (W : WX) (X : Cx) (s : List Stmt) (m : Env → Sto → O) : Prop := PSs X s (tS g W m)
def toR : O → R D
  | .nx _ st => .ok .non st
  | .rt d st => .ok d st
  | .er e _ st => .er e st
  | _ => .no
@[simp] theorem toR_nx {ρ : Env} {st : Sto} : toR (.nx ρ st) = .ok .non st := rfl
@[simp] theorem toR_rt {d : D} {st : Sto} : toR (.rt d st) = .ok d st := rfl
@[simp] theorem toR_er {e : Er} {ρ : Env} {st : Sto} : toR (.er e ρ st) = .er e st := rfl
/-- a def of k parameters and n names by its body -/
noncomputable def mDef (k n : Nat) (m : Env → Sto → O) (ds : List D) (st : Sto) : R D := if ds.length = k then gc st (toR (m (ds.map some ++ List.replicate (n - k) none) st)) else .no
/-- a promise by data -/
def spM (g : G) (f : List D → Sto → R D) : Sp := fun vs H Q E => ∃ μ st ds, RS g μ H st ∧ RVs g μ H ds vs ∧ PostG g (fun c d _ H => E c d H) [] μ H (RV g) (f ds st) Q
abbrev KeptM (g : G) (base : Heap) (k : Nat) (x : Str) (ps : List Str) (f : List D → Sto → R D) : Prop := KeptX g.P g.w g.K g.mg base k x ps (spM g f)
section
variable {g : G} {W : WX} {X : Cx} {σ : L2.St} {μ μ1 : Mu} {ν : List Addr} {H H1 : Hp} {ρ : Env} {st st' : Sto}
mutual
/-- the heap as it was found plays no part in what stands -/
theorem RV.swap {g : G} {h0 : Hp} {μ : Mu} {H : Hp} : ∀ {d : D} {v : V}, RV g μ H d v → RV { g with h0 := h0 } μ H d v
  | .non, _, h => h
  | .bl _, _, h => h
  | .int _, _, h => h
  | .str _, _, h => h
  | .tup xs, _, h => by obtain ⟨a, vs, e, q, r⟩ := h; exact ⟨a, vs, e, q, RVs.swap r⟩
  | .lst xs, _, h => by obtain ⟨a, vs, e, q, r⟩ := h; exact ⟨a, vs, e, q, RVs.swap r⟩
  | .rol xs, _, h => by obtain ⟨a, vs, e, q, r⟩ := h; exact ⟨a, vs, e, q, RVs.swap r⟩
  | .dct ks xs, _, h => by obtain ⟨a, vs, e, q, k, r⟩ := h; exact ⟨a, vs, e, q, k, RVs.swap r⟩
  | .loc n, _, h => h
  | .nam _, _, h => h
  | .err _ _, _, h => h
theorem RVs.swap {g : G} {h0 : Hp} {μ : Mu} {H : Hp} : ∀ {ds : List D} {vs : List V}, RVs g μ H ds vs → RVs { g with h0 := h0 } μ H ds vs
  | [], _, h => h
  | d :: ds, _, h => by obtain ⟨v, r, e, h1, h2⟩ := h; exact ⟨v, r, e, RV.swap h1, RVs.swap h2⟩
end
theorem RC.swap {g : G} {h0 : Hp} {μ : Mu} {H : Hp} {a : Addr} {c : C} (h : RC g μ H a c) : RC { g with h0 := h0 } μ H a c := by
  cases c with
  | lst xs => obtain ⟨vs, e, r⟩ := h; exact ⟨vs, e, r.swap⟩
  | dct xs => obtain ⟨vs, e, q, r⟩ := h; exact ⟨vs, e, q, r.swap⟩
  | dcT xs => obtain ⟨vs, e, q, r⟩ := h; exact ⟨vs, e, q, r.swap⟩
  | set xs => exact h
  | ins c fs => obtain ⟨C, dx, gs, e, q, r⟩ := h; exact ⟨C, dx, gs, e, q, r.1, r.2.swap⟩
theorem RS.swap {g : G} {h0 : Hp} {μ : Mu} {H : Hp} {st : Sto} (S : RS g μ H st) (k : ∀ a, H a = none → h0 a = none) : RS { g with h0 := h0 } μ H st := ⟨S.len, S.nd, fun n c a e1 e2 => (S.at_ n c a e1 e2).swap, S.pvs, k⟩
theorem RErr.swap {g : G} {h0 : Hp} {μ : Mu} {H : Hp} {e : Er} {cls : Value} {dd : Option Addr} (h : RErr g μ H e cls dd) : RErr { g with h0 := h0 } μ H e cls dd := by
  obtain ⟨C, h1, h2, h3⟩ := h
  exact ⟨C, h1, h2, h3.imp_right fun ⟨f, d, a, v, e1, e2, e3, e4⟩ => ⟨f, d, a, v, e1, e2, e3, e4.swap⟩⟩
theorem rel_start {N : List Str} {ds : List D} {vs : List V} (S : RS g μ H st) (r : RVs g μ H ds vs) : Rel g μ (L2.start N vs) H (ds.map some ++ List.replicate (N.length - ds.length) none) st := by
  have l := r.length
  refine ⟨by unfold L2.start; simp only [List.length_append, List.length_map, List.length_replicate, l], fun i d e => ?_, S⟩
  by_cases h : i < ds.length
  · rw [List.getElem?_append_left (by rw [List.length_map]; exact h), List.getElem?_map] at e
    obtain ⟨d', e1, e2⟩ := Option.map_eq_some_iff.mp e
    cases e2
    obtain ⟨v, e3, rv⟩ := r.at e1
    refine ⟨v, ?_, rv⟩
    unfold L2.start
    rw [List.getElem?_append_left (by rw [List.length_map, l]; exact h), List.getElem?_map, e3]
    rfl
  · rw [List.getElem?_append_right (by rw [List.length_map]; omega)] at e
    rw [List.getElem?_replicate] at e
    split at e
    · cases e
    · cases e
theorem _root_.Hn.Dfn.keptM {P : Program} {w : World} {K : Frag} {mg : Str → Option Value} {base : Heap} {x : Str} {st : Stmt} {N ps : List Str} {k : Nat} {m : Env → Sto → O} {h0 : Hp} (D : Dfn K mg x st ps) (S : FnScope N ps (defScope st))
    (hbody : ∀ (f : Addr) (cdv : Value) (A : Around) (ou : List PySem.Env) (s : Shared) (H : Hp) (E : XK), Room k (A.deeper (envOfC x (defScope st) s.heap.objs.size f cdv)) →
      PMSs ⟨P, w, K, mg, none, H⟩ (fun c d _ H => E c d H) (cxOf (L2.CX P w) P w K mg base N x (defScope st) f cdv A ou s H E) (defBody st) m) :
    KeptM ⟨P, w, K, mg, none, h0⟩ base (k + 1) x ps (mDef ps.length N.length m) := by
  refine D.keptX S (fun vs H Q E h => ?_) (fun f cdv A ou s H vs Q E hr h => ⟨_, hbody f cdv A ou s H E hr, ?_⟩)
  · obtain ⟨μ, st, ds, S, r, p⟩ := h
    rw [r.length]
    unfold mDef at p
    split at p
    · assumption
    · exact p.elim
  · obtain ⟨μ, st, ds, S, r, p⟩ := h
    unfold mDef at p
    split at p
    · rename_i hl
      have S1 : RS ⟨P, w, K, mg, none, H⟩ μ H st := RS.swap S fun _ e => e
      have bk : ∀ {μ' : Mu} {H' : Hp} {st' : Sto}, RS ⟨P, w, K, mg, none, H⟩ μ' H' st' → RS ⟨P, w, K, mg, none, h0⟩ μ' H' st' := fun S' => RS.swap S' fun a e => S.old a (S'.old a e)
      refine ⟨μ, _, st, rel_start S1 (RVs.swap r), ?_⟩
      rw [hl]
      cases hm : m (ds.map some ++ List.replicate (N.length - ps.length) none) st with
      | nx ρ' st' =>
        rw [hm] at p
        exact fun μ' σ' H' x rel => gc_ok S p x (bk rel.sto) rfl
      | rt d st' =>
        rw [hm] at p
        exact fun μ' v H' x S' rv => gc_ok S p x (bk S') (RV.swap rv)
      | er e ρ' st' =>
        rw [hm] at p
        exact fun μ' σ' H' cls dd x rel re => gc_er S p x (bk rel.sto) (RErr.swap re)
      | bk ρ' st' => rw [hm] at p; exact p.elim
      | ct ρ' st' => rw [hm] at p; exact p.elim
      | no => rw [hm] at p; exact p.elim
    · exact p.elim
variable {k : Nat} {x : Str} {ps : List Str} {f : List D → Sto → R D} {e : Expr} {es : List Expr} {ms : Env → Sto → R (List D)} {p pos : Pos} {base : Heap}
/-- f(e, ..) -/
theorem pm_call (Gf : KeptM g base k x ps f) (hP : X.prog = g.P) (hw : X.w = g.w) (hK : X.K = g.K) (hm : X.mg = g.mg) (hb : X.base = base) (hr : Room k X.A) (hg : Gl X x) (hx : ∀ σ, PassesAt (L2.CX X.prog X.w) X σ (WE W σ)) (ha : PMA g W X (e :: es) ms) (hdb : (x == ("__debug__" : Str)) = false := by decide)
    (he : starEach (e :: es) X.env = (false, eval e X.env) :: starEach es X.env := by rfl) (hpl : (backTo pos (starEach es X.env)).any (·.1) = false := by rfl) : PM g W X (.Call (.Name x p) (e :: es) [] pos) (mCall f ms) := by
  refine (pe_kx (k := k) (ps := ps) (sp := spM g f) (E := WE W) (by rw [hP, hw, hK, hm, hb]; exact Gf) hr hg hx ha hdb he hpl).imp fun σ H Q ⟨μ, ρ, st, rel, p⟩ => tG_bind rel p fun μ1 ds st1 vs H1 go1 rel1 rv1 p1 => ?_
  exact ⟨μ1, st1, ds, rel1.sto, rv1, R.post_mono p1 (fun _ _ q => q) fun _ _ q => q⟩
/-- f() -/
theorem pm_call0 (Gf : KeptM g base k x ps f) (hP : X.prog = g.P) (hw : X.w = g.w) (hK : X.K = g.K) (hm : X.mg = g.mg) (hb : X.base = base) (hr : Room k X.A) (hg : Gl X x) (hx : ∀ σ, PassesAt (L2.CX X.prog X.w) X σ (WE W σ)) (hdb : (x == ("__debug__" : Str)) = false := by decide) : PM g W X (.Call (.Name x p) [] [] pos) (mCall f mNil) := by
  obtain ⟨fa, fd, gm, kp, b, F⟩ : KeptX X.prog X.w X.K X.mg X.base k x ps (spM g f) := by rw [hP, hw, hK, hm, hb]; exact Gf
  refine ⟨fun pins s σ H Q I ⟨μ, ρ, st, rel, p⟩ => ?_⟩
  refine wpAny_Call_Name_kw (ld_glob I hg gm ?_ hdb)
  exact PySem.W.callWith_K0 I.kIn kp (run_fnS (us := []) (vs := []) F hr b (hx σ) I .nil ⟨μ, st, [], rel.sto, rfl, R.post_mono p (fun _ _ q => q) fun _ _ q => q⟩)
theorem passNo {X : Cx} : ∀ σ, PassesAt (L2.CX X.prog X.w) X σ (WE (fun _ _ _ _ => False) σ) := fun σ pins H s e s' I ⟨a, B, H', cls, d, _, _, _, _, _, _, _, h⟩ => h.elim
end
end Pl

set_option maxHeartbeats 4000000
/-! statements -/
namespace Pl
open PySem PySem.Spec PyProof.Rows L2 Hn
open PySem.W (Frag keepIn)
def O.of {α : Type} (r : R α) (ρ : Env) (k : α → Sto → O) : O := match r with
  | .ok a st => k a st
  | .er e st => .er e ρ st
  | .no => .no
@[simp] theorem O.of_ok {α : Type} (a : α) (st : Sto) (ρ : Env) (k : α → Sto → O) : O.of (.ok a st) ρ k = k a st := rfl
@[simp] theorem O.of_er {α : Type} (e : Er) (st : Sto) (ρ : Env) (k : α → Sto → O) : O.of (.er e st) ρ k = .er e ρ st := rfl
section
variable {α β : Type} {g : G} {W : WX} {X : Cx} {σ : L2.St} {μ μ1 : Mu} {H H1 : Hp} {ρ : Env} {st : Sto} {Dn : Ends}
theorem PostS.base {o : O} (x : Go μ H μ1 H1) (p : PostS g W μ H o Dn) : PostS g W μ1 H1 o Dn := by
  cases o with
  | nx ρ' st' => exact fun μ' σ' H' y => p μ' σ' H' (x.trans y)
  | rt d st' => exact fun μ' v H' y => p μ' v H' (x.trans y)
  | bk ρ' st' => exact fun μ' σ' H' y => p μ' σ' H' (x.trans y)
  | ct ρ' st' => exact fun μ' σ' H' y => p μ' σ' H' (x.trans y)
  | er e ρ' st' => exact fun μ' σ' H' cls dd y => p μ' σ' H' cls dd (x.trans y)
  | no => exact p
theorem tG_OE {Rp : Mu → Hp → α → β → Prop} {m : Env → Sto → R α} {k : α → Sto → O} {Kt : β → Hp → Prop} (rel : Rel g μ σ H ρ st) (p : PostS g W μ H (O.of (m ρ st) ρ k) Dn)
    (c : ∀ μ1 a st1 x H1, m ρ st = .ok a st1 → Go μ H μ1 H1 → Rel g μ1 σ H1 ρ st1 → Rp μ1 H1 a x → PostS g W μ1 H1 (k a st1) Dn → Kt x H1) : tG g W Rp m σ H Kt := by
  refine ⟨μ, ρ, st, rel, ?_⟩
  cases e : m ρ st with
  | ok a st1 =>
    rw [e] at p
    exact fun μ1 x H1 go S rv => c μ1 a st1 x H1 e go (rel.go go S) rv (PostS.base go p)
  | er x st1 =>
    rw [e] at p
    exact fun μ1 H1 cls dd go S re => p μ1 σ H1 cls dd go (rel.go go S) re
  | no =>
    rw [e] at p
    exact p.elim
theorem tG_O {Rp : Mu → Hp → α → β → Prop} {m : Env → Sto → R α} {k : α → Sto → O} {Kt : β → Hp → Prop} (rel : Rel g μ σ H ρ st) (p : PostS g W μ H (O.of (m ρ st) ρ k) Dn)
    (c : ∀ μ1 a st1 x H1, Go μ H μ1 H1 → Rel g μ1 σ H1 ρ st1 → Rp μ1 H1 a x → PostS g W μ1 H1 (k a st1) Dn → Kt x H1) : tG g W Rp m σ H Kt := by
  refine ⟨μ, ρ, st, rel, ?_⟩
  cases e : m ρ st with
  | ok a st1 =>
    rw [e] at p
    exact fun μ1 x H1 go S rv => c μ1 a st1 x H1 go (rel.go go S) rv (PostS.base go p)
  | er x st1 =>
    rw [e] at p
    exact fun μ1 H1 cls dd go S re => p μ1 σ H1 cls dd go (rel.go go S) re
  | no =>
    rw [e] at p
    exact p.elim
end
@[simp] def mSeq (a b : Env → Sto → O) (ρ : Env) (st : Sto) : O := match a ρ st with
  | .nx ρ' st' => b ρ' st'
  | o => o
@[simp] def mNext (ρ : Env) (st : Sto) : O := .nx ρ st
@[simp] def mSet (i : Nat) (m : Env → Sto → R D) (ρ : Env) (st : Sto) : O := O.of (m ρ st) ρ fun d st1 => .nx (ρ.set i (some d)) st1
@[simp] def mExpr (m : Env → Sto → R D) (ρ : Env) (st : Sto) : O := O.of (m ρ st) ρ fun _ st1 => .nx ρ st1
@[simp] def mRet (m : Env → Sto → R D) (ρ : Env) (st : Sto) : O := O.of (m ρ st) ρ fun d st1 => .rt d st1
@[simp] def mRetN (_ : Env) (st : Sto) : O := .rt .non st
@[simp] def mBreak (ρ : Env) (st : Sto) : O := .bk ρ st
@[simp] def mCont (ρ : Env) (st : Sto) : O := .ct ρ st
@[simp] def mIfS (t : Env → Sto → R Bool) (a b : Env → Sto → O) (ρ : Env) (st : Sto) : O := O.of (t ρ st) ρ fun c st1 => if c = true then a ρ st1 else b ρ st1
@[simp] def mRaise0 (x : Str) (ρ : Env) (st : Sto) : O := .er ⟨x, []⟩ ρ st
@[simp] def mRaise1 (x f : Str) (m : Env → Sto → R D) (ρ : Env) (st : Sto) : O := O.of (m ρ st) ρ fun d st1 => .er ⟨x, [(f, d)]⟩ ρ st1
/-! ### targets -/
inductive Pat where
  | nm (i : Nat)
  | tp (ps : List Pat)
mutual
def Pat.set : Pat → D → Env → Option Env
  | .nm i, d, ρ => some (ρ.set i (some d))
  | .tp ps, .tup xs, ρ => setAll ps xs ρ
  | _, _, _ => none
def setAll : List Pat → List D → Env → Option Env
  | [], [], ρ => some ρ
  | p :: ps, d :: ds, ρ => match p.set d ρ with
    | some ρ' => setAll ps ds ρ'
    | none => none
  | _, _, _ => none
end
mutual
def Pat.sl : Pat → List Nat
  | .nm i => [i]
  | .tp ps => slAll ps
def slAll : List Pat → List Nat
  | [] => []
  | p :: ps => p.sl ++ slAll ps
end
@[simp] theorem set_nm {i : Nat} {d : D} {ρ : Env} : (Pat.nm i).set d ρ = some (ρ.set i (some d)) := rfl
@[simp] theorem set_tp {ps : List Pat} {xs : List D} {ρ : Env} : (Pat.tp ps).set (.tup xs) ρ = setAll ps xs ρ := rfl
@[simp] theorem setAll_nil {ρ : Env} : setAll [] [] ρ = some ρ := rfl
@[simp] theorem setAll_cons {p : Pat} {ps : List Pat} {d : D} {ds : List D} {ρ : Env} : setAll (p :: ps) (d :: ds) ρ = match p.set d ρ with
    | some ρ' => setAll ps ds ρ'
    | none => none := rfl
def ofOptO {α : Type} (o : Option α) (f : α → O) : O := match o with
  | some a => f a
  | none => .no
@[simp] theorem ofOptO_some {α : Type} (a : α) (f : α → O) : ofOptO (some a) f = f a := rfl
@[simp] def mAsg (p : Pat) (m : Env → Sto → R D) (ρ : Env) (st : Sto) : O := O.of (m ρ st) ρ fun d st1 => ofOptO (p.set d ρ) fun ρ' => .nx ρ' st1
theorem wipe_get (σ : L2.St) (j : Nat) : ∀ vs : List Nat, (wipe σ vs)[j]? = if j ∈ vs then (σ[j]?).map (fun _ => none) else σ[j]?
  | [] => rfl
  | v :: vs => by
    unfold wipe
    rw [List.getElem?_set, wipe_get σ j vs, wipe_length]
    by_cases h : v = j
    · subst h
      rw [if_pos rfl, if_pos List.mem_cons_self]
      by_cases h2 : v < σ.length
      · rw [if_pos h2, List.getElem?_eq_getElem h2]
        rfl
      · rw [if_neg h2, List.getElem?_eq_none_iff.mpr (by omega)]
        rfl
    · rw [if_neg h]
      by_cases h2 : j ∈ vs
      · rw [if_pos h2, if_pos (List.mem_cons_of_mem _ h2)]
      · rw [if_neg h2, if_neg fun z => (List.mem_cons.mp z).elim (fun z => h z.symm) h2]
theorem wipe_set {σ : L2.St} {vs : List Nat} {i : Nat} {x : Option V} (h : i ∈ vs) : wipe (σ.set i x) vs = wipe σ vs := by
  apply List.ext_getElem?
  intro j
  rw [wipe_get, wipe_get]
  by_cases hj : j ∈ vs
  · rw [if_pos hj, if_pos hj]
    by_cases e : i = j
    · subst e
      rw [List.getElem?_set]
      by_cases h2 : i < σ.length
      · rw [if_pos rfl, if_pos h2, List.getElem?_eq_getElem h2]
        rfl
      · rw [if_pos rfl, if_neg h2, List.getElem?_eq_none_iff.mpr (by omega)]
    · rw [List.getElem?_set_ne e]
  · rw [if_neg hj, if_neg hj, List.getElem?_set_ne fun e => hj (by rw [← e]; exact h)]
theorem wipe_wipe (σ : L2.St) (vs : List Nat) : wipe (wipe σ vs) vs = wipe σ vs := by
  apply List.ext_getElem?
  intro j
  rw [wipe_get, wipe_get]
  by_cases hj : j ∈ vs
  · rw [if_pos hj, if_pos hj]
    cases σ[j]? <;> rfl
  · rw [if_neg hj, if_neg hj]
def wipeD (ρ : Env) : List Nat → Env
  | [] => ρ
  | v :: vs => (wipeD ρ vs).set v none
@[simp] theorem wipeD_nil {ρ : Env} : wipeD ρ [] = ρ := rfl
@[simp] theorem wipeD_cons {ρ : Env} {v : Nat} {vs : List Nat} : wipeD ρ (v :: vs) = (wipeD ρ vs).set v none := rfl
theorem wipeD_len (ρ : Env) : ∀ vs : List Nat, (wipeD ρ vs).length = ρ.length
  | [] => rfl
  | v :: vs => by unfold wipeD; rw [List.length_set, wipeD_len ρ vs]
theorem wipeD_some {ρ : Env} {i : Nat} {d : D} : ∀ {vs : List Nat}, (wipeD ρ vs)[i]? = some (some d) → ρ[i]? = some (some d) ∧ i ∉ vs
  | [], h => ⟨h, List.not_mem_nil⟩
  | v :: vs, h => by
    unfold wipeD at h
    by_cases e : v = i
    · subst e
      rw [List.getElem?_set] at h
      split at h
      · split at h <;> cases h
      · rename_i k; exact absurd rfl k
    · rw [List.getElem?_set_ne e] at h
      obtain ⟨h1, h2⟩ := wipeD_some h
      exact ⟨h1, fun z => (List.mem_cons.mp z).elim (fun z => e z.symm) h2⟩
section
variable {g : G} {W : WX} {X : Cx} {σ : L2.St} {μ μ1 : Mu} {H H1 : Hp} {ρ : Env} {st : Sto}
theorem Rel.wipe (r : Rel g μ σ H ρ st) (vs : List Nat) : Rel g μ (L2.wipe σ vs) H (wipeD ρ vs) st := ⟨by rw [wipe_length, wipeD_len, r.len], fun i d e => by
  obtain ⟨e1, n⟩ := wipeD_some e
  obtain ⟨v, h1, h2⟩ := r.slot i d e1
  exact ⟨v, by rw [wipe_get, if_neg n]; exact h1, h2⟩, r.sto⟩
def gP (g : G) (p : Pat) : TG := fun v σ H Q => ∃ μ ρ st d ρ', Rel g μ σ H ρ st ∧ RV g μ H d v ∧ p.set d ρ = some ρ' ∧ ∀ σ', Rel g μ σ' H ρ' st → (∀ vs, (∀ i ∈ p.sl, i ∈ vs) → L2.wipe σ' vs = L2.wipe σ vs) → Q σ' H
def gPs (g : G) (ps : List Pat) : TGs := fun us σ H Q => ∃ μ ρ st ds ρ', Rel g μ σ H ρ st ∧ RVs g μ H ds us ∧ setAll ps ds ρ = some ρ' ∧ ∀ σ', Rel g μ σ' H ρ' st → (∀ vs, (∀ i ∈ slAll ps, i ∈ vs) → L2.wipe σ' vs = L2.wipe σ vs) → Q σ' H
theorem _root_.L2.PG.imp {X : Cx} {e : Expr} {t t' : TG} (h : PG X e t) (k : ∀ v σ H Q, t' v σ H Q → t v σ H Q) : PG X e t' := ⟨fun pins s σ H v u Q I r q => h.run pins s σ H v u Q I r (k _ _ _ _ q)⟩
theorem _root_.L2.PGs.imp {X : Cx} {e : List Expr} {t t' : TGs} (h : PGs X e t) (k : ∀ v σ H Q, t' v σ H Q → t v σ H Q) : PGs X e t' := ⟨fun pins s σ H v u Q I r q => h.run pins s σ H v u Q I r (k _ _ _ _ q)⟩
variable {e : Expr} {es : List Expr} {pos : Pos}
theorem pg_nm {i : Nat} (h : PG X e (gName i)) : PG X e (gP g (.nm i)) := h.imp fun v σ H Q ⟨μ, ρ, st, d, ρ', rel, rv, e, q⟩ => by
  cases e
  exact q _ (rel.set rv) fun vs h => wipe_set (h i List.mem_cons_self)
theorem pgs_none : PGs X [] (gPs g []) := pgs_nil.imp fun v σ H Q ⟨μ, ρ, st, ds, ρ', rel, rv, e, q⟩ => by
  cases ds with
  | nil =>
    cases e
    exact ⟨rv, q σ rel fun _ _ => rfl⟩
  | cons d ds => cases e
theorem pgs_more {p : Pat} {ps : List Pat} (h1 : PG X e (gP g p)) (h2 : PGs X es (gPs g ps)) (hs : (assignEach (e :: es) X.env).map (·.2) = assign e X.env :: (assignEach es X.env).map (·.2) := by rfl) : PGs X (e :: es) (gPs g (p :: ps)) :=
  (pgs_cons h1 h2 hs).imp fun us σ H Q ⟨μ, ρ, st, ds, ρ', rel, rv, e, q⟩ => by
    cases ds with
    | nil => cases e
    | cons d ds =>
      obtain ⟨v, r, rfl, r1, r2⟩ := rv
      unfold setAll at e
      cases e1 : p.set d ρ with
      | none => rw [e1] at e; cases e
      | some ρ1 =>
        rw [e1] at e
        refine ⟨v, r, rfl, μ, ρ, st, d, ρ1, rel, r1, e1, fun σ1 rel1 w1 => ⟨μ, ρ1, st, ds, ρ', rel1, r2, e, fun σ2 rel2 w2 => q σ2 rel2 fun vs h => ?_⟩⟩
        rw [w2 vs fun i hi => h i (List.mem_append_right _ hi), w1 vs fun i hi => h i (List.mem_append_left _ hi)]
theorem pg_tp {ps : List Pat} {k : Nat} (hc : X.calm = true) (hK : X.K = g.K) (h : PGs X es (gPs g ps)) (hn : (assignEach es X.env).length = ps.length := by rfl) (hst : (assignEach es X.env).findIdx? (·.1) = none := by rfl) : PG X (.Tuple es k pos) (gP g (.tp ps)) :=
  (pg_tup (n := ps.length) hc h hn hst).imp fun v σ H Q ⟨μ, ρ, st, d, ρ', rel, rv, e, q⟩ => by
    cases d with
    | tup xs =>
      obtain ⟨a, vs, rfl, k, r⟩ := rv
      have hl : ∀ (ps : List Pat) (xs : List D) (ρ ρ' : Env), setAll ps xs ρ = some ρ' → xs.length = ps.length := fun ps => by
        induction ps with
        | nil => intro xs ρ ρ' h; cases xs with
          | nil => rfl
          | cons => cases h
        | cons p ps ih => intro xs ρ ρ' h; cases xs with
          | nil => cases h
          | cons x xs =>
            unfold setAll at h
            split at h
            · rw [List.length_cons, List.length_cons, ih _ _ _ h]
            · cases h
      exact ⟨a, vs, rfl, by rw [hK]; exact SqT.of k.2, by rw [r.length, hl _ _ _ _ e], μ, ρ, st, xs, ρ', rel, r, e, q⟩
    | _ => cases e
variable {m ma mb : Env → Sto → R D} {a b : Env → Sto → O} {s : Stmt} {ss ss2 : List Stmt} {mt : Env → Sto → R Bool}
theorem pms_nil : PMSs g W X [] mNext := pss_nil.imp fun Dn σ H ⟨μ, ρ, st, rel, p⟩ => p μ σ H Go.refl rel
theorem pms_cons (h1 : PMS g W X s a) (h2 : PMSs g W X ss b) : PMSs g W X (s :: ss) (mSeq a b) := (pss_cons h1 h2).imp fun Dn σ H ⟨μ, ρ, st, rel, p⟩ => by
  refine ⟨μ, ρ, st, rel, ?_⟩
  unfold mSeq at p
  cases e : a ρ st with
  | nx ρ' st' =>
    rw [e] at p
    exact fun μ' σ' H' go rel' => ⟨μ', ρ', st', rel', PostS.base go p⟩
  | rt d st' => rw [e] at p; exact p
  | bk ρ' st' => rw [e] at p; exact p
  | ct ρ' st' => rw [e] at p; exact p
  | er x ρ' st' => rw [e] at p; exact p
  | no => rw [e] at p; exact p
theorem pms_one (h1 : PMS g W X s a) : PMSs g W X [s] a := pss_one h1
theorem pms_set {i : Nat} {x : Str} {pos' : Pos} (hN : X.N.Nodup) (hi : X.N[i]? = some x) (hx : Loc X.env.scope x) (h : PM g W X e m) (hs : swapsWith e (some (.Name x pos')) pos.line X.env = pure false := by rfl) (hf : X.fn x = true ∨ X.env.scope.names.lookup x = some .local := by first | exact .inl rfl | exact .inr rfl | assumption) :
    PMS g W X (.Assign [.Name x pos'] e pos) (mSet i m) := (ps_set hN hi hx h hs hf).imp fun Dn σ H ⟨μ, ρ, st, rel, p⟩ => tG_O rel p fun μ1 d st1 x H1 go rel1 rv p1 => p1 μ1 _ H1 Go.refl (rel1.set rv)
theorem pms_asg {tg : Expr} {pt : Pat} (h : PM g W X e m) (hg : PG X tg (gP g pt)) (hs : swapsWithSole [tg] e pos.line X.env = pure false := by rfl) (hw : swappedStores [tg] e X.env = pure none := by rfl) (h1 : (assignEach [tg] X.env).map (·.2) = [assign tg X.env] := by rfl) :
    PMS g W X (.Assign [tg] e pos) (mAsg pt m) := (ps_asg h hg hs hw h1).imp fun Dn σ H ⟨μ, ρ, st, rel, p⟩ => tG_O rel p fun μ1 d st1 x H1 go rel1 rv p1 => by
  cases e1 : pt.set d ρ with
  | none => rw [e1] at p1; exact p1.elim
  | some ρ' =>
    rw [e1] at p1
    exact ⟨μ1, ρ, st1, d, ρ', rel1, rv, e1, fun σ' rel' _ => p1 μ1 σ' H1 Go.refl rel'⟩
theorem pms_expr (h : PM g W X e m) (hs : swapsWith e none pos.line X.env = pure false := by rfl) : PMS g W X (.Expr e pos) (mExpr m) := (ps_expr h hs).imp fun Dn σ H ⟨μ, ρ, st, rel, p⟩ => tG_O rel p fun μ1 d st1 x H1 go rel1 rv p1 => p1 μ1 σ H1 Go.refl rel1
theorem pms_ret (h : PM g W X e m) : PMS g W X (.Return (some e) pos) (mRet m) := (ps_ret h).imp fun Dn σ H ⟨μ, ρ, st, rel, p⟩ => tG_O rel p fun μ1 d st1 x H1 go rel1 rv p1 => p1 μ1 x H1 Go.refl rel1.sto rv
theorem pms_retN : PMS g W X (.Return none pos) mRetN := ps_retN.imp fun Dn σ H ⟨μ, ρ, st, rel, p⟩ => p μ .non H Go.refl rel.sto rfl
theorem pms_pass : PMS g W X (.Pass pos) mNext := ps_pass.imp fun Dn σ H ⟨μ, ρ, st, rel, p⟩ => p μ σ H Go.refl rel
theorem pms_break : PMS g W X (.Break pos) mBreak := ps_break.imp fun Dn σ H ⟨μ, ρ, st, rel, p⟩ => p μ σ H Go.refl rel
theorem pms_continue : PMS g W X (.Continue pos) mCont := ps_continue.imp fun Dn σ H ⟨μ, ρ, st, rel, p⟩ => p μ σ H Go.refl rel
theorem pms_if (ht : PMT g W X e mt) (ha : PMSs g W X ss a) (hb : PMSs g W X ss2 b) : PMS g W X (.If e ss ss2 pos) (mIfS mt a b) := (ps_if ht ha hb).imp fun Dn σ H ⟨μ, ρ, st, rel, p⟩ => tG_O (Rp := RB) rel p fun μ1 c st1 c' H1 go rel1 rv p1 => by
  cases (show c' = c from rv)
  cases c with
  | true => exact ⟨μ1, ρ, st1, rel1, p1⟩
  | false => exact ⟨μ1, ρ, st1, rel1, p1⟩
theorem pms_raise0 {x : Str} {C : Addr} {p1 p2 : Pos} (T : Err X.K X.mg x C) (hm : X.mg = g.mg) (hc : X.calm = true) (tk : Takes X W) (hg : Gl X x) (hdb : (x == ("__debug__" : Str)) = false := by decide) : PMS g W X (.Raise (some (.Call (.Name x p1) [] [] p2)) none pos) (mRaise0 x) :=
  (ps_raise hc tk (pmk_own0 T hg hdb)).imp fun Dn σ H ⟨μ, ρ, st, rel, p⟩ => p μ σ H (.ref C) none Go.refl rel ⟨C, by rw [← hm]; exact T.g, rfl, .inl ⟨rfl, rfl⟩⟩
theorem go_same (k : Same H H1) : Go μ H μ H1 := ⟨⟨[], by simp⟩, rfl, fun _ h => .inl h, fun a o _ e => k a o e⟩
theorem RS.same (S : RS g μ H st) (k : Same H H1) : RS g μ H1 st := ⟨S.len, S.nd, fun n c a e1 e2 => by
  have z := S.at_ n c a e1 e2
  obtain ⟨o, eo⟩ := z.some
  exact z.go (go_same k) ((k a o eo).trans eo.symm), fun a ha => by
  obtain ⟨h1, o, e⟩ := S.pvs a ha
  exact ⟨h1, o, k a o e⟩, fun a e => S.old a (by
  cases q : H a with
  | none => rfl
  | some o => rw [k a o q] at e; cases e)⟩
theorem pms_raise1 {x f : Str} {C : Addr} {p1 p2 : Pos} (T : ErrF X.prog X.K X.mg x f C) (hm : X.mg = g.mg) (h0 : X.H_0 = g.h0) (hc : X.calm = true) (hex : X.ex = []) (tk : Takes X W) (hg : Gl X x) (hr : Room 1 X.A) (h : PM g W X e m)
    (hs : starEach [e] X.env = (false, eval e X.env) :: starEach [] X.env := by rfl) (hdb : (x == ("__debug__" : Str)) = false := by decide) : PMS g W X (.Raise (some (.Call (.Name x p1) [e] [] p2)) none pos) (mRaise1 x f m) :=
  (ps_raise hc tk (pmk_err1 T.e T.g hg hr hex T.raises h hs hdb)).imp fun Dn σ H ⟨μ, ρ, st, rel, p⟩ => tG_O rel p fun μ1 d st1 v H1 go rel1 rv p1 => by
    intro a H' er k n
    refine sent_by (by rw [h0]; exact rel1.sto.old a n) er k n fun dx G sm ed => ?_
    exact p1 μ1 σ G (.ref C) (some dx) (go_same sm) (rel1.go (go_same sm) (rel1.sto.same sm)) ⟨C, by rw [← hm]; exact T.g, rfl, .inr ⟨f, d, dx, v, rfl, rfl, ed, rv.go (go_same sm)⟩⟩
end
/-! ### while -/
def whileN (t : Env → Sto → R Bool) (b : Env → Sto → O) : Nat → Env → Sto → O
  | 0, _, _ => .no
  | n + 1, ρ, st => O.of (t ρ st) ρ fun c st1 => if c = true then (match b ρ st1 with
    | .nx ρ2 st2 => whileN t b n ρ2 st2
    | .ct ρ2 st2 => whileN t b n ρ2 st2
    | .bk ρ2 st2 => .nx ρ2 st2
    | o => o) else .nx ρ st1
open Classical in
noncomputable def mWhile (t : Env → Sto → R Bool) (b : Env → Sto → O) (ρ : Env) (st : Sto) : O := if h : ∃ n, whileN t b n ρ st ≠ .no then whileN t b h.choose ρ st else .no
theorem whileN_mono {t : Env → Sto → R Bool} {b : Env → Sto → O} : ∀ {n m : Nat} {ρ : Env} {st : Sto}, n ≤ m → whileN t b n ρ st ≠ .no → whileN t b m ρ st = whileN t b n ρ st
  | 0, _, _, _, _, h => absurd rfl h
  | n + 1, 0, _, _, le, _ => absurd le (by omega)
  | n + 1, m + 1, ρ, st, le, h => by
    unfold whileN at h ⊢
    cases e : t ρ st with
    | ok c st1 =>
      rw [e] at h
      cases c with
      | false => rfl
      | true =>
        simp only [O.of_ok, if_true] at h ⊢
        cases e2 : b ρ st1 with
        | nx ρ2 st2 => rw [e2] at h; exact whileN_mono (by omega) h
        | ct ρ2 st2 => rw [e2] at h; exact whileN_mono (by omega) h
        | _ => rfl
    | _ => rfl
theorem mWhile_eq {t : Env → Sto → R Bool} {b : Env → Sto → O} {ρ : Env} {st : Sto} {o : O} (n : Nat) (e : whileN t b n ρ st = o) (h : o ≠ .no) : mWhile t b ρ st = o := by
  have q : ∃ n, whileN t b n ρ st ≠ .no := ⟨n, by rw [e]; exact h⟩
  unfold mWhile
  rw [dif_pos q]
  rcases Nat.le_total n q.choose with l | l
  · rw [whileN_mono l (by rw [e]; exact h), e]
  · rw [← e, whileN_mono l q.choose_spec]
section
variable {g : G} {W : WX} {X : Cx} {e : Expr} {pos : Pos} {mt : Env → Sto → R Bool} {b : Env → Sto → O} {ss : List Stmt}
theorem pms_while (hp : PassesOwn (model X.prog X.w) X.A X.env X.xe) (ht : PMT g W X e mt) (hb : PMSs g W X ss b) : PMS g W X (.While e ss [] pos) (mWhile mt b) := (ps_while hp ht hb).imp fun Dn σ H ⟨μ, ρ, st, rel, p⟩ => by
  refine ⟨fun n σ H => ∃ μ ρ st, Rel g μ σ H ρ st ∧ PostS g W μ H (whileN mt b n ρ st) Dn, ?_, ?_⟩
  · unfold mWhile at p
    split at p
    · exact ⟨_, μ, ρ, st, rel, p⟩
    · exact p.elim
  · rintro n σ H ⟨μ, ρ, st, rel, p⟩
    cases n with
    | zero => exact p.elim
    | succ n =>
      unfold whileN at p
      refine tG_O (Rp := RB) rel p fun μ1 c st1 c' H1 go rel1 rv p1 => ?_
      cases (show c' = c from rv)
      cases c with
      | false => exact p1 μ1 σ H1 Go.refl rel1
      | true =>
        refine ⟨fun σ' H' => ∃ μ ρ st, Rel g μ σ' H' ρ st ∧ PostS g W μ H' (whileN mt b n ρ st) Dn, fun σ' H' z => ⟨n, Nat.lt_succ_self n, z⟩, μ1, ρ, st1, rel1, ?_⟩
        simp only [if_true] at p1
        cases e2 : b ρ st1 with
        | nx ρ2 st2 => rw [e2] at p1; exact fun μ' σ' H' go' rel' => ⟨μ', ρ2, st2, rel', PostS.base go' p1⟩
        | ct ρ2 st2 => rw [e2] at p1; exact fun μ' σ' H' go' rel' => ⟨μ', ρ2, st2, rel', PostS.base go' p1⟩
        | bk ρ2 st2 => rw [e2] at p1; exact p1
        | rt d st2 => rw [e2] at p1; exact p1
        | er x ρ2 st2 => rw [e2] at p1; exact p1
        | no => rw [e2] at p1; exact p1
end
end Pl

set_option maxHeartbeats 4000000
/-! a caught own error asked by isinstance; a call of a def that a local name holds -/
namespace Hn
open PySem PySem.Spec PyProof.Rows L2 EF
open PySem.W (Frag keepIn)
section
variable {X : Cx} {a D : Addr} {oe : Obj} {pn : List (Addr × Obj)}
theorem caughtAt {pins : List (Addr × Obj)} {σ : L2.St} {H : Hp} {s : Shared} (hz : Zc (.ref D) none oe) (hf : ∃ vs, oe.data = .fields vs) (I : L2.Inv (X.suite a ((a, oe) :: pn)) pins σ H s) : PySem.W.InstAt s.heap a oe D none := by
  obtain ⟨hg, _⟩ := I.pin (a, oe) (List.mem_append.mpr (.inl List.mem_cons_self))
  obtain ⟨vs, hv⟩ := hf
  refine ⟨hg, hz.1, ?_, ?_⟩
  · unfold PySem.W.notCls
    rw [hv] <;> rfl
  · rw [hz.2]
    trivial
/-- isinstance(e, c), e the error that is handled -/
def rIsS (K : Frag) (D a : Addr) : List V → Hp → VK → Prop := fun xs H Q => ∃ (c : V) (u : Value) (b : Bool), xs = [.ref a, c] ∧ ClsV c u ∧ PySem.W.kitOne K (.ref D) u = some b ∧ Q (.bl b) H
theorem call_isS (T : IsE X.K D) (hz : Zc (.ref D) none oe) (hf : ∃ vs, oe.data = .fields vs) : CallR (X.suite a ((a, oe) :: pn)) (.builtin "isinstance") (rIsS X.K D a) := by
  intro pins s σ H xs us Q I r h
  obtain ⟨c, u, b, rfl, k, e, q⟩ := h
  obtain ⟨u1, u2, rfl, r1, r2⟩ := vals2 r
  have e2 := k.eq r2
  subst e2
  cases (show u1 = Value.ref a from r1)
  exact PySem.W.kia_one (PySem.W.kitx_exc T.cl T.ga T.gg T.exC T.kls T.get T.tk T.obj) I.kIn (caughtAt hz hf I) e (fun z => nomatch z) fun tk => ⟨.bl b, H, I.tok tk, rfl, q⟩
theorem cls_eq : ∀ {cs : List V} {us its : List Value}, Paired ClsV cs us → Vals cs its → its = us
  | _, _, _, .nil, .nil => rfl
  | _, _, _, .cons k ks, .cons r rs => by rw [k.eq r, cls_eq ks rs]
/-- isinstance(e, (c, ..)) -/
def rIsST (K : Frag) (D a : Addr) : List V → Hp → VK → Prop := fun xs H Q => ∃ (t : Addr) (cs : List V) (us : List Value) (b : Bool), xs = [.ref a, .ref t] ∧ H t = some (.tup cs) ∧ Paired ClsV cs us ∧ PySem.W.kitAny K (.ref D) us = some b ∧ Q (.bl b) H
theorem call_isST (T : IsE X.K D) (hz : Zc (.ref D) none oe) (hf : ∃ vs, oe.data = .fields vs) : CallR (X.suite a ((a, oe) :: pn)) (.builtin "isinstance") (rIsST X.K D a) := by
  intro pins s σ H xs us Q I r h
  obtain ⟨t, cs, ws, b, rfl, ht, k, e, q⟩ := h
  obtain ⟨u1, u2, rfl, r1, r2⟩ := vals2 r
  cases (show u1 = Value.ref a from r1)
  cases (show u2 = Value.ref t from r2)
  obtain ⟨_, its, rv, ⟨o, ho, hc, n, hd⟩⟩ := I.hok t _ ht
  obtain rfl := cls_eq k rv
  obtain ⟨c, dd, dt, sl⟩ := o
  obtain rfl : c = .type "tuple" := hc
  obtain rfl : dt = .seq its.toArray n := hd
  exact PySem.W.kia_tup (PySem.W.kitx_exc T.cl T.ga T.gg T.exC T.kls T.get T.tk T.obj) I.kIn (caughtAt hz hf I) ho e (fun z => nomatch z) fun tk => ⟨.bl b, H, I.tok tk, rfl, q⟩
end
/-- f(e, ..), f a local name that holds the def at f, which may raise -/
def tCallLS (i : Nat) (f : Addr) (sp : Sp) (E : L2.St → XK) (t : TA) : TE := fun σ H Q => σ[i]? = some (some (.ref f)) ∧ t σ H fun vs H1 => sp vs H1 Q (E σ)
theorem pe_callLS {X : Cx} {CX : CXT} {k i : Nat} {f : Addr} {fd : FuncData} {ps : List Str} {sp : Sp} {E : L2.St → XK} {x : Str} {p pos : Pos} {e : Expr} {es : List Expr} {t : TA} (F : FnOk X.prog X.w X.K X.mg X.base CX k f fd ps sp) (hr : Room k X.A) (hN : X.N[i]? = some x) (hv : Vis X.env.scope x)
    (hk : keepIn X.K (.ref f) = true) (hb : L2.Binds X.K fd ps []) (hx : ∀ σ, PassesAt CX X σ (E σ)) (ha : PA X (e :: es) t) (hdb : (x == ("__debug__" : Str)) = false := by decide) (hcd : (x == ("__classdict__" : Str)) = false := by decide)
    (he : starEach (e :: es) X.env = (false, eval e X.env) :: starEach es X.env := by rfl) (hpl : (backTo pos (starEach es X.env)).any (·.1) = false := by rfl) : PE X (.Call (.Name x p) (e :: es) [] pos) (tCallLS i f sp E t) := by
  refine ⟨fun pins s σ H Q I h => ?_⟩
  obtain ⟨hs, ht⟩ := h
  refine wpAny_Call_Name_kw (thn ((pe_var hN hv hdb hcd).run pins s σ H (fun v H1 => v = .ref f ∧ H1 = H) I ⟨_, hs, rfl, rfl⟩) ?_)
  rintro u s1 ⟨v, H1, I1, r1, rfl, rfl⟩
  cases (show u = Value.ref f from r1)
  refine PySem.W.callWith_K I.ok.mod.kin hk (thn (ha.run pos pins s1 σ H1 _ I1 ht) ?_) he hpl
  rintro us s2 ⟨vs, H2, I2, r, q⟩
  exact ⟨I2.kIn, run_fnS F hr hb (hx σ) I2 r q⟩
end Hn

set_option maxHeartbeats 4000000
/-! data whose tuples are short; data beside a bag -/
namespace Hn
open PySem PySem.Spec PyProof.Rows L2 EF
open PySem.W (Frag keepIn)
mutual
/-- no tuple within has more than b items (what stands in lists is not asked) -/
def Wide (b : Nat) : PyData → Prop
  | .tuple ds => ds.length ≤ b ∧ WideL b ds
  | _ => True
def WideL (b : Nat) : List PyData → Prop
  | [] => True
  | d :: ds => Wide b d ∧ WideL b ds
end
theorem wideL_iff {b : Nat} : ∀ {ds : List PyData}, WideL b ds ↔ ∀ d ∈ ds, Wide b d
  | [] => ⟨fun _ d h => absurd h List.not_mem_nil, fun _ => trivial⟩
  | d :: ds => by
    rw [WideL, wideL_iff, List.forall_mem_cons]
mutual
theorem Wide.mono {b c : Nat} (h : b ≤ c) : ∀ {d : PyData}, Wide b d → Wide c d
  | .tuple ds, w => ⟨Nat.le_trans w.1 h, WideL.mono h w.2⟩
  | .none, _ => trivial
  | .bool _, _ => trivial
  | .int _, _ => trivial
  | .str _, _ => trivial
  | .list _, _ => trivial
  | .dict _, _ => trivial
theorem WideL.mono {b c : Nat} (h : b ≤ c) : ∀ {ds : List PyData}, WideL b ds → WideL c ds
  | [], _ => trivial
  | d :: ds, w => ⟨Wide.mono h w.1, WideL.mono h w.2⟩
end
theorem Wide.at {b : Nat} {ds : List PyData} (w : Wide b (.tuple ds)) {d : PyData} (h : d ∈ ds) : Wide b d := wideL_iff.mp w.2 d h
theorem Wide.of {b : Nat} {ds : List PyData} (h : ds.length ≤ b) (w : ∀ d ∈ ds, Wide b d) : Wide b (.tuple ds) := ⟨h, wideL_iff.mpr w⟩
theorem Rep.but {N M : Addr → Prop} {b g : Addr} {H H' : Hp} {d : PyData} {x : V} (h : Rep N H d x) (hb : BagAt H b g) (t : But b g H H') (hN : ∀ a, N a → a ≠ b ∧ a ≠ g) (hM : ∀ a, N a → M a) : Rep M H' d x :=
  h.keep (fun a kvs e => t.keep hb e fun _ z => by cases z) (fun a xs e => t.keep hb e fun _ z => by cases z) fun a xs na e => ⟨hM a na, t a _ (hN a na).1 (hN a na).2 e⟩
theorem RepL.but {N M : Addr → Prop} {b g : Addr} {H H' : Hp} {ds : List PyData} {xs : List V} (h : RepL N H ds xs) (hb : BagAt H b g) (t : But b g H H') (hN : ∀ a, N a → a ≠ b ∧ a ≠ g) (hM : ∀ a, N a → M a) : RepL M H' ds xs :=
  h.keep (fun a kvs e => t.keep hb e fun _ z => by cases z) (fun a xs e => t.keep hb e fun _ z => by cases z) fun a xs na e => ⟨hM a na, t a _ (hN a na).1 (hN a na).2 e⟩
theorem Rep.all {N M : Addr → Prop} {H : Hp} {d : PyData} {x : V} (h : Rep N H d x) (hM : ∀ a, N a → M a) : Rep M H d x := h.keep (fun _ _ e => e) (fun _ _ e => e) fun _ _ na e => ⟨hM _ na, e⟩
end Hn

set_option maxHeartbeats 4000000
/-! chains in rows of ints, and what a search has seen of them -/
namespace Hn
open PySem PySem.Spec PyProof.Rows L2 EF
open PySem.W (Frag keepIn)
/-- the row of v -/
def rowAt (rows : List (List Int)) (v : Int) : List Int := rows.getD v.toNat []
/-- a chain leads from u to v -/
inductive Reach (rows : List (List Int)) (u : Int) : Int → Prop
  | refl : Reach rows u u
  | step {v w : Int} : Reach rows u v → w ∈ rowAt rows v → Reach rows u w
/-- all entries are people -/
def InRange (rows : List (List Int)) : Prop := ∀ r ∈ rows, ∀ w ∈ r, 0 ≤ w ∧ w < (rows.length : Int)
theorem row_range {rows : List (List Int)} (h : InRange rows) {v w : Int} (hw : w ∈ rowAt rows v) : 0 ≤ w ∧ w < (rows.length : Int) := by
  unfold rowAt at hw
  rw [List.getD_eq_getElem?_getD] at hw
  cases e : rows[v.toNat]? with
  | none =>
    rw [e] at hw
    cases hw
  | some r =>
    rw [e] at hw
    exact h r (List.mem_of_getElem? e) w hw
theorem Reach.range {rows : List (List Int)} (h : InRange rows) {u v : Int} (hu : 0 ≤ u ∧ u < (rows.length : Int)) (r : Reach rows u v) : 0 ≤ v ∧ v < (rows.length : Int) := by
  cases r with
  | refl => exact hu
  | step _ hw => exact row_range h hw
/-- a lot of different ints below n is of at most n -/
theorem few_below {n : Nat} {ks : List Int} (nd : ks.Nodup) (h : ∀ k ∈ ks, 0 ≤ k ∧ k < (n : Int)) : ks.length ≤ n := by
  have h1 : (ks.map Int.toNat).Nodup := by
    refine List.pairwise_map.mpr (nd.imp_of_mem fun ha hb ne e => ne ?_)
    have := (h _ ha).1
    have := (h _ hb).1
    omega
  have h2 : (ks.map Int.toNat) ⊆ List.range n := fun x hx => by
    obtain ⟨k, hk, rfl⟩ := List.mem_map.mp hx
    have := h k hk
    exact List.mem_range.mpr (by omega)
  have h3 := List.Nodup.length_le_of_subset h1 h2
  rw [List.length_map, List.length_range] at h3
  exact h3
/-- what has been seen on the way from u -/
structure Seen (rows : List (List Int)) (u : Int) (S : Int → Bool) (c : Nat) : Prop where
  ks : ∃ ks : List Int, ks.Nodup ∧ ks.length = c ∧ ∀ k, S k = true ↔ k ∈ ks
  re : ∀ k, S k = true → Reach rows u k
  st : S u = true
theorem Seen.le {rows : List (List Int)} {u : Int} {S : Int → Bool} {c : Nat} (s : Seen rows u S c) (h : InRange rows) (hu : 0 ≤ u ∧ u < (rows.length : Int)) : c ≤ rows.length := by
  obtain ⟨ks, nd, rfl, e⟩ := s.ks
  exact few_below nd fun k hk => (s.re k ((e k).mpr hk)).range h hu
theorem Seen.one {rows : List (List Int)} {u : Int} : Seen rows u (fun j => decide (j = u)) 1 :=
  ⟨⟨[u], List.nodup_cons.mpr ⟨List.not_mem_nil, List.nodup_nil⟩, rfl, fun k => by rw [decide_eq_true_iff, List.mem_singleton]⟩, fun k h => of_decide_eq_true h ▸ .refl, decide_eq_true rfl⟩
theorem Seen.add {rows : List (List Int)} {u w : Int} {S : Int → Bool} {c : Nat} (s : Seen rows u S c) (n : S w = false) (r : Reach rows u w) : Seen rows u (fun j => S j || decide (j = w)) (c + 1) := by
  obtain ⟨ks, nd, rfl, e⟩ := s.ks
  refine ⟨⟨w :: ks, List.nodup_cons.mpr ⟨fun m => ?_, nd⟩, rfl, fun k => ?_⟩, fun k h => ?_, ?_⟩
  · rw [(e w).mpr m] at n
    cases n
  · rw [Bool.or_eq_true, decide_eq_true_iff, List.mem_cons, e k, or_comm]
  · rcases (Bool.or_eq_true _ _).mp h with h | h
    · exact s.re k h
    · rw [of_decide_eq_true h]
      exact r
  · rw [s.st, Bool.true_or]
/-- a search that has nothing ahead has seen all -/
theorem Seen.all {rows : List (List Int)} {u : Int} {S : Int → Bool} {c : Nat} (s : Seen rows u S c) (cl : ∀ k, S k = true → ∀ w ∈ rowAt rows k, S w = true) (k : Int) : S k = true ↔ Reach rows u k := by
  refine ⟨s.re k, fun r => ?_⟩
  induction r with
  | refl => exact s.st
  | step _ hw ih => exact cl _ ih _ hw
end Hn

set_option maxHeartbeats 4000000
/-! a search in layers: who is found, and by how many cards -/
namespace Hn
open PySem PySem.Spec PyProof.Rows L2 EF
open PySem.W (Frag keepIn)
/-- how far k is, by the pairs -/
def dist : List (Int × Int) → Int → Option Int
  | [], _ => none
  | p :: r, k => if p.1 = k then some p.2 else dist r k
def encI (kvs : List (Int × Int)) : List (Key × V) := kvs.map fun p => (Sum.inl p.1, V.int p.2)
theorem valV_enc (k : Int) : ∀ kvs : List (Int × Int), valV (encI kvs) (Sum.inl k) = (dist kvs k).map V.int
  | [] => rfl
  | p :: r => by
    have ih := valV_enc k r
    by_cases e : p.1 = k
    · rw [show dist (p :: r) k = some p.2 from if_pos e]
      exact valV_pos (p := ((Sum.inl p.1 : Key), V.int p.2)) (by rw [e])
    · rw [show dist (p :: r) k = dist r k from if_neg e, ← ih]
      exact valV_neg (p := ((Sum.inl p.1 : Key), V.int p.2)) (fun z => e (Sum.inl.inj z))
theorem dist_mem {k : Int} : ∀ {kvs : List (Int × Int)}, k ∈ kvs.map (·.1) ↔ ∃ d, dist kvs k = some d
  | [] => ⟨fun h => absurd h List.not_mem_nil, fun ⟨d, h⟩ => by cases h⟩
  | p :: r => by
    rw [List.map_cons, List.mem_cons]
    by_cases e : p.1 = k
    · exact ⟨fun _ => ⟨p.2, if_pos e⟩, fun _ => .inl e.symm⟩
    · rw [show dist (p :: r) k = dist r k from if_neg e, ← dist_mem (kvs := r)]
      exact ⟨fun h => h.resolve_left fun z => e z.symm, .inr⟩
theorem dist_snoc {w d : Int} (k : Int) : ∀ {kvs : List (Int × Int)}, dist kvs w = none → dist (kvs ++ [(w, d)]) k = if k = w then some d else dist kvs k
  | [], _ => by
    show (if w = k then some d else none) = if k = w then some d else none
    by_cases e : w = k
    · rw [if_pos e, if_pos e.symm]
    · rw [if_neg e, if_neg fun z => e z.symm]
  | p :: r, h => by
    have hw : ¬ p.1 = w := fun z => by
      rw [show dist (p :: r) w = some p.2 from if_pos z] at h
      cases h
    have ih := dist_snoc (d := d) k (kvs := r) (by rw [show dist (p :: r) w = dist r w from if_neg hw] at h; exact h)
    show (if p.1 = k then some p.2 else dist (r ++ [(w, d)]) k) = if k = w then some d else if p.1 = k then some p.2 else dist r k
    by_cases e : p.1 = k
    · rw [if_pos e, if_pos e, if_neg fun z => hw (e.trans z)]
    · rw [if_neg e, if_neg e, ih]
theorem enc_put {kvs : List (Int × Int)} {w d : Int} (h : dist kvs w = none) : putK (encI kvs) (Sum.inl w) (V.int d) = encI (kvs ++ [(w, d)]) := by
  rw [putK_new (V.int d) (by rw [valV_enc, h]; rfl)]
  unfold encI
  rw [List.map_append]
  rfl
/-- what is known at the head of each turn: l is the layer m -/
structure Lay (rows : List (List Int)) (u : Int) (kvs : List (Int × Int)) (l : List Int) (m : Int) : Prop where
  nd : (kvs.map (·.1)).Nodup
  re : ∀ k d, dist kvs k = some d → Reach rows u k
  st : dist kvs u = some 0
  low : ∀ k d, dist kvs k = some d → 0 ≤ d ∧ d ≤ m ∧ (k ≠ u → 0 < d ∧ ∃ j, dist kvs j = some (d - 1) ∧ k ∈ rowAt rows j)
  lay : ∀ k, k ∈ l ↔ dist kvs k = some m
  dn : ∀ k d, dist kvs k = some d → d < m → ∀ w ∈ rowAt rows k, ∃ e, dist kvs w = some e ∧ e ≤ d + 1
  m0 : 0 ≤ m
/-- within a turn: the cards that Pe tells have been followed; f is the next layer so far -/
structure Mid (rows : List (List Int)) (u : Int) (l : List Int) (m : Int) (Pe : Int → Int → Prop) (kvs : List (Int × Int)) (f : List Int) : Prop where
  nd : (kvs.map (·.1)).Nodup
  re : ∀ k d, dist kvs k = some d → Reach rows u k
  st : dist kvs u = some 0
  low : ∀ k d, dist kvs k = some d → 0 ≤ d ∧ d ≤ m + 1 ∧ (k ≠ u → 0 < d ∧ ∃ j, dist kvs j = some (d - 1) ∧ k ∈ rowAt rows j)
  lay : ∀ k, k ∈ l ↔ dist kvs k = some m
  fu : ∀ k, k ∈ f ↔ dist kvs k = some (m + 1)
  dn : ∀ k d, dist kvs k = some d → d < m → ∀ w ∈ rowAt rows k, ∃ e, dist kvs w = some e ∧ e ≤ d + 1
  cur : ∀ k w, Pe k w → ∃ e, dist kvs w = some e ∧ e ≤ m + 1
  m0 : 0 ≤ m
section
variable {rows : List (List Int)} {u : Int} {l : List Int} {m : Int} {Pe Pe' : Int → Int → Prop} {kvs : List (Int × Int)} {f : List Int}
theorem Lay.start : Lay rows u [(u, 0)] [u] 0 := by
  have e : ∀ k d, dist [(u, 0)] k = some d → k = u ∧ d = 0 := fun k d h => by
    have h' : (if u = k then some (0 : Int) else none) = some d := h
    split at h'
    · rename_i z
      exact ⟨z.symm, (Option.some.inj h').symm⟩
    · cases h'
  refine ⟨List.nodup_cons.mpr ⟨List.not_mem_nil, List.nodup_nil⟩, fun k d h => ?_, if_pos rfl, fun k d h => ?_, fun k => ?_, fun k d h lt => ?_, Int.le_refl _⟩
  · rw [(e k d h).1]
    exact .refl
  · obtain ⟨h1, h2⟩ := e k d h
    exact ⟨by omega, by omega, fun n => absurd h1 n⟩
  · rw [List.mem_singleton]
    exact ⟨fun h => h ▸ if_pos rfl, fun h => (e k 0 h).1⟩
  · have := (e k d h).2
    omega
theorem Lay.mid (s : Lay rows u kvs l m) : Mid rows u l m (fun _ _ => False) kvs [] :=
  ⟨s.nd, s.re, s.st, fun k d h => ⟨(s.low k d h).1, by have := (s.low k d h).2.1; omega, (s.low k d h).2.2⟩, s.lay,
    fun k => ⟨fun h => absurd h List.not_mem_nil, fun h => by have := (s.low k _ h).2.1; omega⟩, s.dn, fun _ _ h => h.elim, s.m0⟩
theorem Mid.skip (s : Mid rows u l m Pe kvs f) {w d : Int} (h : dist kvs w = some d) (hp : ∀ k x, Pe' k x → Pe k x ∨ x = w) : Mid rows u l m Pe' kvs f :=
  ⟨s.nd, s.re, s.st, s.low, s.lay, s.fu, s.dn, fun k x p => by
    rcases hp k x p with z | z
    · exact s.cur k x z
    · rw [z]
      exact ⟨d, h, (s.low w d h).2.1⟩, s.m0⟩
theorem Mid.add (s : Mid rows u l m Pe kvs f) {v w : Int} (hv : v ∈ l) (hw : w ∈ rowAt rows v) (n : dist kvs w = none) (hp : ∀ k x, Pe' k x → Pe k x ∨ x = w) : Mid rows u l m Pe' (kvs ++ [(w, m + 1)]) (f ++ [w]) := by
  have dv := (s.lay v).mp hv
  have ds : ∀ k, dist (kvs ++ [(w, m + 1)]) k = if k = w then some (m + 1) else dist kvs k := fun k => dist_snoc k n
  have up : ∀ {k d}, dist kvs k = some d → dist (kvs ++ [(w, m + 1)]) k = some d := fun {k d} h => by
    rw [ds, if_neg (fun z => by rw [z, n] at h; cases h)]
    exact h
  have dw : dist (kvs ++ [(w, m + 1)]) w = some (m + 1) := by rw [ds, if_pos rfl]
  have m0 := s.m0
  refine ⟨?_, fun k d h => ?_, up s.st, fun k d h => ?_, fun k => ?_, fun k => ?_, fun k d h lt x hx => ?_, fun k x p => ?_, s.m0⟩
  · rw [List.map_append]
    refine List.nodup_append.mpr ⟨s.nd, List.nodup_cons.mpr ⟨List.not_mem_nil, List.nodup_nil⟩, fun x hx y hy => ?_⟩
    rw [List.mem_singleton.mp hy]
    intro z
    obtain ⟨d, hd⟩ := dist_mem.mp hx
    rw [z, n] at hd
    cases hd
  · rw [ds] at h
    split at h
    · rename_i z
      rw [z]
      exact .step (s.re v m dv) hw
    · exact s.re k d h
  · rw [ds] at h
    split at h
    · rename_i z
      obtain rfl := Option.some.inj h
      refine ⟨by omega, Int.le_refl _, fun _ => ⟨by omega, v, ?_, z ▸ hw⟩⟩
      rw [show m + 1 - 1 = m by omega]
      exact up dv
    · obtain ⟨h1, h2, h3⟩ := s.low k d h
      refine ⟨h1, h2, fun ne => ?_⟩
      obtain ⟨h4, j, h5, h6⟩ := h3 ne
      exact ⟨h4, j, up h5, h6⟩
  · rw [s.lay k, ds]
    split
    · rename_i z
      rw [z, n]
      exact ⟨fun h => (by cases h), fun h => by have := Option.some.inj h; omega⟩
    · exact Iff.rfl
  · rw [List.mem_append, List.mem_singleton, s.fu k, ds]
    split
    · rename_i z
      exact ⟨fun _ => rfl, fun _ => .inr z⟩
    · rename_i z
      exact ⟨fun h => h.resolve_right z, .inl⟩
  · rw [ds] at h
    split at h
    · have := Option.some.inj h
      omega
    · obtain ⟨e, h1, h2⟩ := s.dn k d h lt x hx
      exact ⟨e, up h1, h2⟩
  · rcases hp k x p with z | z
    · obtain ⟨e, h1, h2⟩ := s.cur k x z
      exact ⟨e, up h1, h2⟩
    · rw [z]
      exact ⟨_, dw, Int.le_refl _⟩
theorem Mid.lay_next (s : Mid rows u l m Pe kvs f) (hp : ∀ k, k ∈ l → ∀ w ∈ rowAt rows k, Pe k w) : Lay rows u kvs f (m + 1) :=
  ⟨s.nd, s.re, s.st, s.low, s.fu, fun k d h lt w hw => by
    rcases Int.lt_or_le d m with z | z
    · exact s.dn k d h z w hw
    · obtain rfl : d = m := by omega
      exact s.cur k w (hp k ((s.lay k).mpr h) w hw), by have := s.m0; omega⟩
end
/-- the people whom u finds, and by how many cards -/
structure Dists (rows : List (List Int)) (u : Int) (kvs : List (Int × Int)) : Prop where
  nd : (kvs.map (·.1)).Nodup
  re : ∀ k, k ∈ kvs.map (·.1) ↔ Reach rows u k
  st : dist kvs u = some 0
  low : ∀ k d, dist kvs k = some d → 0 ≤ d ∧ (k ≠ u → 0 < d ∧ ∃ j, dist kvs j = some (d - 1) ∧ k ∈ rowAt rows j)
  ok : ∀ k d, dist kvs k = some d → ∀ w ∈ rowAt rows k, ∃ e, dist kvs w = some e ∧ e ≤ d + 1
theorem Lay.dists {rows : List (List Int)} {u : Int} {kvs : List (Int × Int)} {m : Int} (s : Lay rows u kvs [] m) : Dists rows u kvs := by
  have ok : ∀ k d, dist kvs k = some d → ∀ w ∈ rowAt rows k, ∃ e, dist kvs w = some e ∧ e ≤ d + 1 := fun k d h w hw => by
    refine s.dn k d h ?_ w hw
    have h1 := (s.low k d h).2.1
    rcases Int.lt_or_le d m with z | z
    · exact z
    · obtain rfl : d = m := by omega
      exact absurd ((s.lay k).mpr h) List.not_mem_nil
  refine ⟨s.nd, fun k => ?_, s.st, fun k d h => ⟨(s.low k d h).1, (s.low k d h).2.2⟩, ok⟩
  rw [dist_mem]
  refine ⟨fun ⟨d, h⟩ => s.re k d h, fun r => ?_⟩
  induction r with
  | refl => exact ⟨0, s.st⟩
  | step _ hw ih =>
    obtain ⟨d, hd⟩ := ih
    obtain ⟨e, he, _⟩ := ok _ d hd _ hw
    exact ⟨e, he⟩
theorem Lay.few {rows : List (List Int)} {u : Int} {kvs : List (Int × Int)} {l : List Int} {m : Int} (s : Lay rows u kvs l m) (h : InRange rows) (hu : 0 ≤ u ∧ u < (rows.length : Int)) : kvs.length ≤ rows.length := by
  have z := few_below s.nd fun k hk => by
    obtain ⟨d, hd⟩ := dist_mem.mp hk
    exact (s.re k d hd).range h hu
  rw [List.length_map] at z
  exact z
theorem Mid.few {rows : List (List Int)} {u : Int} {kvs : List (Int × Int)} {l f : List Int} {m : Int} {Pe : Int → Int → Prop} (s : Mid rows u l m Pe kvs f) (h : InRange rows) (hu : 0 ≤ u ∧ u < (rows.length : Int)) : kvs.length ≤ rows.length := by
  have z := few_below s.nd fun k hk => by
    obtain ⟨d, hd⟩ := dist_mem.mp hk
    exact (s.re k d hd).range h hu
  rw [List.length_map] at z
  exact z
end Hn

set_option maxHeartbeats 4000000
/-! t[::-1] of a tuple -/
namespace Hn
open PySem PySem.Spec PyProof.Rows L2 EF
open PySem.W (Frag keepIn)
section
variable {P : Program} {w : World} {A : Around} {E : Value → Shared → Prop} {z : Shared}
/-- the places of [::-1]: from the last one down -/
theorem places_back (n : Nat) : Builtin.Slice.slicePlaces ((n : Int) - 1) (-1) (-1) = n := by
  unfold Builtin.Slice.slicePlaces
  rw [if_neg (show ¬ (-1 : Int) > 0 by decide), show (- -1 : Int) = 1 by decide]
  split
  · rw [Int.ediv_one]
    omega
  · omega
theorem applied_back {sl : Addr} {a b c : Value} {n : Nat} {Q : Int × Int × Nat → Shared → Prop} (hs : z.heap.IsSliceOf sl a b c) (ha : IsPart a none) (hb : IsPart b none) (hc : IsPart c (some (-1)))
    (h : Q ((n : Int) - 1, -1, n) z) : wpAny (model P w) A (Builtin.Slice.sliceApplied (.ref sl) (pure (n : Int))) Q E z := by
  obtain ⟨_, g, _, d⟩ := hs
  rw [← places_back n] at h
  unfold Builtin.Slice.sliceApplied Builtin.Slice.sliceFields
  have tail : wpAny (model P w) A (pure ((n : Int) - 1, (-1 : Int), Builtin.Slice.slicePlaces ((n : Int) - 1) (-1) (-1))) Q E z := wpAny_pure (by
    rw [places_back n] at h ⊢
    exact h)
  refine wpAny_bind (wpAny_bind (wpAny_field g d (x := a) rfl (wpAny_bind (wpAny_field g d (x := b) rfl (wpAny_bind (wpAny_field g d (x := c) rfl (wpAny_pure (wpAny_bind (HT.slicePart_ hc ?_)))))))))
  show wpAny _ _ (if ((-1 : Int) == 0) = true then _ else _) _ _ z
  rw [if_neg (by decide)]
  exact wpAny_bind (HT.slicePart_ ha (wpAny_bind (HT.slicePart_ hb (wpAny_bind (wpAny_pure tail)))))
theorem picked_back (xs : Array Value) : ((List.range xs.size).filterMap fun (k : Nat) => xs[(((xs.size : Int) - 1) + (k : Int) * (-1)).toNat]?).toArray = xs.toList.reverse.toArray := by
  have one : ∀ k : Nat, (((xs.size : Int) - 1) + (k : Int) * (-1)).toNat = xs.size - 1 - k := fun k => by omega
  simp only [one]
  rw [← PySem.W.krv_all xs, ← List.filterMap_reverse, ← PySem.W.krv_range, List.filterMap_map]
  rfl
theorem got_back {t sl : Addr} {its : Array Value} {a b c : Value} {Q : Value → Shared → Prop} (ht : IsTup z.heap t its) (hs : z.heap.IsSliceOf sl a b c) (ha : IsPart a none) (hb : IsPart b none) (hc : IsPart c (some (-1))) (lt : its.size ≤ sizeLine)
    (h : Q (.ref z.heap.objs.size) { z with heap := z.heap.push { cls := .type "tuple", data := .seq its.toList.reverse.toArray } }) : wpAny (model P w) A (getItem (.ref t) (.ref sl)) Q E z := by
  have room : sizeOk (.seq its.toList.reverse.toArray) := (show its.toList.reverse.toArray.size ≤ sizeLine by simpa using lt)
  have isS : z.TypeIs (.ref sl) "slice" := by
    obtain ⟨o, g, k, _⟩ := hs
    exact ⟨o, g, k⟩
  have none' : ¬ ((((its.size : Int) - 1) == 0 && (-1 : Int) == 1 && its.size == its.size) = true) := by simp
  unfold getItem
  with_reducible refine wpAny_holding ?_
  first | refine wpAny_bind (wpAny_pure (wpAny_bind (wpAny_sequenceKey ht.typeIs (by decide) ?_))) | refine wpAny_bind (wpAny_sequenceKey ht.typeIs (by decide) ?_)
  refine wpAny_bind (wpAny_callSpecial?_slot (name := Str.ofString "__getitem__") ht.typeIs slot_tuple_getitem (wpAny_call_entry slot_tuple_getitem ht.typeIs entry_tuple_getitem ?_ (args_tuple_getitem _ _)))
  show wpAny _ _ (Builtin.Tuple.tupleItemsOf (.ref t) >>= _) _ _ z
  refine wpAny_bind (tupleItemsOf_ ht (wpAny_bind (wpAny_typeOf isS ?_)))
  rw [if_pos (by decide)]
  refine wpAny_bind (applied_back hs ha hb hc ?_)
  show wpAny _ _ (if (((its.size : Int) - 1) == 0 && (-1 : Int) == 1 && its.size == its.size) = true then _ else _) _ _ z
  rw [if_neg none', picked_back]
  first
    | exact wpAny_bind (m := Builtin.Tuple.tupleExact _) (wpAny_newObj_type (wpAny_pure ⟨_, rfl, wpAny_pure h⟩) room)
    | exact wpAny_bind (wpAny_bind (m := Builtin.Tuple.tupleExact _) (wpAny_newObj_type (wpAny_pure (wpAny_pure ⟨_, rfl, wpAny_pure h⟩)) room))
    | exact wpAny_bind (wpAny_bind (m := Builtin.Tuple.tupleExact _) (wpAny_newObj_type (wpAny_pure ⟨_, rfl, wpAny_pure h⟩) room))
    | exact wpAny_bind (m := Builtin.Tuple.tupleExact _) (wpAny_newObj_type (wpAny_bind (wpAny_pure (wpAny_pure ⟨_, rfl, wpAny_pure h⟩))) room)
end
def tRevT (K : PySem.W.Frag) (te : TE) : TE := fun σ H Q => te σ H fun x H1 => ∃ a xs, x = .ref a ∧ SqT K H1 a xs ∧ ∀ p, H1 p = none → Q (.ref p) (upd H1 p (.tup xs.reverse))
theorem pe_revT {X : Cx} {e : Expr} {te : TE} {k : Nat} {p1 p2 p3 pos : Pos} (he : PE X e te) : PE X (.Subscript e (.Slice none none (some (.UnaryOp .USub (.Constant (.int 1) k p1) p2)) p3) pos) (tRevT X.K te) := by
  have less : PO X (some (.UnaryOp .USub (.Constant (.int 1) k p1) p2)) (tPart (tUn (rU fun i => .int (-i)) (tC (.int 1)))) := po_some (pe_un un_neg pe_int)
  constructor
  intro pins s σ H Q I h
  refine Subscript_ (thn (he.run pins s σ H _ I h) ?_)
  rintro v s1 ⟨_, H1, I1, r1, a, xs, rfl, hx, q⟩
  cases r1
  refine wpAny_Slice (thn (po_none.run pins s1 σ H1 (fun o G => o = none ∧ G = H1) I1 ⟨rfl, rfl⟩) ?_)
  rintro va s2 ⟨_, G1, I2, pa, rfl, rfl⟩
  refine thn (po_none.run pins s2 σ _ (fun o G => o = none ∧ G = G1) I2 ⟨rfl, rfl⟩) ?_
  rintro vb s3 ⟨_, G2, I3, pb, rfl, rfl⟩
  refine thn (less.run pins s3 σ _ (fun o G => o = some (-1) ∧ G = G2) I3 ⟨1, rfl, -1, rfl, rfl, rfl⟩) ?_
  rintro vc s4 ⟨_, G3, I4, pc, rfl, rfl⟩
  have I5 : Inv X pins σ G3 { s4 with heap := s4.heap.push { cls := .type "slice", data := .fields #[va, vb, vc] } } := I4.kept (t' := s4.toks) fun _ _ g => Heap.get?_push_of_some _ g
  obtain ⟨its, r, ht, hz⟩ := I5.tuple hx
  have le : its.toArray.size ≤ sizeLine := by
    rw [List.size_toArray, ← r.length]
    exact hz
  show wpAny (model X.prog X.w) X.A (subscriptTail e (.Slice none none (some (.UnaryOp .USub (.Constant (.int 1) k p1) p2)) p3) (.ref a) (.ref s4.heap.objs.size)) (EP X pins σ Q) X.xe { s4 with heap := s4.heap.push { cls := .type "slice", data := .fields #[va, vb, vc] } }
  refine tail_any (ops := [.ref a, .ref s4.heap.objs.size]) ht.typeIs slot_tuple_getitem.lookup (got_back ht (Heap.IsSliceOf.new _ va vb vc) pa pb pc le ?_) (by with_unfolding_all rfl)
  have fit : xs.reverse.length ≤ sizeLine := by
    rw [List.length_reverse]
    exact hz
  exact ⟨.ref _, _, I5.laid (t' := s4.toks) (o := .tup xs.reverse) (fun _ _ g => Heap.get?_push_of_some _ g) (Nat.le_refl _) ⟨fit, _, r.reverse, IsTup.new _ _⟩, rfl, q _ (I5.hok.fresh (Nat.le_refl _))⟩
end Hn

set_option maxHeartbeats 4000000
/-! cutting a block behind a statement; enumerate(list) in a comprehension; a list of own lists beside a bag -/
namespace Hn
open PySem PySem.Spec PyProof.Rows L2 EF
open PySem.W (Frag keepIn)
/-- what follows a statement is shown once, from what P tells -/
theorem cutS {a b : TS} {D : Ends} {σ : L2.St} {H : Hp} (P : L2.St → Hp → Prop) (hb : ∀ σ H, P σ H → b D σ H) (ha : (∀ σ H, P σ H → b D σ H) → tSeq a b D σ H) : tSeq a b D σ H := ha hb
theorem lc_enumL {K : Frag} {a : Addr} {xs : List V} {g : TG} {tt : TT} {te : TE} {vs : List Nat} {σ : L2.St} {H1 : Hp} {D : Addr} {Qd : Hp → Prop} (Pv : Nat → Hp → Prop) (h0 : Pv 0 (upd H1 D (.lst [])))
    (hq : ∀ i H, Pv i H → SqL K H a xs)
    (hs : ∀ i x T H, xs[i]? = some x → Pv i H → H T = none → g (.ref T) (wipe σ vs) (upd H T (.tup [.int (i : Nat), x])) fun σ2 H2 => wipe σ2 vs = wipe σ vs ∧ tt σ2 H2 fun c H3 =>
      if c = true then te σ2 H3 fun z H4 => ∃ acc, H4 D = some (.lst acc) ∧ acc.length < sizeLine ∧ Pv (i + 1) (upd H4 D (.lst (acc ++ [z]))) else Pv (i + 1) H3) (hd : ∀ H, Pv xs.length H → Qd H) :
    ∃ W : Nat → Nat → Hp → Prop, (∃ m, W 0 m (upd H1 D (.lst []))) ∧ ∀ i m H, W i m H →
      ((Ite K a).stop i H ∧ Qd H) ∨ ((Ite K a).go i H ∧ ∃ Nx : Hp → Prop, (∀ H', Nx H' → ∃ m', m' < m ∧ W (i + 1) m' H') ∧ ∀ x H', (Ite K a).yld i H x H' → g x (wipe σ vs) H' fun σ2 H2 => wipe σ2 vs = wipe σ vs ∧ tt σ2 H2 fun c H3 =>
        if c = true then te σ2 H3 fun y H4 => ∃ acc, H4 D = some (.lst acc) ∧ acc.length < sizeLine ∧ Nx (upd H4 D (.lst (acc ++ [y]))) else Nx H3) := by
  refine ⟨fun i m H => m = xs.length - i ∧ i ≤ xs.length ∧ Pv i H, ⟨xs.length, rfl, Nat.zero_le _, h0⟩, ?_⟩
  rintro i m H ⟨rfl, hi, p⟩
  have q1 := hq i H p
  rcases Nat.lt_or_ge i xs.length with h | h
  · have e1 : xs[i]? = some xs[i] := List.getElem?_eq_getElem h
    refine .inr ⟨⟨xs, _, q1, e1⟩, Pv (i + 1), fun H' z => ⟨xs.length - (i + 1), by omega, rfl, h, z⟩, ?_⟩
    rintro x H' hy
    obtain ⟨T, x1, rfl, nT, rfl, f1⟩ := hy
    exact hs i x1 T H (f1 _ q1) p nT
  · obtain rfl : i = xs.length := by omega
    exact .inl ⟨⟨xs, q1, Nat.le_refl _⟩, hd H p⟩
theorem But.new {b g p : Addr} {H : Hp} {o : HO} (n : H p = none) : But b g H (upd H p o) := .of (same_new n)
theorem But.mut {b g p : Addr} {H H' : Hp} {o : HO} (t : But b g H H') (n : H p = none) : But b g H (upd H' p o) := fun a x h1 h2 e => by
  rw [upd_ne (ne_of_none e n)]
  exact t a x h1 h2 e
theorem But.none {b g a : Addr} {H H' : Hp} (t : But b g H H') (h : BagAt H' b g) (n : H' a = none) : H a = none := by
  obtain ⟨n1, n2⟩ := h.ne n
  cases z : H a with
  | none => rfl
  | some o =>
    rw [t a o n1 n2 z] at n
    cases n
theorem BagAt.mut {b g p : Addr} {H : Hp} {o : HO} (h : BagAt H b g) (n1 : p ≠ b) (n2 : p ≠ g) : BagAt (upd H p o) b g := by
  obtain ⟨n, s, c, gs, al, h1, h2, r⟩ := h
  exact ⟨n, s, c, gs, al, by rw [upd_ne (Ne.symm n1)]; exact h1, by rw [upd_ne (Ne.symm n2)]; exact h2, r⟩
theorem lst_ne {H : Hp} {a p : Addr} {o : HO} (h : H a = some o) (n : H p = Option.none) : a ≠ p := fun z => by
  rw [z, n] at h
  cases h
/-- c is a new list of new lists of ints, beside the bag -/
structure Cards (H0 H : Hp) (b g c : Addr) (rows : List (List Int)) : Prop where
  bt : But b g H0 H
  bag : BagAt H b g
  nc : H0 c = none
  cb : c ≠ b
  cg : c ≠ g
  qs : ∃ qs : List Addr, H c = some (.lst (qs.map V.ref)) ∧ qs.length = rows.length ∧ (∀ q ∈ qs, H0 q = none ∧ q ≠ c ∧ q ≠ b ∧ q ≠ g) ∧
    ∀ (i : Nat) (q : Addr) (r : List Int), qs[i]? = some q → rows[i]? = some r → H q = some (.lst (r.map V.int))
section
variable {H0 H H' : Hp} {b g c p : Addr} {rows : List (List Int)}
theorem Cards.nil (bt : But b g H0 H) (h : BagAt H b g) (n : H c = none) : Cards H0 (upd H c (.lst [])) b g c [] :=
  ⟨bt.trans (.new n), h.same (same_new n), bt.none h n, (h.ne n).1, (h.ne n).2, [], upd_same, rfl, fun q h => absurd h List.not_mem_nil, fun i q r e => by simp at e⟩
theorem Cards.but (k : Cards H0 H b g c rows) (t : But b g H H') (h : BagAt H' b g) : Cards H0 H' b g c rows := by
  obtain ⟨bt, bag, nc, cb, cg, qs, h1, h2, h3, h4⟩ := k
  refine ⟨bt.trans t, h, nc, cb, cg, qs, t _ _ cb cg h1, h2, h3, fun i q r e1 e2 => ?_⟩
  obtain ⟨_, _, n1, n2⟩ := h3 q (List.mem_of_getElem? e1)
  exact t _ _ n1 n2 (h4 i q r e1 e2)
theorem Cards.same (k : Cards H0 H b g c rows) (t : Same H H') : Cards H0 H' b g c rows := k.but (.of t) (k.bag.same t)
/-- what is not within may be changed -/
theorem Cards.mut (k : Cards H0 H b g c rows) {o : HO} (hp : H0 p = none) (n1 : p ≠ b) (n2 : p ≠ g) (n3 : p ≠ c) (n4 : ∀ qs : List Addr, H c = some (.lst (qs.map V.ref)) → p ∉ qs) : Cards H0 (upd H p o) b g c rows := by
  obtain ⟨bt, bag, nc, cb, cg, qs, h1, h2, h3, h4⟩ := k
  refine ⟨bt.mut hp, bag.mut n1 n2, nc, cb, cg, qs, by rw [upd_ne (Ne.symm n3)]; exact h1, h2, h3, fun i q r e1 e2 => ?_⟩
  have nq : q ≠ p := fun z => n4 qs h1 (by rw [← z]; exact List.mem_of_getElem? e1)
  rw [upd_ne nq]
  exact h4 i q r e1 e2
/-- one more row, a list at p -/
theorem Cards.push (k : Cards H0 H b g c rows) {r : List Int} (hp : H p = some (.lst (r.map V.int))) (n0 : H0 p = none) (n1 : p ≠ b) (n2 : p ≠ g) (n3 : p ≠ c) : ∃ acc, H c = some (.lst acc) ∧ acc.length = rows.length ∧ Cards H0 (upd H c (.lst (acc ++ [.ref p]))) b g c (rows ++ [r]) := by
  obtain ⟨bt, bag, nc, cb, cg, qs, h1, h2, h3, h4⟩ := k
  refine ⟨_, h1, by rw [List.length_map]; exact h2, bt.mut nc, bag.mut cb cg, nc, cb, cg, qs ++ [p], by rw [upd_same, List.map_append]; rfl, by rw [List.length_append, List.length_append, h2]; rfl, fun q hq => ?_, fun i q r' e1 e2 => ?_⟩
  · rcases List.mem_append.mp hq with z | z
    · exact h3 q z
    · rw [List.mem_singleton.mp z]
      exact ⟨n0, n3, n1, n2⟩
  · rw [List.getElem?_append] at e1 e2
    rw [h2] at e1
    split at e1
    · rename_i hi
      rw [if_pos hi] at e2
      have := (h3 q (List.mem_of_getElem? e1)).2.1
      rw [upd_ne this]
      exact h4 i q r' e1 e2
    · rename_i hi
      rw [if_neg hi] at e2
      have e3 := List.mem_singleton.mp (List.mem_of_getElem? e1)
      have e4 := List.mem_singleton.mp (List.mem_of_getElem? e2)
      rw [e3, e4, upd_ne n3]
      exact hp
theorem Cards.row (k : Cards H0 H b g c rows) {i : Nat} {r : List Int} (e : rows[i]? = some r) : ∃ xs q, H c = some (.lst xs) ∧ xs.length = rows.length ∧ xs[i]? = some (.ref q) ∧ H q = some (.lst (r.map V.int)) ∧ H0 q = none ∧ q ≠ c ∧ q ≠ b ∧ q ≠ g := by
  obtain ⟨bt, bag, nc, cb, cg, qs, h1, h2, h3, h4⟩ := k
  have hi : i < rows.length := (List.getElem?_eq_some_iff.mp e).1
  have e1 : qs[i]? = some (qs[i]'(by omega)) := List.getElem?_eq_getElem (by omega)
  have z := h3 _ (List.mem_of_getElem? e1)
  exact ⟨_, _, h1, by rw [List.length_map]; exact h2, by rw [List.getElem?_map, e1]; rfl, h4 i _ r e1 e, z.1, z.2.1, z.2.2.1, z.2.2.2⟩
theorem Cards.list (k : Cards H0 H b g c rows) : ∃ qs : List Addr, H c = some (.lst (qs.map V.ref)) ∧ qs.length = rows.length := by
  obtain ⟨bt, bag, nc, cb, cg, qs, h1, h2, h3, h4⟩ := k
  exact ⟨qs, h1, h2⟩
end
/-- beside the cards stands something at p -/
structure Side (H0 H : Hp) (b g c : Addr) (rows : List (List Int)) (p : Addr) : Prop where
  k : Cards H0 H b g c rows
  n0 : H0 p = none
  pb : p ≠ b
  pg : p ≠ g
  pc : p ≠ c
  off : ∀ qs : List Addr, H c = some (.lst (qs.map V.ref)) → p ∉ qs
section
variable {H0 H H' : Hp} {b g c p : Addr} {rows : List (List Int)}
theorem Cards.off (k : Cards H0 H b g c rows) (n : H p = none) : p ≠ b ∧ p ≠ g ∧ p ≠ c ∧ ∀ qs : List Addr, H c = some (.lst (qs.map V.ref)) → p ∉ qs := by
  obtain ⟨bt, bag, nc, cb, cg, qs, h1, h2, h3, h4⟩ := k
  refine ⟨(bag.ne n).1, (bag.ne n).2, Ne.symm (lst_ne h1 n), fun qs' e hp => ?_⟩
  have e2 := HO.lst.inj (Option.some.inj (e.symm.trans h1))
  have e3 : qs' = qs := (List.map_inj_right (fun _ _ z => V.ref.inj z)).mp e2
  rw [e3] at hp
  obtain ⟨j, hj, e4⟩ := List.getElem_of_mem hp
  have e5 := h4 j p (rows[j]'(by omega)) (by rw [← e4]; exact List.getElem?_eq_getElem hj) (List.getElem?_eq_getElem (by omega))
  rw [n] at e5
  cases e5
theorem Side.new {o : HO} (k : Cards H0 H b g c rows) (n : H p = none) : Side H0 (upd H p o) b g c rows p := by
  obtain ⟨h1, h2, h3, h4⟩ := k.off n
  exact ⟨k.same (same_new n), k.bt.none k.bag n, h1, h2, h3, fun qs e => h4 qs (by rw [upd_ne (Ne.symm h3)] at e; exact e)⟩
theorem Side.but (s : Side H0 H b g c rows p) (t : But b g H H') (h : BagAt H' b g) : Side H0 H' b g c rows p := by
  refine ⟨s.k.but t h, s.n0, s.pb, s.pg, s.pc, fun qs e => ?_⟩
  obtain ⟨qs', h1, _⟩ := s.k.list
  have e2 := HO.lst.inj (Option.some.inj (e.symm.trans (t _ _ s.k.cb s.k.cg h1)))
  have e3 : qs = qs' := (List.map_inj_right (fun _ _ z => V.ref.inj z)).mp e2
  rw [e3]
  exact s.off qs' h1
theorem Side.same (s : Side H0 H b g c rows p) (t : Same H H') : Side H0 H' b g c rows p := s.but (.of t) (s.k.bag.same t)
theorem Side.set {o : HO} (s : Side H0 H b g c rows p) : Side H0 (upd H p o) b g c rows p :=
  ⟨s.k.mut s.n0 s.pb s.pg s.pc s.off, s.n0, s.pb, s.pg, s.pc, fun qs e => s.off qs (by rw [upd_ne (Ne.symm s.pc)] at e; exact e)⟩
theorem Side.push (s : Side H0 H b g c rows p) {r : List Int} (hp : H p = some (.lst (r.map V.int))) : ∃ acc, H c = some (.lst acc) ∧ acc.length = rows.length ∧ Cards H0 (upd H c (.lst (acc ++ [.ref p]))) b g c (rows ++ [r]) := s.k.push hp s.n0 s.pb s.pg s.pc
end
/-- a row of a web's: of person i of n -/
def GoodRow (n i : Nat) (r : List Int) : Prop := r.Pairwise (· < ·) ∧ (∀ w ∈ r, 0 ≤ w ∧ w < (n : Int)) ∧ (i : Int) ∉ r
def GoodRows (n : Nat) (rows : List (List Int)) : Prop := ∀ (i : Nat) (r : List Int), rows[i]? = some r → GoodRow n i r
theorem GoodRow.nil {n i : Nat} : GoodRow n i [] := ⟨.nil, fun _ h => absurd h List.not_mem_nil, List.not_mem_nil⟩
theorem GoodRows.snoc {n : Nat} {rows : List (List Int)} {r : List Int} (h : GoodRows n rows) (k : GoodRow n rows.length r) : GoodRows n (rows ++ [r]) := fun i r' e => by
  rw [List.getElem?_append] at e
  split at e
  · exact h i r' e
  · rename_i hi
    have e4 := List.mem_singleton.mp (List.mem_of_getElem? e)
    have e5 : i - rows.length < 1 := (List.getElem?_eq_some_iff.mp e).1
    have e6 : i = rows.length := by omega
    rw [e4, e6]
    exact k
theorem GoodRow.few {n i : Nat} {r : List Int} (h : GoodRow n i r) : r.length ≤ n := few_below (h.1.imp fun z => Int.ne_of_lt z) h.2.1
end Hn

set_option maxHeartbeats 4000000
/-! comprehensions with two fors: a walk with any body -/
namespace Hn
open PySem PySem.Spec PyProof.Rows L2 EF
open PySem.W (Frag keepIn)
/-- the walk's part of a comprehension, whatever is done with an item -/
def WalkOf (J : It) (body : (Hp → Prop) → V → Hp → Prop) (Qd : Hp → Prop) (H1 : Hp) : Prop := ∃ W : Nat → Nat → Hp → Prop, (∃ m, W 0 m H1) ∧ ∀ i m H, W i m H →
  (J.stop i H ∧ Qd H) ∨ (J.go i H ∧ ∃ Nx : Hp → Prop, (∀ H', Nx H' → ∃ m', m' < m ∧ W (i + 1) m' H') ∧ ∀ x H', J.yld i H x H' → body Nx x H')
theorem walk_it {J : It} {n : Nat} {body : (Hp → Prop) → V → Hp → Prop} {Qd : Hp → Prop} {H1 : Hp} (Pv : Nat → Hp → Prop) (h0 : Pv 0 H1) (st : ∀ H, Pv n H → J.stop n H) (go : ∀ i H, i < n → Pv i H → J.go i H)
    (hs : ∀ i H x H', i < n → Pv i H → J.yld i H x H' → body (Pv (i + 1)) x H') (hd : ∀ H, Pv n H → Qd H) : WalkOf J body Qd H1 := by
  refine ⟨fun i m H => i ≤ n ∧ m = n - i ∧ Pv i H, ⟨n, Nat.zero_le _, rfl, h0⟩, fun i m H k => ?_⟩
  obtain ⟨le, rfl, p⟩ := k
  rcases Nat.lt_or_eq_of_le le with lt | e
  · exact .inr ⟨go i H lt p, Pv (i + 1), fun H' p' => ⟨_, Nat.sub_succ_lt_self n i lt, lt, rfl, p'⟩, fun x H' y => hs i H x H' lt p y⟩
  · rw [e] at p ⊢
    exact .inl ⟨st H p, hd H p⟩
section
variable {K : Frag} {a : Addr} {xs : List V} {body : (Hp → Prop) → V → Hp → Prop} {Qd : Hp → Prop} {H1 : Hp}
theorem walk_tup (Pv : Nat → Hp → Prop) (h0 : Pv 0 H1) (hq : ∀ i H, Pv i H → SqT K H a xs) (hs : ∀ i x H, xs[i]? = some x → Pv i H → body (Pv (i + 1)) x H) (hd : ∀ H, Pv xs.length H → Qd H) : WalkOf (Itt K a) body Qd H1 :=
  walk_it Pv h0 (fun H p => ⟨xs, hq _ H p, Nat.le_refl _⟩) (fun i H lt p => ⟨xs, xs[i], hq i H p, List.getElem?_eq_getElem lt⟩) (fun i H x H' lt p y => by
    obtain ⟨rfl, e⟩ := y
    exact hs i x _ (e xs (hq i _ p)) p) hd
theorem walk_list (Pv : Nat → Hp → Prop) (h0 : Pv 0 H1) (hq : ∀ i H, Pv i H → SqL K H a xs) (hs : ∀ i x H, xs[i]? = some x → Pv i H → body (Pv (i + 1)) x H) (hd : ∀ H, Pv xs.length H → Qd H) : WalkOf (Itl K a) body Qd H1 :=
  walk_it Pv h0 (fun H p => ⟨xs, hq _ H p, Nat.le_refl _⟩) (fun i H lt p => ⟨xs, xs[i], hq i H p, List.getElem?_eq_getElem lt⟩) (fun i H x H' lt p y => by
    obtain ⟨rfl, e⟩ := y
    exact hs i x _ (e xs (hq i _ p)) p) hd
theorem walk_range {lo : Int} {n : Nat} (Pv : Nat → Hp → Prop) (h0 : Pv 0 H1) (hs : ∀ i H, i < n → Pv i H → body (Pv (i + 1)) (.int (lo + (i : Nat))) H) (hd : ∀ H, Pv n H → Qd H) : WalkOf (Itr lo n) body Qd H1 :=
  walk_it Pv h0 (fun H p => Nat.le_refl _) (fun i H lt p => lt) (fun i H x H' lt p y => by
    obtain ⟨rfl, rfl⟩ := y
    exact hs i _ lt p) hd
end
end Hn

set_option maxHeartbeats 4000000
/-! what a loop or a comprehension walks; loops; list comprehensions -/
namespace Pl
open PySem PySem.Spec PyProof.Rows L2 Hn
open PySem.W (Frag keepIn)
/-- what is walked: the items; if it is a list of the store, that one with what it holds -/
structure Wk where
  items : List D
  src : Option (Nat × List D)
def Wk.stay (it : Wk) (st : Sto) : Prop := match it.src with
  | none => True
  | some (n, xs) => st[n]? = some (.lst xs)
@[simp] theorem stay_none {xs : List D} {st : Sto} : Wk.stay ⟨xs, none⟩ st = True := rfl
theorem stay_some {xs ys : List D} {n : Nat} {st : Sto} : Wk.stay ⟨xs, some (n, ys)⟩ st = (st[n]? = some (.lst ys)) := rfl
structure Tr (g : G) (μ : Mu) (H : Hp) (μ' : Mu) (H' : Hp) : Prop where
  rv : ∀ ds vs, RVs g μ H ds vs → RVs g μ' H' ds vs
  at_ : ∀ (n : Nat) (a : Addr), μ.ls[n]? = some a → μ'.ls[n]? = some a
  fx : ∀ (a : Addr) (o : HO), μ.off a → H a = some o → μ'.off a ∧ H' a = some o
def RIt (g : G) (μ1 : Mu) (H1 : Hp) (it : Wk) (J : It) : Prop := ∀ (i : Nat) (μ : Mu) (H : Hp) (st : Sto), Tr g μ1 H1 μ H → RS g μ H st → it.stay st → (it.items.length ≤ i → J.stop i H) ∧
  ∀ d, it.items[i]? = some d → J.go i H ∧ ∀ x H', J.yld i H x H' → Go μ H μ H' ∧ RS g μ H' st ∧ RV g μ H' d x
theorem Tr.refl {g : G} {μ : Mu} {H : Hp} : Tr g μ H μ H := ⟨fun _ _ h => h, fun _ _ h => h, fun _ _ h k => ⟨h, k⟩⟩
section
variable {g : G} {W : WX} {X : Cx} {μ μ1 μ2 : Mu} {H H1 H2 : Hp} {st st1 : Sto} {σ : L2.St} {ρ : Env}
theorem Tr.go (t : Tr g μ H μ1 H1) (x : Go μ1 H1 μ2 H2) : Tr g μ H μ2 H2 := ⟨fun ds vs h => (t.rv ds vs h).go x, fun n a h => x.at (t.at_ n a h), fun a o h k => by
  obtain ⟨h1, k1⟩ := t.fx a o h k
  exact ⟨x.out h1 k1, x.keep a o h1.1 k1⟩⟩
theorem Tr.hide (t : Tr g μ H μ1 H1) {p : Addr} {o : HO} (h : H1 p = none) : Tr g μ H (μ1.hide p) (upd H1 p o) := ⟨fun ds vs k => RVs.hid List.mem_cons_self (RVs.hide h (t.rv ds vs k)), t.at_, fun a u k e => by
  obtain ⟨k1, e1⟩ := t.fx a u k e
  exact ⟨off_hide h k1 e1, by rw [upd_ne (ne_of_none e1 h)]; exact e1⟩⟩
theorem Tr.hid (t : Tr g μ H μ1 H1) {p : Addr} {o : HO} (h : p ∈ μ1.pv) : Tr g μ H μ1 (upd H1 p o) := ⟨fun ds vs k => RVs.hid h (t.rv ds vs k), t.at_, fun a u k e => by
  obtain ⟨k1, e1⟩ := t.fx a u k e
  exact ⟨k1, at_hid h k1 e1⟩⟩
/-- a frozen thing stays through -/
theorem Tr.one (t : Tr g μ H μ1 H1) {d : D} {v : V} (h : RV g μ H d v) : RV g μ1 H1 d v := by
  obtain ⟨w, r, e, h1, _⟩ := t.rv [d] [v] (.one h)
  cases e
  exact h1
def itrOf (st : Sto) : D → Option Wk
  | .tup xs => some ⟨xs, none⟩
  | .lst xs => some ⟨xs, none⟩
  | .rol xs => some ⟨xs, none⟩
  | .loc n => match st[n]? with
    | some (.lst xs) => some ⟨xs, some (n, xs)⟩
    | _ => none
  | _ => none
@[simp] theorem itrOf_tup {xs : List D} {st : Sto} : itrOf st (.tup xs) = some ⟨xs, none⟩ := rfl
@[simp] theorem itrOf_lst {xs : List D} {st : Sto} : itrOf st (.lst xs) = some ⟨xs, none⟩ := rfl
@[simp] theorem itrOf_rol {xs : List D} {st : Sto} : itrOf st (.rol xs) = some ⟨xs, none⟩ := rfl
theorem itrOf_loc {n : Nat} {xs : List D} {st : Sto} (h : st[n]? = some (.lst xs)) : itrOf st (.loc n) = some ⟨xs, some (n, xs)⟩ := by simp only [itrOf, h]
@[simp] def mIt (m : Env → Sto → R D) (ρ : Env) (st : Sto) : R Wk := (m ρ st).bind fun d st1 => ofOpt (itrOf st1 d) fun it => .ok it st1
abbrev tI (g : G) (W : WX) (mi : Env → Sto → R Wk) : TI := tG g W (RIt g) mi
abbrev PMI (g : G) (W : WX) (X : Cx) (tg iter : Expr) (mi : Env → Sto → R Wk) : Prop := PI X tg iter (tI g W mi)
theorem _root_.L2.PI.imp {X : Cx} {tg e : Expr} {t t' : TI} (h : PI X tg e t) (k : ∀ σ H R, t' σ H R → t σ H R) : PI X tg e t' := ⟨fun pins s σ H Q I q => h.run pins s σ H Q I (k _ _ _ q)⟩
theorem _root_.L2.PI.or {X : Cx} {tg e : Expr} {t t' : TI} (h : PI X tg e t) (h' : PI X tg e t') : PI X tg e (fun σ H R => t σ H R ∨ t' σ H R) := ⟨fun pins s σ H Q I q => q.elim (h.run pins s σ H Q I) (h'.run pins s σ H Q I)⟩
theorem len_of {ds : List D} {vs : List V} (r : RVs g μ H ds vs) {i : Nat} (h : ds.length ≤ i) : vs.length ≤ i := by rw [r.length]; exact h
theorem sqL_eq {K : Frag} {a : Addr} {vs : List V} (hv : SqL K H a vs) {i : Nat} {x : V} (h : ∀ xs, SqL K H a xs → xs[i]? = some x) : vs[i]? = some x := h vs hv
theorem it_tup {xs : List D} {a : Addr} (h : RV g μ H (.tup xs) (.ref a)) (t : Tr g μ H μ1 H1) : ∃ vs, H1 a = some (.tup vs) ∧ RVs g μ1 H1 xs vs := by
  obtain ⟨b, vs, e, q, r⟩ := t.one h
  cases e
  exact ⟨vs, q.2, r⟩
theorem it_lst {d : D} {it : Wk} {a : Addr} (nt : ∀ ys, d ≠ .tup ys) (h : RV g μ H d (.ref a)) (e : itrOf st d = some it) (t : Tr g μ H μ1 H1) (S : RS g μ1 H1 st1) (y : it.stay st1) : ∃ vs, SqL g.K H1 a vs ∧ RVs g μ1 H1 it.items vs := by
  cases d with
  | tup ys => exact absurd rfl (nt ys)
  | lst ys =>
    cases e
    obtain ⟨b, vs, e, q, r⟩ := t.one h
    cases e
    exact ⟨vs, SqL.of q.2, r⟩
  | rol ys =>
    cases e
    obtain ⟨b, vs, e, q, r⟩ := t.one h
    cases e
    exact ⟨vs, sqL_of q, r⟩
  | loc n =>
    obtain ⟨b, e1, q⟩ := h
    cases e1
    unfold itrOf at e
    simp only at e
    split at e
    · rename_i xs e2
      cases e
      obtain ⟨vs, e4, r⟩ := S.at_ n _ a y (t.at_ n a q)
      exact ⟨vs, SqL.of e4, r⟩
    · cases e
  | _ => cases e
variable {tg e : Expr} {m : Env → Sto → R D} {p pos tpos : Pos} {elts : List Expr} {kk : Nat}
theorem itr_ref {d : D} {it : Wk} {x : V} (h : RV g μ H d x) (e : itrOf st d = some it) : ∃ a, x = .ref a := by
  cases d with
  | tup ys => obtain ⟨a, _, h, _⟩ := h; exact ⟨a, h⟩
  | lst ys => obtain ⟨a, _, h, _⟩ := h; exact ⟨a, h⟩
  | rol ys => obtain ⟨a, _, h, _⟩ := h; exact ⟨a, h⟩
  | loc n => obtain ⟨a, h, _⟩ := h; exact ⟨a, h⟩
  | _ => cases e
theorem stay_now {d : D} {it : Wk} (e : itrOf st d = some it) : it.stay st := by
  cases d with
  | tup ys => cases e; exact True.intro
  | lst ys => cases e; exact True.intro
  | rol ys => cases e; exact True.intro
  | loc n =>
    unfold itrOf at e
    simp only at e
    split at e
    · rename_i xs e2
      cases e
      exact e2
    · cases e
  | _ => cases e
/-- for x in a list, a tuple -/
theorem pmi_seq (hK : X.K = g.K) (h : PM g W X e m) : PMI g W X tg e (mIt m) := ((pi_listK (K := g.K) hK h).or (pi_tupK (K := g.K) hK h)).imp fun σ H Q ⟨μ, ρ, st, rel, p⟩ => by
  by_cases hd : ∃ ys st1, m ρ st = .ok (.tup ys) st1
  · obtain ⟨ys, st1, e1⟩ := hd
    refine .inr (tG_bindE rel p fun μ1 d st1' x H1 e1' go1 rel1 rv1 p1 => ?_)
    rw [e1] at e1'
    cases e1'
    obtain ⟨a, vs, rfl, q, r⟩ := id rv1
    refine ⟨a, rfl, ⟨vs, SqT.of q.2⟩, PostG.now (show PostG g W σ μ1 H1 (RIt g) (.ok ⟨ys, none⟩ st1) Q from p1) rel1.sto fun i μ2 H2 st2 t S y => ?_⟩
    obtain ⟨ws, k, rw'⟩ := it_tup rv1 t
    refine ⟨fun hl => ⟨ws, SqT.of k, len_of rw' hl⟩, fun d hd => ?_⟩
    obtain ⟨v, h1, h2⟩ := rw'.at hd
    refine ⟨⟨ws, v, SqT.of k, h1⟩, fun x H' hy => ?_⟩
    obtain ⟨rfl, hx⟩ := hy
    have := hx ws (SqT.of k)
    rw [h1] at this
    cases this
    exact ⟨Go.refl, S, h2⟩
  · refine .inl (tG_bindE rel p fun μ1 d st1 x H1 e1 go1 rel1 rv1 p1 => ?_)
    obtain ⟨it, e2, p1⟩ := post_opt p1
    obtain ⟨a, rfl⟩ := itr_ref rv1 e2
    have nt : ∀ ys, d ≠ .tup ys := fun ys z => hd ⟨ys, st1, by rw [e1, z]⟩
    obtain ⟨vs, q, r⟩ := it_lst nt rv1 e2 Tr.refl rel1.sto (stay_now e2)
    refine ⟨a, rfl, ⟨vs, q⟩, PostG.now p1 rel1.sto fun i μ2 H2 st2 t S y => ?_⟩
    obtain ⟨ws, k, rw'⟩ := it_lst nt rv1 e2 t S y
    refine ⟨fun hl => ⟨ws, k, len_of rw' hl⟩, fun d hd => ?_⟩
    obtain ⟨v, h1, h2⟩ := rw'.at hd
    refine ⟨⟨ws, v, k, h1⟩, fun x H' hy => ?_⟩
    obtain ⟨rfl, hx⟩ := hy
    have := hx ws k
    rw [h1] at this
    cases this
    exact ⟨Go.refl, S, h2⟩
def rngD (lo : Int) (n : Nat) : List D := (List.range n).map fun (k : Nat) => D.int (lo + (k : Int))
theorem rngD_len {lo : Int} {n : Nat} : (rngD lo n).length = n := by unfold rngD; rw [List.length_map, List.length_range]
theorem rngD_at {lo : Int} {n i : Nat} {d : D} (h : (rngD lo n)[i]? = some d) : i < n ∧ d = .int (lo + (i : Int)) := by
  unfold rngD at h
  rw [List.getElem?_map] at h
  obtain ⟨k, e1, e2⟩ := Option.map_eq_some_iff.mp h
  obtain ⟨h1, e3⟩ := List.getElem?_eq_some_iff.mp e1
  rw [List.getElem_range] at e3
  subst e3
  rw [List.length_range] at h1
  exact ⟨h1, e2.symm⟩
abbrev b62 : Int := 4611686018427387904
def rng1R (ds : List D) (st : Sto) : R Wk := match ds with
  | [.int j] => guardR (-b62 ≤ j ∧ j < b62) (.ok ⟨rngD 0 j.toNat, none⟩ st)
  | _ => .no
def rng2R (ds : List D) (st : Sto) : R Wk := match ds with
  | [.int i, .int j] => guardR ((-b62 ≤ i ∧ i < b62) ∧ (-b62 ≤ j ∧ j < b62)) (.ok ⟨rngD i (j - i).toNat, none⟩ st)
  | _ => .no
@[simp] theorem rngR_one {j : Int} {st : Sto} : rng1R [.int j] st = guardR (-b62 ≤ j ∧ j < b62) (.ok ⟨rngD 0 j.toNat, none⟩ st) := rfl
@[simp] theorem rngR_two {i j : Int} {st : Sto} : rng2R [.int i, .int j] st = guardR ((-b62 ≤ i ∧ i < b62) ∧ (-b62 ≤ j ∧ j < b62)) (.ok ⟨rngD i (j - i).toNat, none⟩ st) := rfl
@[simp] def mItA (f : List D → Sto → R Wk) (ms : Env → Sto → R (List D)) (ρ : Env) (st : Sto) : R Wk := (ms ρ st).bind f
theorem rng_it {lo : Int} {n : Nat} : RIt g μ H ⟨rngD lo n, none⟩ (L2.Itr lo n) := fun i μ2 H2 st2 t S y => ⟨fun hl => by rw [show (Wk.items ⟨rngD lo n, none⟩) = rngD lo n from rfl, rngD_len] at hl; exact hl, fun d hd => by
  obtain ⟨h1, rfl⟩ := rngD_at hd
  refine ⟨h1, fun x H' hy => ?_⟩
  obtain ⟨rfl, rfl⟩ := hy
  exact ⟨Go.refl, S, rfl⟩⟩
variable {ms : Env → Sto → R (List D)} {a b : Expr}
theorem pmi_range1 (hg : Gl X "range") (hm : X.mg "range" = none) (ha : PMA g W X [a] ms) (hs : starEach [a] X.env = [(false, eval a X.env)] := by rfl) : PMI g W X tg (.Call (.Name "range" p) [a] [] pos) (mItA rng1R ms) := (pi_range1 hg hm ha hs).imp fun σ H Q ⟨μ, ρ, st, rel, p⟩ => tG_bind rel p fun μ1 ds st1 vs H1 go1 rel1 rv1 p1 => by
  unfold rng1R at p1
  split at p1
  · obtain ⟨v, rfl, h⟩ := one_at rv1
    obtain ⟨hl, p2⟩ := post_guard p1
    exact ⟨_, by rw [show v = _ from h], hl.1, hl.2, PostG.now p2 rel1.sto rng_it⟩
  · exact p1.elim
theorem pmi_range2 (hg : Gl X "range") (hm : X.mg "range" = none) (ha : PMA g W X [a, b] ms) (hs : starEach [a, b] X.env = [(false, eval a X.env), (false, eval b X.env)] := by rfl) (hs2 : starEach [b] X.env = [(false, eval b X.env)] := by rfl) :
    PMI g W X tg (.Call (.Name "range" p) [a, b] [] pos) (mItA rng2R ms) := (pi_range2 hg hm ha hs hs2).imp fun σ H Q ⟨μ, ρ, st, rel, p⟩ => tG_bind rel p fun μ1 ds st1 vs H1 go1 rel1 rv1 p1 => by
  unfold rng2R at p1
  split at p1
  · obtain ⟨v, v', rfl, h, h'⟩ := two_at rv1
    obtain ⟨hl, p2⟩ := post_guard p1
    exact ⟨_, _, by rw [show v = _ from h, show v' = _ from h'], ⟨hl.1.1, hl.1.2, hl.2.1, hl.2.2⟩, PostG.now p2 rel1.sto rng_it⟩
  · exact p1.elim
/-! enumerate, zip -/
def enumD : Nat → List D → List D
  | _, [] => []
  | i, d :: ds => .tup [.int (i : Int), d] :: enumD (i + 1) ds
theorem enumD_at : ∀ {ds : List D} {k i : Nat} {d : D}, (enumD k ds)[i]? = some d → ∃ x, ds[i]? = some x ∧ d = .tup [.int ((k + i : Nat) : Int), x]
  | [], k, i, d, h => by cases h
  | x :: ds, k, 0, d, h => by cases h; exact ⟨x, rfl, rfl⟩
  | x :: ds, k, i + 1, d, h => by
    obtain ⟨y, e1, e2⟩ := enumD_at (ds := ds) (k := k + 1) (i := i) h
    refine ⟨y, e1, ?_⟩
    rw [e2]
    congr 4
    omega
theorem enumD_len : ∀ {ds : List D} {k : Nat}, (enumD k ds).length = ds.length
  | [], _ => rfl
  | x :: ds, k => by unfold enumD; rw [List.length_cons, List.length_cons, enumD_len]
def enumR (ds : List D) (st : Sto) : R Wk := match ds with
  | [d] => ofOpt (itrOf st d) fun it => .ok ⟨enumD 0 it.items, it.src⟩ st
  | _ => .no
@[simp] theorem enumR_tup {xs : List D} {st : Sto} : enumR [.tup xs] st = .ok ⟨enumD 0 xs, none⟩ st := rfl
@[simp] theorem enumR_lst {xs : List D} {st : Sto} : enumR [.lst xs] st = .ok ⟨enumD 0 xs, none⟩ st := rfl
theorem pair_new {d : D} {v : V} {i : Nat} {T : Addr} (S : RS g μ H st) (h : RV g μ H d v) (nT : H T = none) : Go μ H μ (upd H T (.tup [.int (i : Int), v])) ∧ RS g μ (upd H T (.tup [.int (i : Int), v])) st ∧ RV g μ (upd H T (.tup [.int (i : Int), v])) (.tup [.int (i : Int), d]) (.ref T) :=
  ⟨Go.side S nT, S.side nT, T, _, rfl, ⟨S.off nT, upd_same⟩, .cons rfl (.one (h.go (Go.side S nT)))⟩
theorem pmi_enum (hK : X.K = g.K) (hg : Gl X "enumerate") (hm : X.mg "enumerate" = none) (ha : PMA g W X [e] ms) (hs : starEach [e] X.env = [(false, eval e X.env)] := by rfl) : PMI g W X (.Tuple elts kk tpos) (.Call (.Name "enumerate" p) [e] [] pos) (mItA enumR ms) :=
  ((pi_enumK (K := g.K) hK hg hm ha hs).or (pi_enumT (K := g.K) hK hg hm ha hs)).imp fun σ H Q ⟨μ, ρ, st, rel, p⟩ => by
    by_cases hd : ∃ ys st1, ms ρ st = .ok [.tup ys] st1
    · obtain ⟨ys, st1, e1⟩ := hd
      refine .inr (tG_bindE rel p fun μ1 d st1' x H1 e1' go1 rel1 rv1 p1 => ?_)
      rw [e1] at e1'
      cases e1'
      obtain ⟨v, rfl, h⟩ := one_at rv1
      obtain ⟨a, vs, rfl, q, r⟩ := id h
      refine ⟨a, vs, rfl, SqT.of q.2, PostG.now (show PostG g W σ μ1 H1 (RIt g) (.ok ⟨enumD 0 ys, none⟩ st1) Q from p1) rel1.sto fun i μ2 H2 st2 t S y => ?_⟩
      have k := t.fx a _ q.1 q.2
      have rw' := t.rv _ _ r
      refine ⟨fun hl => ⟨SqT.of k.2, len_of rw' (by rw [show Wk.items ⟨enumD 0 ys, none⟩ = enumD 0 ys from rfl, enumD_len] at hl; exact hl)⟩, fun d hd => ?_⟩
      obtain ⟨x, e5, rfl⟩ := enumD_at hd
      obtain ⟨v, h1, h2⟩ := rw'.at e5
      refine ⟨⟨SqT.of k.2, (List.getElem?_eq_some_iff.mp h1).1⟩, fun z H' hy => ?_⟩
      obtain ⟨T, x', rfl, nT, rfl, hx⟩ := hy
      rw [h1] at hx
      cases hx
      rw [Nat.zero_add]
      exact pair_new S h2 nT
    · refine .inl (tG_bindE rel p fun μ1 ds st1 x H1 e1 go1 rel1 rv1 p1 => ?_)
      unfold enumR at p1
      split at p1
      · rename_i d
        obtain ⟨v, rfl, h⟩ := one_at rv1
        obtain ⟨it, e2, p1⟩ := post_opt p1
        obtain ⟨a, rfl⟩ := itr_ref h e2
        have nt : ∀ ys, d ≠ .tup ys := fun ys z => hd ⟨ys, st1, by rw [e1, z]⟩
        obtain ⟨vs, q, r⟩ := it_lst nt h e2 Tr.refl rel1.sto (stay_now e2)
        refine ⟨a, vs, rfl, q, PostG.now p1 rel1.sto fun i μ2 H2 st2 t S y => ?_⟩
        obtain ⟨ws, k, rw'⟩ := it_lst nt h e2 t S y
        refine ⟨fun hl => ⟨ws, k, len_of rw' (by rw [show Wk.items ⟨enumD 0 it.items, it.src⟩ = enumD 0 it.items from rfl, enumD_len] at hl; exact hl)⟩, fun d' hd' => ?_⟩
        obtain ⟨x, e5, rfl⟩ := enumD_at hd'
        obtain ⟨v, h1, h2⟩ := rw'.at e5
        refine ⟨⟨ws, v, k, h1⟩, fun z H' hy => ?_⟩
        obtain ⟨T, x', rfl, nT, rfl, hx⟩ := hy
        have hx2 := hx ws k
        rw [h1] at hx2
        cases hx2
        rw [Nat.zero_add]
        exact pair_new S h2 nT
      · exact p1.elim
/-! ### for -/
open Classical in
noncomputable def forGo (it : Wk) (p : Pat) (b : Env → Sto → O) : List D → Env → Sto → O
  | [], ρ, st => if it.stay st then .nx ρ st else .no
  | d :: ds, ρ, st => if it.stay st then ofOptO (p.set d ρ) fun ρ' => match b ρ' st with
    | .nx ρ2 st2 => forGo it p b ds ρ2 st2
    | .ct ρ2 st2 => forGo it p b ds ρ2 st2
    | .bk ρ2 st2 => .nx ρ2 st2
    | o => o else .no
noncomputable def mFor (mi : Env → Sto → R Wk) (p : Pat) (b : Env → Sto → O) (ρ : Env) (st : Sto) : O := O.of (mi ρ st) ρ fun it st1 => forGo it p b it.items ρ st1
variable {mi : Env → Sto → R Wk} {pt : Pat} {bd : Env → Sto → O} {ss : List Stmt} {iter : Expr}
theorem pms_for (hp : PassesOwn (model X.prog X.w) X.A X.env X.xe) (hc : X.calm = true) (hi : PMI g W X tg iter mi) (hg : PG X tg (gP g pt)) (hb : PMSs g W X ss bd) (hs : ∀ x, foldedSetIterable iter X.env x = pure x := by intro _; rfl) :
    PMS g W X (.For tg iter ss [] pos) (mFor mi pt bd) := (ps_for hp hc hi hg hb hs).imp fun Dn σ H ⟨μ, ρ, st, rel, p⟩ => tG_O rel p fun μ1 it st1 J H1 go rel1 ri p1 => by
  refine ⟨fun i m σ H => ∃ μ ρ st, Rel g μ σ H ρ st ∧ Tr g μ1 H1 μ H ∧ m = it.items.length - i ∧ PostS g W μ H (forGo it pt bd (it.items.drop i) ρ st) Dn, ⟨it.items.length - 0, μ1, ρ, st1, rel1, Tr.refl, rfl, p1⟩, ?_⟩
  rintro i m σ H ⟨μ, ρ, st, rel, tr, rfl, p⟩
  by_cases hi : i < it.items.length
  · have e1 : it.items.drop i = it.items[i] :: it.items.drop (i + 1) := List.drop_eq_getElem_cons hi
    rw [e1] at p
    unfold forGo at p
    split at p
    · rename_i hst
      obtain ⟨_, k⟩ := ri i μ H st tr rel.sto hst
      obtain ⟨g1, g2⟩ := k it.items[i] (List.getElem?_eq_getElem hi)
      refine .inr ⟨g1, fun σ' H' => ∃ μ ρ st, Rel g μ σ' H' ρ st ∧ Tr g μ1 H1 μ H' ∧ PostS g W μ H' (forGo it pt bd (it.items.drop (i + 1)) ρ st) Dn, fun σ' H' ⟨μ', ρ', st', h1, h2, h3⟩ => ⟨_, by omega, μ', ρ', st', h1, h2, rfl, h3⟩, fun x H' hy => ?_⟩
      obtain ⟨go', S', rx⟩ := g2 x H' hy
      cases e2 : pt.set it.items[i] ρ with
      | none => rw [e2] at p; exact p.elim
      | some ρ' =>
        rw [e2] at p
        have p := PostS.base go' p
        refine ⟨μ, ρ, st, _, ρ', rel.go go' S', rx, e2, fun σ2 rel2 _ => ⟨μ, ρ', st, rel2, ?_⟩⟩
        have tr' := tr.go go'
        simp only [ofOptO_some] at p
        cases e3 : bd ρ' st with
        | nx ρ2 st2 => rw [e3] at p; exact fun μ3 σ3 H3 go3 rel3 => ⟨μ3, ρ2, st2, rel3, tr'.go go3, PostS.base go3 p⟩
        | ct ρ2 st2 => rw [e3] at p; exact fun μ3 σ3 H3 go3 rel3 => ⟨μ3, ρ2, st2, rel3, tr'.go go3, PostS.base go3 p⟩
        | bk ρ2 st2 => rw [e3] at p; exact p
        | rt d st2 => rw [e3] at p; exact p
        | er x ρ2 st2 => rw [e3] at p; exact p
        | no => rw [e3] at p; exact p
    · exact p.elim
  · rw [List.drop_eq_nil_of_le (by omega)] at p
    unfold forGo at p
    split at p
    · rename_i hst
      exact .inl ⟨(ri i μ H st tr rel.sto hst).1 (by omega), p μ σ H Go.refl rel⟩
    · exact p.elim
/-! ### list comprehensions -/
def R.ner {α β : Type} (r : R α) (f : α → Sto → R β) : R β := match r with
  | .ok a st => f a st
  | _ => .no
@[simp] theorem R.ner_ok {α β : Type} (a : α) (st : Sto) (f : α → Sto → R β) : (R.ok a st).ner f = f a st := rfl
open Classical in
noncomputable def compGo (it : Wk) (p : Pat) (t : Env → Sto → R Bool) (m : Env → Sto → R D) (ρ : Env) : List D → Sto → List D → R (List D)
  | [], st, acc => if it.stay st then .ok acc st else .no
  | d :: ds, st, acc => if it.stay st then ofOpt (p.set d ρ) fun ρ' => (t ρ' st).ner fun c st1 => if c = true then (m ρ' st1).ner fun x st2 => guardR (acc.length ≤ lim) (compGo it p t m ρ ds st2 (acc ++ [x])) else compGo it p t m ρ ds st1 acc else .no
@[simp] def mYes (_ : Env) (st : Sto) : R Bool := .ok true st
noncomputable def mComp (mi : Env → Sto → R Wk) (vs : List Nat) (p : Pat) (t : Env → Sto → R Bool) (m : Env → Sto → R D) (ρ : Env) (st : Sto) : R D := (mi ρ st).bind fun it st1 => (compGo it p t m (wipeD ρ vs) it.items st1 []).bind fun acc st2 => .ok (.lst acc) st2
/-- a new list in the store -/
noncomputable def mCompM (mi : Env → Sto → R Wk) (vs : List Nat) (p : Pat) (t : Env → Sto → R Bool) (m : Env → Sto → R D) (ρ : Env) (st : Sto) : R D := (mi ρ st).bind fun it st1 => (compGo it p t m (wipeD ρ vs) it.items st1 []).bind fun acc st2 => .ok (.loc st2.length) (st2 ++ [.lst acc])
abbrev Wn : WX := fun _ _ _ _ => False
theorem post_ner {α β γ : Type} {Rp : Mu → Hp → γ → β → Prop} {r : R α} {f : α → Sto → R γ} {P : γ → Sto → Prop} {B : Er → Sto → Prop} (h : (r.ner f).post P B) : r.post (fun a st => (f a st).post P B) fun _ _ => False := by
  cases r with
  | ok a st => exact h
  | er e st => exact h
  | no => exact h
end
end Pl

set_option maxHeartbeats 4000000
/-! list comprehensions: the rules -/
namespace Pl
open PySem PySem.Spec PyProof.Rows L2 Hn
open PySem.W (Frag keepIn)
section
variable {g : G} {W : WX} {X : Cx} {μ μ1 μ2 : Mu} {H H1 H2 : Hp} {st st1 : Sto} {σ : L2.St} {ρ : Env}
theorem Rel.tr (r : Rel g μ σ H ρ st) (t : Tr g μ H μ1 H1) (S : RS g μ1 H1 st1) : Rel g μ1 σ H1 ρ st1 := ⟨r.len, fun i d e => by
  obtain ⟨v, h1, h2⟩ := r.slot i d e
  exact ⟨v, h1, t.one h2⟩, S⟩
theorem Go.bare {l l' p q : List Addr} (x : Go ⟨l, q⟩ H ⟨l', q⟩ H1) : Go ⟨l, p⟩ H ⟨l', p⟩ H1 := ⟨x.ext, rfl, x.new, x.keep⟩
theorem Go.fresh (x : Go μ H μ1 H1) {D : Addr} {o : HO} (h : H D = none) : Go μ H μ1 (upd H1 D o) := ⟨x.ext, x.pv, x.new, fun a u n e => by
  rw [upd_ne (ne_of_none e h)]
  exact x.keep a u n e⟩
theorem off_up {l p : List Addr} {D a : Addr} (k : ((⟨l, p⟩ : Mu).hide D).off a) : ((⟨l, p⟩ : Mu).push D).off a := ⟨fun z => by
  rcases List.mem_append.mp z with z | z
  · exact k.1 z
  · exact k.2 (by rw [List.mem_singleton.mp z]; exact List.mem_cons_self), fun z => k.2 (List.mem_cons_of_mem _ z)⟩
mutual
theorem RV.up {l p : List Addr} {D : Addr} : ∀ {d : Pl.D} {v : V}, RV g ((⟨l, p⟩ : Mu).hide D) H d v → RV g ((⟨l, p⟩ : Mu).push D) H d v
  | .non, _, h => h
  | .bl _, _, h => h
  | .int _, _, h => h
  | .str _, _, h => h
  | .tup xs, _, k => by obtain ⟨a, vs, e, q, r⟩ := k; exact ⟨a, vs, e, ⟨off_up q.1, q.2⟩, RVs.up r⟩
  | .lst xs, _, k => by obtain ⟨a, vs, e, q, r⟩ := k; exact ⟨a, vs, e, ⟨off_up q.1, q.2⟩, RVs.up r⟩
  | .rol xs, _, k => by obtain ⟨a, vs, e, q, r⟩ := k; exact ⟨a, vs, e, q.imp_left fun q => ⟨off_up q.1, q.2⟩, RVs.up r⟩
  | .dct ks xs, _, k => by obtain ⟨a, vs, e, q, k, r⟩ := k; exact ⟨a, vs, e, ⟨off_up q.1, q.2⟩, k, RVs.up r⟩
  | .loc n, _, k => by
    obtain ⟨a, e, q⟩ := k
    have q2 : l[n]? = some a := q
    exact ⟨a, e, by show (l ++ [D])[n]? = some a; rw [List.getElem?_append_left (List.getElem?_eq_some_iff.mp q2).1]; exact q2⟩
  | .nam _, _, k => k
  | .err _ _, _, k => k
theorem RVs.up {l p : List Addr} {D : Addr} : ∀ {ds : List Pl.D} {vs : List V}, RVs g ((⟨l, p⟩ : Mu).hide D) H ds vs → RVs g ((⟨l, p⟩ : Mu).push D) H ds vs
  | [], _, k => k
  | d :: ds, _, k => by obtain ⟨v, r, e, h1, h2⟩ := k; exact ⟨v, r, e, RV.up h1, RVs.up h2⟩
end
variable {pt : Pat} {t : Env → Sto → R Bool} {m : Env → Sto → R D} {vs : List Nat}
/-- a list D that is made, with what was put in so far -/
structure Made (g : G) (μ1 : Mu) (H1 : Hp) (D : Addr) (μ : Mu) (H : Hp) (st : Sto) (acc : List Pl.D) : Prop where
  pv : μ.pv = D :: μ1.pv
  go : Go μ1 H1 ⟨μ.ls, μ1.pv⟩ H
  tr : Tr g μ1 H1 μ H
  S : RS g μ H st
  lst : ∃ ws, H D = some (.lst ws) ∧ RVs g μ H acc ws
theorem Made.start {D : Addr} (S : RS g μ1 H1 st) (h : H1 D = none) : Made g μ1 H1 D (μ1.hide D) (upd H1 D (.lst [])) st [] := ⟨rfl, (Go.refl (μ := μ1)).fresh h, Tr.refl.hide h, S.hide h, [], upd_same, rfl⟩
theorem Made.on {D : Addr} {acc : List Pl.D} (M : Made g μ1 H1 D μ H st acc) (x : Go μ H μ2 H2) (S : RS g μ2 H2 st1) : Made g μ1 H1 D μ2 H2 st1 acc := by
  obtain ⟨ws, e, r⟩ := M.lst
  refine ⟨x.pv.trans M.pv, M.go.trans ?_, M.tr.go x, S, ws, x.keep D _ (M.S.pvs D (by rw [M.pv]; exact List.mem_cons_self)).1 e, r.go x⟩
  exact ⟨x.ext, rfl, x.new, x.keep⟩
theorem Made.add {D : Addr} {acc : List Pl.D} {d : Pl.D} {v : V} (M : Made g μ1 H1 D μ H st acc) (h : H1 D = none) (r : RV g μ H d v) : ∃ ws, H D = some (.lst ws) ∧ ws.length = acc.length ∧ Made g μ1 H1 D μ (upd H D (.lst (ws ++ [v]))) st (acc ++ [d]) := by
  obtain ⟨ws, e, rs⟩ := M.lst
  have hp : D ∈ μ.pv := by rw [M.pv]; exact List.mem_cons_self
  exact ⟨ws, e, rs.length, M.pv, M.go.fresh h, M.tr.hid hp, M.S.hid hp, ws ++ [v], upd_same, (rs.app (.one r)).hid hp⟩
theorem Made.mu {D : Addr} {acc : List Pl.D} (M : Made g μ1 H1 D μ H st acc) : μ = (⟨μ.ls, μ1.pv⟩ : Mu).hide D := by
  have := M.pv
  cases μ with
  | mk l p =>
    have e : p = D :: μ1.pv := this
    rw [e]
    rfl
theorem Made.frz {D : Addr} {acc : List Pl.D} (M : Made g μ1 H1 D μ H st acc) (S1 : RS g μ1 H1 st1) (h : H1 D = none) : RS g ⟨μ.ls, μ1.pv⟩ H st ∧ RV g ⟨μ.ls, μ1.pv⟩ H (.lst acc) (.ref D) := by
  obtain ⟨ws, e, rs⟩ := M.lst
  have hp : D ∈ μ.pv := by rw [M.pv]; exact List.mem_cons_self
  have S := M.S
  have n := (S.pvs D hp).1
  rw [M.mu] at S rs
  exact ⟨S.show', D, ws, rfl, ⟨⟨n, (S1.off h).2⟩, e⟩, rs.show'⟩
theorem Made.sto {D : Addr} {acc : List Pl.D} (M : Made g μ1 H1 D μ H st acc) (S1 : RS g μ1 H1 st1) (h : H1 D = none) : Go μ1 H1 ((⟨μ.ls, μ1.pv⟩ : Mu).push D) H ∧ RS g ((⟨μ.ls, μ1.pv⟩ : Mu).push D) H (st ++ [.lst acc]) ∧ RV g ((⟨μ.ls, μ1.pv⟩ : Mu).push D) H (.loc st.length) (.ref D) := by
  obtain ⟨S, _, ws, e0, q, rs⟩ := M.frz S1 h
  cases e0
  have hp : D ∈ μ.pv := by rw [M.pv]; exact List.mem_cons_self
  -- nothing names D
  have S2 := M.S
  rw [M.mu] at S2
  obtain ⟨ws2, e2, rs2⟩ := M.lst
  rw [e2] at q
  obtain rfl : ws2 = ws := by have := q.2; cases this; rfl
  rw [M.mu] at rs2
  have up : ∀ ds vs, RVs g ((⟨μ.ls, μ1.pv⟩ : Mu).hide D) H ds vs → RVs g ((⟨μ.ls, μ1.pv⟩ : Mu).push D) H ds vs := fun ds vs r => RVs.up r
  refine ⟨⟨?_, rfl, fun a ha => ?_, M.go.keep⟩, ⟨?_, ?_, fun n c a e3 e4 => ?_, fun a ha => ?_, S.old⟩, D, rfl, ?_⟩
  · obtain ⟨ν, e⟩ := M.go.ext
    exact ⟨ν ++ [D], by show μ.ls ++ [D] = _; rw [show μ.ls = μ1.ls ++ ν from e, List.append_assoc]⟩
  · rcases List.mem_append.mp ha with z | z
    · exact M.go.new a z
    · rw [List.mem_singleton.mp z]; exact .inr h
  · show (μ.ls ++ [D]).length = _
    rw [List.length_append, List.length_append, show μ.ls.length = _ from S.len]
    rfl
  · show (μ.ls ++ [D]).Nodup
    rw [List.nodup_append]
    exact ⟨S.nd, by simp, fun a ha b hb e => (M.S.pvs D hp).1 (by rw [List.mem_singleton.mp hb] at e; rw [← e]; exact ha)⟩
  · have e5 : (μ.ls ++ [D])[n]? = some a := e4
    rcases Nat.lt_or_ge n μ.ls.length with hn | hn
    · rw [List.getElem?_append_left hn] at e5
      rw [List.getElem?_append_left (by rw [← show μ.ls.length = st.length from S.len]; exact hn)] at e3
      exact (S2.at_ n c a e3 e5).map rfl up
    · rw [List.getElem?_append_right hn] at e5
      rw [List.getElem?_append_right (by rw [← show μ.ls.length = st.length from S.len]; exact hn)] at e3
      have e6 : n - μ.ls.length = 0 := by
        rcases Nat.eq_zero_or_pos (n - μ.ls.length) with z | z
        · exact z
        · rw [List.getElem?_eq_none_iff.mpr (Nat.succ_le_of_lt z)] at e5
          cases e5
      rw [e6] at e5
      rw [← show μ.ls.length = st.length from S.len, e6] at e3
      cases e5
      cases e3
      exact ⟨ws2, e2, up _ _ rs2⟩
  · have ha' : a ∈ μ1.pv := ha
    obtain ⟨h1, o, e⟩ := S1.pvs a ha'
    obtain ⟨h3, h4⟩ := S.pvs a ha
    refine ⟨fun z => ?_, h4⟩
    rcases List.mem_append.mp z with z | z
    · exact h3 z
    · rw [List.mem_singleton.mp z, h] at e; cases e
  · show (μ.ls ++ [D])[st.length]? = _
    rw [← show μ.ls.length = st.length from S.len, List.getElem?_append_right (Nat.le_refl _), Nat.sub_self]
    rfl
/-- the walk of a comprehension's first part, whatever is done with what was made -/
theorem comp_k {α β : Type} {it : Wk} {J : It} {D : Addr} {fin : List Pl.D → Sto → R α} {P : α → Sto → Prop} {B : Er → Sto → Prop} {Qd : Hp → Prop} (hsl : ∀ i ∈ pt.sl, i ∈ vs) (rel1 : Rel g μ1 σ H1 ρ st1) (ri : RIt g μ1 H1 it J) (hD : H1 D = none)
    (p : ((compGo it pt t m (wipeD ρ vs) it.items st1 []).bind fin).post P B)
    (hfin : ∀ μ H st acc, Made g μ1 H1 D μ H st acc → (fin acc st).post P B → Qd H) :
    ∃ W : Nat → Nat → Hp → Prop, (∃ m, W 0 m (upd H1 D (.lst []))) ∧ ∀ i k H, W i k H → (J.stop i H ∧ Qd H) ∨ (J.go i H ∧ ∃ Nx : Hp → Prop, (∀ H', Nx H' → ∃ k', k' < k ∧ W (i + 1) k' H') ∧
      ∀ x H', J.yld i H x H' → gP g pt x (L2.wipe σ vs) H' fun σ2 H2 => L2.wipe σ2 vs = L2.wipe σ vs ∧ tTOf g Wn t σ2 H2 fun b H3 =>
        if b = true then tOf g Wn m σ2 H3 fun y H4 => ∃ acc, H4 D = some (.lst acc) ∧ acc.length < sizeLine ∧ Nx (upd H4 D (.lst (acc ++ [y]))) else Nx H3) := by
  refine ⟨fun i k H => ∃ μ st acc, Made g μ1 H1 D μ H st acc ∧ k = it.items.length - i ∧ ((compGo it pt t m (wipeD ρ vs) (it.items.drop i) st acc).bind fin).post P B, ⟨_, μ1.hide D, st1, [], Made.start rel1.sto hD, rfl, p⟩, ?_⟩
  rintro i k H ⟨μ, st, acc, M, rfl, p⟩
  by_cases hi : i < it.items.length
  · rw [List.drop_eq_getElem_cons hi] at p
    unfold compGo at p
    split at p
    · rename_i hst
      obtain ⟨_, kk⟩ := ri i μ H st M.tr M.S hst
      obtain ⟨g1, g2⟩ := kk it.items[i] (List.getElem?_eq_getElem hi)
      refine .inr ⟨g1, fun H' => ∃ μ st acc, Made g μ1 H1 D μ H' st acc ∧ ((compGo it pt t m (wipeD ρ vs) (it.items.drop (i + 1)) st acc).bind fin).post P B, fun H' ⟨μ', st', acc', h1, h2⟩ => ⟨_, by omega, μ', st', acc', h1, rfl, h2⟩, fun x H' hy => ?_⟩
      obtain ⟨go', S', rx⟩ := g2 x H' hy
      cases e2 : pt.set it.items[i] (wipeD ρ vs) with
      | none => rw [e2] at p; exact p.elim
      | some ρ' =>
        rw [e2] at p
        have M' := M.on go' S'
        refine ⟨μ, _, st, _, ρ', (rel1.tr M'.tr S').wipe vs, rx, e2, fun σ2 rel2 wp => ⟨(wp vs hsl).trans (wipe_wipe σ vs), ?_⟩⟩
        simp only [ofOpt_some] at p
        refine ⟨μ, ρ', st, rel2, ?_⟩
        cases e3 : t ρ' st with
        | er e st2 => rw [e3] at p; exact p.elim
        | no => rw [e3] at p; exact p.elim
        | ok c st2 =>
          rw [e3] at p
          intro μ3 c' H3 go3 S3 ec
          cases (show c' = c from ec)
          have M3 := M'.on go3 S3
          simp only [R.ner_ok] at p
          cases c with
          | false => exact ⟨μ3, st2, acc, M3, p⟩
          | true =>
            simp only [if_true] at p
            refine ⟨μ3, ρ', st2, rel2.go go3 S3, ?_⟩
            cases e4 : m ρ' st2 with
            | er e st3 => rw [e4] at p; exact p.elim
            | no => rw [e4] at p; exact p.elim
            | ok y st3 =>
              rw [e4] at p
              intro μ4 v H4 go4 S4 rv
              have M4 := M3.on go4 S4
              simp only [R.ner_ok] at p
              unfold guardR at p
              split at p
              · rename_i hl
                obtain ⟨ws, e5, l5, M5⟩ := M4.add hD rv
                exact ⟨ws, e5, by rw [l5]; exact lim_lt hl, μ4, st3, acc ++ [y], M5, p⟩
              · exact p.elim
    · exact p.elim
  · rw [List.drop_eq_nil_of_le (by omega)] at p
    unfold compGo at p
    split at p
    · rename_i hst
      exact .inl ⟨(ri i μ H st M.tr M.S hst).1 (by omega), hfin μ H st acc M p⟩
    · exact p.elim
variable {mi : Env → Sto → R Wk} {elt tg iter : Expr} {ifs : List Expr} {scope : Scope} {own : List (Str × Nat)} {pos : Pos}
theorem pts_none : PTs X [] (tTOf g W mYes) := ⟨fun pins s σ H Q I ⟨μ, ρ, st, rel, p⟩ => pts_nil.run pins s σ H Q I (PostG.now p rel.sto rfl)⟩
theorem pts_some {c : Expr} (h : PMT g W X c t) : PTs X [c] (tTOf g W t) := pts_one h
theorem lc_frz {Q : VK} {wi : TI} (hsl : ∀ i ∈ pt.sl, i ∈ vs) (rel : Rel g μ σ H ρ st) (p : PostG g W σ μ H (RV g) (mComp mi vs pt t m ρ st) Q) : tLc (tI g W mi) (gP g pt) (tTOf g Wn t) (tOf g Wn m) vs σ H Q :=
  tG_bind rel p fun μ1 it st1 J H1 go1 rel1 ri p1 => fun D hD => comp_k (α := Pl.D) (β := V) hsl rel1 ri hD p1 fun μ2 H2 st2 acc M q => by
    obtain ⟨S, rv⟩ := M.frz rel1.sto hD
    exact q _ _ _ M.go S rv
theorem lc_sto {Q : VK} {wi : TI} (hsl : ∀ i ∈ pt.sl, i ∈ vs) (rel : Rel g μ σ H ρ st) (p : PostG g W σ μ H (RV g) (mCompM mi vs pt t m ρ st) Q) : tLc (tI g W mi) (gP g pt) (tTOf g Wn t) (tOf g Wn m) vs σ H Q :=
  tG_bind rel p fun μ1 it st1 J H1 go1 rel1 ri p1 => fun D hD => comp_k (α := Pl.D) (β := V) hsl rel1 ri hD p1 fun μ2 H2 st2 acc M q => by
    obtain ⟨go, S, rv⟩ := M.sto rel1.sto hD
    exact q _ _ _ go S rv
section
variable (hc : X.calm = true) (hN : X.N.Nodup) (hi : PMI g W X tg iter mi) (ok : BlkOk X.N X.env.scope scope own) (hsl : ∀ i ∈ pt.sl, i ∈ own.map (·.2))
    (hg : ∀ (s : Shared) (H : Hp) (C : Addr) (cl : List (Str × Addr)) (fp : List Addr), PG (X.blk s H scope (compEnvC scope cl C X.env) fp) tg (gP g pt))
    (ht : ∀ (s : Shared) (H : Hp) (C : Addr) (cl : List (Str × Addr)) (fp : List Addr), PTs (X.blk s H scope (compEnvC scope cl C X.env) fp) ifs (tTOf g Wn t))
    (he : ∀ (s : Shared) (H : Hp) (C : Addr) (cl : List (Str × Addr)) (fp : List Addr), PM g Wn (X.blk s H scope (compEnvC scope cl C X.env) fp) elt m)
    (hs : ∀ x, foldedSetIterable iter X.env x = pure x := by intro _; rfl)
include hc hN hi ok hsl hg ht he hs
theorem pm_lc : PM g W X (.ListComp elt [⟨tg, iter, ifs, 0⟩] scope pos) (mComp mi (own.map (·.2)) pt t m) := (pe_lc hc hN hi ok hg ht he hs).imp fun σ H Q ⟨μ, ρ, st, rel, p⟩ => lc_frz (wi := tI g W mi) hsl rel p
theorem pm_lcM : PM g W X (.ListComp elt [⟨tg, iter, ifs, 0⟩] scope pos) (mCompM mi (own.map (·.2)) pt t m) := (pe_lc hc hN hi ok hg ht he hs).imp fun σ H Q ⟨μ, ρ, st, rel, p⟩ => lc_sto (wi := tI g W mi) hsl rel p
variable {i : Nat} {y : Str} {py spos : Pos} (hy : X.N[i]? = some y) (hyl : X.env.scope.names.lookup y = some .local) (hsw : swapsWith (.ListComp elt [⟨tg, iter, ifs, 0⟩] scope pos) (some (.Name y py)) spos.line X.env = pure true)
include hy hyl hsw
theorem setLc_k {mm : Env → Sto → R Pl.D} (hk : ∀ σ H Q μ ρ st, Rel g μ σ H ρ st → PostG g W σ μ H (RV g) (mm ρ st) Q → tLc (tI g W mi) (gP g pt) (tTOf g Wn t) (tOf g Wn m) (own.map (·.2)) σ H Q) : PMS g W X (.Assign [.Name y py] (.ListComp elt [⟨tg, iter, ifs, 0⟩] scope pos) spos) (mSet i mm) :=
  (ps_setLc hc hN hy hyl hsw hi ok hg ht he hs).imp fun Dn σ H ⟨μ, ρ, st, rel, p⟩ => by
    show tLc _ _ _ _ _ σ H _
    refine hk σ H _ μ ρ st rel ?_
    unfold mSet at p
    cases e : mm ρ st with
    | ok d st1 =>
      rw [e] at p
      exact fun μ1 v H1 go S rv => PostS.base go p μ1 _ H1 Go.refl ((rel.go go S).set rv)
    | er x st1 =>
      rw [e] at p
      exact fun μ1 H1 cls dd go S re => p μ1 σ H1 cls dd go (rel.go go S) re
    | no => rw [e] at p; exact p.elim
theorem pms_setLc : PMS g W X (.Assign [.Name y py] (.ListComp elt [⟨tg, iter, ifs, 0⟩] scope pos) spos) (mSet i (mComp mi (own.map (·.2)) pt t m)) := setLc_k hc hN hi ok hsl hg ht he hs hy hyl hsw fun σ H Q μ ρ st rel p => lc_frz (wi := tI g W mi) hsl rel p
theorem pms_setLcM : PMS g W X (.Assign [.Name y py] (.ListComp elt [⟨tg, iter, ifs, 0⟩] scope pos) spos) (mSet i (mCompM mi (own.map (·.2)) pt t m)) := setLc_k hc hN hi ok hsl hg ht he hs hy hyl hsw fun σ H Q μ ρ st rel p => lc_sto (wi := tI g W mi) hsl rel p
end
end
end Pl

set_option maxHeartbeats 4000000
/-! what changes lists and dicts in place -/
namespace Pl
open PySem PySem.Spec PyProof.Rows L2 Hn
open PySem.W (Frag keepIn)
/-! ### methods of lists -/
@[simp] def mMeth (f : D → List D → Sto → R D) (mo : Env → Sto → R D) (ms : Env → Sto → R (List D)) (ρ : Env) (st : Sto) : R D := (mo ρ st).bind fun x st1 => ofOpt (itemsL st1 x) fun _ => (ms ρ st1).bind fun xs st2 => f x xs st2
@[simp] def mMeth0 (f : D → List D → Sto → R D) (mo : Env → Sto → R D) (ρ : Env) (st : Sto) : R D := (mo ρ st).bind fun x st1 => ofOpt (itemsL st1 x) fun _ => f x [] st1
def lstOf (st : Sto) : D → Option (Nat × List D)
  | .loc n => match st[n]? with
    | some (.lst xs) => some (n, xs)
    | _ => none
  | _ => none
theorem lstOf_loc {n : Nat} {xs : List D} {st : Sto} (h : st[n]? = some (.lst xs)) : lstOf st (.loc n) = some (n, xs) := by simp only [lstOf, h]
def appD (x : D) (ds : List D) (st : Sto) : R D := match ds with
  | [d] => ofOpt (lstOf st x) fun q => guardR (q.2.length ≤ lim) (.ok .non (st.set q.1 (.lst (q.2 ++ [d]))))
  | _ => .no
def extD (x : D) (ds : List D) (st : Sto) : R D := match ds with
  | [d] => ofOpt (lstOf st x) fun q => ofOpt (itemsL st d) fun ys => guardR (q.2.length + ys.length ≤ lim) (.ok .non (st.set q.1 (.lst (q.2 ++ ys))))
  | _ => .no
def popD (x : D) (ds : List D) (st : Sto) : R D := match ds with
  | [] => ofOpt (lstOf st x) fun q => ofOpt (q.2[q.2.length - 1]?) fun d => .ok d (st.set q.1 (.lst q.2.dropLast))
  | _ => .no
def popAtD (x : D) (ds : List D) (st : Sto) : R D := match ds with
  | [.int i] => ofOpt (lstOf st x) fun q => guardR (-b62 ≤ i ∧ i < b62) (ofOpt (seqIndex? i q.2.length) fun k => ofOpt (q.2[k]?) fun d => .ok d (st.set q.1 (.lst (q.2.eraseIdx k))))
  | _ => .no
def MM (g : G) (r : V → List V → Hp → VK → Prop) (mo : D → List D → Sto → R D) : Prop := ∀ (W : WX) (σ : L2.St) (μ : Mu) (H : Hp) (st : Sto) (x : V) (vs : List V) (dx : D) (ds : List D) (Q : VK), RS g μ H st → RV g μ H dx x → RVs g μ H ds vs → PostG g W σ μ H (RV g) (mo dx ds st) Q → r x vs H Q
section
variable {g : G} {W : WX} {X : Cx} {μ μ1 μ2 : Mu} {H H1 H2 : Hp} {st st1 : Sto} {σ : L2.St} {ρ : Env}
theorem lstOf_at {d : D} {x : V} {n : Nat} {xs : List D} (S : RS g μ H st) (h : RV g μ H d x) (e : lstOf st d = some (n, xs)) : ∃ a vs, x = .ref a ∧ μ.ls[n]? = some a ∧ H a = some (.lst vs) ∧ RVs g μ H xs vs := by
  cases d with
  | loc m =>
    obtain ⟨a, e1, q⟩ := h
    unfold lstOf at e
    simp only at e
    split at e
    · rename_i ys e2
      cases e
      obtain ⟨vs, e3, r⟩ := S.at_ n _ a e2 q
      exact ⟨a, vs, e1, q, e3, r⟩
    · cases e
  | _ => cases e
/-- a list of the store is changed -/
theorem put_lst {n : Nat} {a : Addr} {ys : List D} {ws : List V} (S : RS g μ H st) (e : μ.ls[n]? = some a) (r : RVs g μ H ys ws) : RS g μ (upd H a (.lst ws)) (st.set n (.lst ys)) ∧ Go μ H μ (upd H a (.lst ws)) :=
  ⟨S.mut e ⟨ws, upd_same, r.go (Go.mut e)⟩, Go.mut e⟩
theorem mm_app : MM g rAppend appD := by
  intro W σ μ H st x vs dx ds Q S rx rs p
  unfold appD at p
  split at p
  · obtain ⟨v, rfl, h⟩ := one_at rs
    obtain ⟨⟨n, xs⟩, e, p1⟩ := post_opt p
    obtain ⟨hl, p2⟩ := post_guard p1
    obtain ⟨a, ws, rfl, k1, k2, r⟩ := lstOf_at S rx e
    obtain ⟨S2, go⟩ := put_lst S k1 (r.app (.one h))
    exact ⟨a, ws, v, rfl, rfl, k2, by rw [r.length]; exact lim_lt hl, PostG.done p2 go S2 rfl⟩
  · exact p.elim
theorem mm_ext : MM g rExtend extD := by
  intro W σ μ H st x vs dx ds Q S rx rs p
  unfold extD at p
  split at p
  · obtain ⟨v, rfl, h⟩ := one_at rs
    obtain ⟨⟨n, xs⟩, e, p1⟩ := post_opt p
    obtain ⟨ys, e2, p1⟩ := post_opt p1
    obtain ⟨hl, p2⟩ := post_guard p1
    obtain ⟨a, ws, rfl, k1, k2, r⟩ := lstOf_at S rx e
    obtain ⟨b, us, rfl, k3, r3⟩ := itemsL_at S h e2
    obtain ⟨S2, go⟩ := put_lst S k1 (r.app r3)
    exact ⟨a, b, ws, us, rfl, rfl, k2, k3, by rw [r.length, r3.length]; exact lim_le hl, PostG.done p2 go S2 rfl⟩
  · exact p.elim
theorem mm_pop : MM g rPop popD := by
  intro W σ μ H st x vs dx ds Q S rx rs p
  unfold popD at p
  split at p
  · cases (show vs = [] from rs)
    obtain ⟨⟨n, xs⟩, e, p1⟩ := post_opt p
    obtain ⟨d, e2, p2⟩ := post_opt p1
    obtain ⟨a, ws, rfl, k1, k2, r⟩ := lstOf_at S rx e
    obtain ⟨v, e3, rv⟩ := r.at e2
    have rd : RVs g μ H xs.dropLast ws.dropLast := by
      rw [List.dropLast_eq_take, List.dropLast_eq_take, r.length]
      exact r.take _
    obtain ⟨S2, go⟩ := put_lst S k1 rd
    exact ⟨a, ws, v, rfl, rfl, k2, by rw [r.length]; exact e3, PostG.done p2 go S2 (rv.go go)⟩
  · exact p.elim
theorem erase_at {xs : List D} {ws : List V} (r : RVs g μ H xs ws) (k : Nat) : RVs g μ H (xs.eraseIdx k) (ws.eraseIdx k) := by
  rw [List.eraseIdx_eq_take_drop_succ, List.eraseIdx_eq_take_drop_succ]
  exact (r.take _).app (r.drop _)
theorem mm_popAt : MM g rPopAt popAtD := by
  intro W σ μ H st x vs dx ds Q S rx rs p
  unfold popAtD at p
  split at p
  · rename_i i
    obtain ⟨v0, rfl, h0⟩ := one_at rs
    cases (show v0 = .int i from h0)
    obtain ⟨⟨n, xs⟩, e, p1⟩ := post_opt p
    obtain ⟨hl, p1⟩ := post_guard p1
    obtain ⟨k, e1, p1⟩ := post_opt p1
    obtain ⟨d, e2, p2⟩ := post_opt p1
    obtain ⟨a, ws, rfl, k1, k2, r⟩ := lstOf_at S rx e
    obtain ⟨v, e3, rv⟩ := r.at e2
    obtain ⟨S2, go⟩ := put_lst S k1 (erase_at r k)
    exact ⟨a, ws, i, k, v, rfl, rfl, k2, Int.le_trans (by decide) hl.1, Int.lt_of_lt_of_le hl.2 (by decide), by rw [r.length]; exact e1, e3, PostG.done p2 go S2 (rv.go go)⟩
  · exact p.elim
variable {o e : Expr} {es : List Expr} {mo : Env → Sto → R D} {ms : Env → Sto → R (List D)} {r : V → List V → Hp → VK → Prop} {f : D → List D → Sto → R D} {name : Str} {apos cpos : Pos} {id : String}
theorem pm_bm (hK : X.K = g.K) (pa : PlainAttrs "list") (slot : Slot "list" name id) (hty : typeOf (.builtin id) = pure (.type "method_descriptor")) (hm : MtR X id r) (hf : MM g r f) (ho : PM g W X o mo) (ha : PMA g W X (e :: es) ms)
    (hbase : attributeBase o name X.env (eval o X.env) = eval o X.env := by rfl)
    (hfew : ((backTo cpos (starEach (e :: es) X.env)).all (fun x => !x.1) && (backToKw cpos (keywordEach [] X.env)).all (fun x => x.1.isSome)
      && decide ((e :: es).length + ([] : List Keyword).length + (if ([] : List Keyword).isEmpty then 0 else 1) < 30)) = true := by rfl)
    (hline : (apos.endLine == cpos.line) = true := by rfl) (hs : starEach (e :: es) X.env = (false, eval e X.env) :: starEach es X.env := by rfl) (hplain : (backTo cpos (starEach es X.env)).any (·.1) = false := by rfl) :
    PM g W X (.Call (.Attribute o name apos) (e :: es) [] cpos) (mMeth f mo ms) :=
  (pe_bm pa slot hty hm ho ha hbase hfew hline hs hplain).imp fun σ H Q ⟨μ, ρ, st, rel, p⟩ => tG_bind rel p fun μ1 d st1 x H1 go1 rel1 rv1 p1 => by
    obtain ⟨xs, e1, p1⟩ := post_opt p1
    obtain ⟨a, vs, rfl, k, r1⟩ := itemsL_at rel1.sto rv1 e1
    exact ⟨.inl ⟨rfl, _, SqL.of k⟩, tG_bind rel1 p1 fun μ2 ds st2 us H2 go2 rel2 rv2 p2 => hf W σ μ2 H2 st2 _ us d ds Q rel2.sto (rv1.go go2) rv2 p2⟩
theorem pm_bm0 (hK : X.K = g.K) (pa : PlainAttrs "list") (slot : Slot "list" name id) (hty : typeOf (.builtin id) = pure (.type "method_descriptor")) (hm : MtR X id r) (hf : MM g r f) (ho : PM g W X o mo)
    (hbase : attributeBase o name X.env (eval o X.env) = eval o X.env := by rfl) (hline : (apos.endLine == cpos.line) = true := by rfl) : PM g W X (.Call (.Attribute o name apos) [] [] cpos) (mMeth0 f mo) :=
  (pe_bm0 pa slot hty hm ho hbase hline).imp fun σ H Q ⟨μ, ρ, st, rel, p⟩ => tG_bind rel p fun μ1 d st1 x H1 go1 rel1 rv1 p1 => by
    obtain ⟨xs, e1, p1⟩ := post_opt p1
    obtain ⟨a, vs, rfl, k, r1⟩ := itemsL_at rel1.sto rv1 e1
    exact ⟨.inl ⟨rfl, _, SqL.of k⟩, hf W σ μ1 H1 st1 _ [] d [] Q rel1.sto rv1 rfl p1⟩
/-! ### o[i] = v -/
def putK' {κ : Type} [DecidableEq κ] (kvs : List (κ × D)) (k : κ) (v : D) : List (κ × D) := if (kvs.any fun kv => decide (kv.1 = k)) = true then kvs.map (fun kv => if kv.1 = k then (kv.1, v) else kv) else kvs ++ [(k, v)]
def putD (x i v : D) (st : Sto) : Option Sto := match x with
  | .loc n => match st[n]? with
    | some (.lst xs) => match i with
      | .int k => match ixN xs.length k with
        | some j => some (st.set n (.lst (xs.set j v)))
        | none => none
      | _ => none
    | some (.dct kvs) => match dkey i with
      | some k => if kvs.length ≤ lim then some (st.set n (.dct (putK' kvs k v))) else none
      | none => none
    | some (.dcT kvs) => match tkey i with
      | some k => if kvs.length ≤ lim then some (st.set n (.dcT (putK' kvs k v))) else none
      | none => none
    | _ => none
  | _ => none
@[simp] def mPut (mo mi mv : Env → Sto → R D) (ρ : Env) (st : Sto) : O := O.of (mv ρ st) ρ fun v st1 => O.of (mo ρ st1) ρ fun x st2 => O.of (mi ρ st2) ρ fun i st3 => ofOptO (putD x i v st3) fun st4 => .nx ρ st4
theorem any_key {κ : Type} [DecidableEq κ] (k : κ) : ∀ {ps : List (κ × D)} {kvs : List (κ × V)}, kvs.map (·.1) = ps.map (·.1) → (kvs.any fun kv => decide (kv.1 = k)) = (ps.any fun kv => decide (kv.1 = k))
  | [], [], _ => rfl
  | [], _ :: _, e => by cases e
  | _ :: _, [], e => by cases e
  | p :: ps, q :: kvs, e => by
    rw [List.map_cons, List.map_cons] at e
    injection e with e1 e2
    rw [List.any_cons, List.any_cons, e1, any_key k e2]
theorem put_at {κ : Type} [DecidableEq κ] (k : κ) {d : D} {v : V} (h : RV g μ H d v) {ps : List (κ × D)} {kvs : List (κ × V)} (e : kvs.map (·.1) = ps.map (·.1)) (r : RVs g μ H (ps.map (·.2)) (kvs.map (·.2))) :
    (putK kvs k v).map (·.1) = (putK' ps k d).map (·.1) ∧ RVs g μ H ((putK' ps k d).map (·.2)) ((putK kvs k v).map (·.2)) := by
  unfold putK putK'
  rw [any_key k e]
  split
  · have aux : ∀ {ps : List (κ × D)} {kvs : List (κ × V)}, kvs.map (·.1) = ps.map (·.1) → RVs g μ H (ps.map (·.2)) (kvs.map (·.2)) → ((kvs.map fun kv => if kv.1 = k then (kv.1, v) else kv).map (·.1) = (ps.map fun kv => if kv.1 = k then (kv.1, d) else kv).map (·.1) ∧
        RVs g μ H ((ps.map fun kv => if kv.1 = k then (kv.1, d) else kv).map (·.2)) ((kvs.map fun kv => if kv.1 = k then (kv.1, v) else kv).map (·.2))) := fun {ps} => by
      induction ps with
      | nil => intro kvs e r; cases kvs with
        | nil => exact ⟨rfl, rfl⟩
        | cons => cases e
      | cons p ps ih => intro kvs e r; cases kvs with
        | nil => cases e
        | cons q kvs =>
          rw [List.map_cons, List.map_cons] at e
          injection e with e1 e2
          obtain ⟨v', r', e3, h1, h2⟩ := r
          rw [List.map_cons] at e3
          injection e3 with e4 e5
          obtain ⟨i1, i2⟩ := ih e2 (by rw [← e5] at h2; exact h2)
          simp only [List.map_cons]
          rw [e1]
          by_cases hk : p.1 = k
          · rw [if_pos hk, if_pos hk]
            exact ⟨by rw [i1], .cons h i2⟩
          · rw [if_neg hk, if_neg hk]
            exact ⟨by rw [i1, e1], .cons (by rw [e4]; exact h1) i2⟩
    exact aux e r
  · rw [List.map_append, List.map_append, List.map_append, List.map_append, e]
    exact ⟨rfl, r.app (.one h)⟩
theorem putD_l {x i v : D} {st' : Sto} {vx vi vv : V} (S : RS g μ H st) (hx : RV g μ H x vx) (hi : RV g μ H i vi) (hv : RV g μ H v vv) (e : putD x i v st = some st') :
    (∃ p xs k j, vx = .ref p ∧ vi = .int k ∧ H p = some (.lst xs) ∧ ixN xs.length k = some j ∧ RS g μ (upd H p (.lst (xs.set j vv))) st' ∧ Go μ H μ (upd H p (.lst (xs.set j vv))) ∧ isDct st x = false) ∨
    (∃ p H', vx = .ref p ∧ DPut H p vi vv H' ∧ RS g μ H' st' ∧ Go μ H μ H' ∧ isDct st x = true) := by
  cases x with
  | loc n =>
    obtain ⟨a, rfl, q⟩ := hx
    unfold putD at e
    simp only at e
    split at e
    · rename_i xs e2
      obtain ⟨vs, e3, r⟩ := S.at_ n _ a e2 q
      split at e
      · rename_i k
        split at e
        · rename_i j e4
          cases e
          obtain ⟨S2, go⟩ := put_lst S q (r.set hv j)
          exact .inl ⟨a, vs, k, j, rfl, hi, e3, by rw [r.length]; exact e4, S2, go, by simp only [isDct, e2]⟩
        · cases e
      · cases e
    · rename_i kvs e2
      obtain ⟨vs, e3, e5, r⟩ := S.at_ n _ a e2 q
      split at e
      · rename_i k e4
        split at e
        · rename_i hl
          cases e
          obtain ⟨p1, p2⟩ := put_at k hv e5 r
          have hl2 : vs.length ≤ lim := by
            have := congrArg List.length e5
            rw [List.length_map, List.length_map] at this
            omega
          rw [dkey_at hi e4]
          exact .inr ⟨a, _, rfl, DPut.k e3 (lim_lt hl2), S.mut q ⟨_, upd_same, p1, p2.go (Go.mut q)⟩, Go.mut q, by simp only [isDct, e2]⟩
        · cases e
      · cases e
    · rename_i kvs e2
      obtain ⟨vs, e3, e5, r⟩ := S.at_ n _ a e2 q
      split at e
      · rename_i k e4
        split at e
        · rename_i hl
          cases e
          obtain ⟨p1, p2⟩ := put_at k hv e5 r
          have hl2 : vs.length ≤ lim := by
            have := congrArg List.length e5
            rw [List.length_map, List.length_map] at this
            omega
          obtain ⟨b, rfl, nb, eb⟩ := tkey_at hi e4
          exact .inr ⟨a, _, rfl, DPut.t e3 eb (lim_lt hl2), S.mut q ⟨_, upd_same, p1, p2.go (Go.mut q)⟩, Go.mut q, by simp only [isDct, e2]⟩
        · cases e
      · cases e
    · cases e
  | _ => cases e
theorem _root_.L2.PS.or {X : Cx} {e : Stmt} {t t' : TS} (h : PS X e t) (h' : PS X e t') : PS X e (fun D σ H => t D σ H ∨ t' D σ H) := ⟨fun pins s σ H Q I q => q.elim (h.run pins s σ H Q I) (h'.run pins s σ H Q I)⟩
variable {o i v : Expr} {mo mi mv : Env → Sto → R D} {pos pos' : Pos} {Dn : Ends}
theorem putD_dct {x i v : D} {st st' : Sto} (e : putD x i v st = some st') : isDct st x = true ∨ isDct st x = false := by cases isDct st x <;> simp
theorem pms_put (hu : X.A.units + 65 < cLine) (ho : PM g W X o mo) (hi : PM g W X i mi) (hv : PM g W X v mv)
    (hs : swapsWith v (some (.Subscript o i pos')) pos.line X.env = pure false := by rfl)
    (ha : ∀ v, assign (.Subscript o i pos') X.env v = (do
      let ov ← holding [v] (eval o X.env)
      let iv ← holding [v, ov] (eval i X.env)
      standAt pos'
      holding [v, ov, iv] (setItem ov iv v)
      release [v, ov, iv] []) := by intro _; rfl)
    (hs2 : swapsWithSole [.Subscript o i pos'] v pos.line X.env = pure false := by rfl) (hw : swappedStores [.Subscript o i pos'] v X.env = pure none := by rfl)
    (h1 : (assignEach [.Subscript o i pos'] X.env).map (·.2) = [assign (.Subscript o i pos') X.env] := by rfl) : PMS g W X (.Assign [.Subscript o i pos'] v pos) (mPut mo mi mv) :=
  ((ps_dput (by omega) ho hi hv hs).or (ps_asg hv (pg_sub ho hi set_list ha) hs2 hw h1)).imp fun Dn σ H ⟨μ, ρ, st, rel, p⟩ => by
    by_cases hd : ∃ dv st1 dx st2 di st3, mv ρ st = .ok dv st1 ∧ mo ρ st1 = .ok dx st2 ∧ mi ρ st2 = .ok di st3 ∧ isDct st3 dx = true
    · obtain ⟨dv, st1, dx, st2, di, st3, e1, e2, e3, e4⟩ := hd
      refine .inl (tG_OE rel p fun μ1 dv' st1' vv H1 e1' go1 rel1 rv1 p1 => ?_)
      rw [e1] at e1'
      cases e1'
      refine tG_OE rel1 p1 fun μ2 dx' st2' vx H2 e2' go2 rel2 rv2 p2 => ?_
      rw [e2] at e2'
      cases e2'
      refine tG_OE rel2 p2 fun μ3 di' st3' vi H3 e3' go3 rel3 rv3 p3 => ?_
      rw [e3] at e3'
      cases e3'
      cases e5 : putD dx di dv st3 with
      | none => rw [e5] at p3; exact p3.elim
      | some st4 =>
        rw [e5] at p3
        rcases putD_l rel3.sto (rv2.go go3) rv3 ((rv1.go go2).go go3) e5 with ⟨_, _, _, _, _, _, _, _, _, _, z⟩ | ⟨q, H', rfl, dp, S', go', _⟩
        · rw [e4] at z; cases z
        · exact ⟨q, H', rfl, dp, p3 μ3 σ H' go' (rel3.go go' S')⟩
    · refine .inr (tG_OE rel p fun μ1 dv st1 vv H1 e1 go1 rel1 rv1 p1 => tG_OE rel1 p1 fun μ2 dx st2 vx H2 e2 go2 rel2 rv2 p2 => tG_OE rel2 p2 fun μ3 di st3 vi H3 e3 go3 rel3 rv3 p3 => ?_)
      cases e5 : putD dx di dv st3 with
      | none => rw [e5] at p3; exact p3.elim
      | some st4 =>
        rw [e5] at p3
        rcases putD_l rel3.sto (rv2.go go3) rv3 ((rv1.go go2).go go3) e5 with ⟨q, xs, k, j, rfl, rfl, h1, h2, S', go', _⟩ | ⟨_, _, _, _, _, _, z⟩
        · exact ⟨q, xs, k, j, rfl, rfl, h1, h2, p3 μ3 σ _ go' (rel3.go go' S')⟩
        · exact absurd ⟨dv, st1, dx, st2, di, st3, e1, e2, e3, z⟩ hd
/-! ### x op= e -/
@[simp] def mAug (i : Nat) (mo : D → D → Sto → R D) (m : Env → Sto → R D) (ρ : Env) (st : Sto) : O := match ρ[i]? with
  | some (some x) => O.of (m ρ st) ρ fun y st1 => O.of (mo x y st1) ρ fun z st2 => .nx (ρ.set i (some z)) st2
  | _ => .no
def iaddD (a b : D) (st : Sto) : R D := match a with
  | .int i => match b with
    | .int j => .ok (.int (i + j)) st
    | _ => .no
  | .str s => match b with
    | .str t => guardR (s.length + t.length ≤ lim) (.ok (.str (s ++ t)) st)
    | _ => .no
  | a => ofOpt (lstOf st a) fun q => ofOpt (itemsL st b) fun ys => guardR (q.2.length + ys.length ≤ lim) (.ok a (st.set q.1 (.lst (q.2 ++ ys))))
@[simp] theorem iaddD_int {i j : Int} {st : Sto} : iaddD (.int i) (.int j) st = .ok (.int (i + j)) st := rfl
@[simp] theorem iaddD_str {s t : Str} {st : Sto} : iaddD (.str s) (.str t) st = guardR (s.length + t.length ≤ lim) (.ok (.str (s ++ t)) st) := rfl
theorem iaddD_loc {n : Nat} {b : D} {st : Sto} : iaddD (.loc n) b st = ofOpt (lstOf st (.loc n)) fun q => ofOpt (itemsL st b) fun ys => guardR (q.2.length + ys.length ≤ lim) (.ok (.loc n) (st.set q.1 (.lst (q.2 ++ ys)))) := rfl
def IM (g : G) (r : TIp) (mo : D → D → Sto → R D) : Prop := ∀ (W : WX) (ρ : Env) (σ : L2.St) (μ : Mu) (H : Hp) (st : Sto) (x y : V) (dx dy : D) (k : D → Sto → O) (Dn : Ends) (Q : VK), Rel g μ σ H ρ st → RV g μ H dx x → RV g μ H dy y → PostS g W μ H (O.of (mo dx dy st) ρ k) Dn →
  (∀ μ1 d st1 z H1, Go μ H μ1 H1 → Rel g μ1 σ H1 ρ st1 → RV g μ1 H1 d z → PostS g W μ1 H1 (k d st1) Dn → Q z H1) → r x y H Q
def rIadd : TIp := fun x y H Q => rI0 (fun i j => V.int (i + j)) x y H Q ∨ ((∃ i j, x = .str i ∧ y = .str j ∧ i.length + j.length ≤ sizeLine ∧ Q (.str (i ++ j)) H) ∨ rExt2 x y H Q)
theorem ip_addA : PIp X .Add rIadd := orOp iop_add (orOp iop_add_str iop_ext)
theorem im_of {r : TIp} {m : D → D → Sto → R D} (h : ∀ (W : WX) (σ : L2.St) (μ : Mu) (H : Hp) (st : Sto) (x y : V) (dx dy : D) (Q : VK), RS g μ H st → RV g μ H dx x → RV g μ H dy y → PostG g W σ μ H (RV g) (m dx dy st) Q → r x y H Q) : IM g r m := by
  intro W ρ σ μ H st x y dx dy k Dn Q rel rx ry p c
  refine h W σ μ H st x y dx dy Q rel.sto rx ry ?_
  cases e : m dx dy st with
  | ok d st1 =>
    rw [e] at p
    exact fun μ1 z H1 go S rv => c μ1 d st1 z H1 go (rel.go go S) rv (PostS.base go p)
  | er x st1 =>
    rw [e] at p
    exact fun μ1 H1 cls dd go S re => p μ1 σ H1 cls dd go (rel.go go S) re
  | no => rw [e] at p; exact p.elim
theorem im_add : IM g rIadd iaddD := im_of fun W σ μ H st x y dx dy Q S rx ry p => by
  unfold iaddD at p
  split at p
  · split at p
    · exact .inl ⟨_, _, rx, ry, PostG.now p S rfl⟩
    · exact p.elim
  · split at p
    · obtain ⟨hl, q⟩ := post_guard p
      exact .inr (.inl ⟨_, _, rx, ry, lim_le hl, PostG.now q S rfl⟩)
    · exact p.elim
  · obtain ⟨⟨n, xs⟩, e, p1⟩ := post_opt p
    obtain ⟨ys, e2, p1⟩ := post_opt p1
    obtain ⟨hl, p2⟩ := post_guard p1
    obtain ⟨a, ws, rfl, k1, k2, r⟩ := lstOf_at S rx e
    obtain ⟨b, us, rfl, k3, r3⟩ := itemsL_at S ry e2
    obtain ⟨S2, go⟩ := put_lst S k1 (r.app r3)
    exact .inr (.inr ⟨a, b, ws, us, rfl, rfl, k2, k3, by rw [r.length, r3.length]; exact lim_le hl, PostG.done p2 go S2 (rx.go go)⟩)
theorem im_sub : IM g (rI0 fun i j => V.int (i - j)) subD := im_of fun W σ μ H st x y dx dy Q S rx ry p => om_sub W σ μ H st x y dx dy Q S rx ry p
variable {e : Expr} {m : Env → Sto → R D} {op : Operator} {ti : TIp} {f : D → D → Sto → R D}
theorem pms_aug {i : Nat} {x : Str} (hN : X.N.Nodup) (hi : X.N[i]? = some x) (hx : Loc X.env.scope x) (hp : PIp X op ti) (hf : IM g ti f) (he : PM g W X e m) (hff : X.fn x = true ∨ X.env.scope.names.lookup x = some .local := by first | exact .inl rfl | exact .inr rfl | assumption) : PMS g W X (.AugAssign (.Name x pos') op e pos) (mAug i f m) :=
  (ps_aug hN hi hx he hp hff).imp fun Dn σ H ⟨μ, ρ, st, rel, p⟩ => by
    unfold mAug at p
    split at p
    · rename_i d e1
      obtain ⟨v, h1, h2⟩ := rel.slot i d e1
      exact ⟨v, h1, tG_O rel p fun μ1 y st1 w H1 go1 rel1 rv1 p1 => hf W ρ σ μ1 H1 st1 v w d y _ Dn _ rel1 (h2.go go1) rv1 p1 fun μ2 z st2 u H2 go2 rel2 rv2 p2 => p2 μ2 _ H2 Go.refl (rel2.set rv2)⟩
    · exact p.elim
/-! ### dicts written out -/
@[simp] def mDct0 (_ : Env) (st : Sto) : R D := .ok (.dct [] []) st
@[simp] def mDct0M (_ : Env) (st : Sto) : R D := .ok (.loc st.length) (st ++ [.dct []])
@[simp] def mDct0T (_ : Env) (st : Sto) : R D := .ok (.loc st.length) (st ++ [.dcT []])
theorem pm_dct0 : PM g W X (.Dict [] [] pos) mDct0 := pe_dnewK.imp fun σ H Q ⟨μ, ρ, st, rel, p⟩ => fun t ht => PostG.done p (Go.side rel.sto ht) (rel.sto.side ht) ⟨t, [], rfl, ⟨rel.sto.off ht, upd_same⟩, rfl, rfl⟩
theorem pm_dct0M : PM g W X (.Dict [] [] pos) mDct0M := pe_dnewK.imp fun σ H Q ⟨μ, ρ, st, rel, p⟩ => fun t ht => PostG.done p (Go.push ht) (rel.sto.push ht ⟨[], upd_same, rfl, rfl⟩) ⟨t, rfl, at_push rel.sto⟩
theorem pm_dct0T : PM g W X (.Dict [] [] pos) mDct0T := pe_dnewT.imp fun σ H Q ⟨μ, ρ, st, rel, p⟩ => fun t ht => PostG.done p (Go.push ht) (rel.sto.push ht ⟨[], upd_same, rfl, rfl⟩) ⟨t, rfl, at_push rel.sto⟩
/-- a thing that was being made comes into the store -/
theorem hid_push {l p : List Addr} {D : Addr} {c : C} (S : RS g ((⟨l, p⟩ : Mu).hide D) H st) (n : D ∉ p) (k : RC g ((⟨l, p⟩ : Mu).push D) H D c) : RS g ((⟨l, p⟩ : Mu).push D) H (st ++ [c]) := by
  have nl : D ∉ l := (S.pvs D List.mem_cons_self).1
  have len : l.length = st.length := S.len
  refine ⟨?_, ?_, fun i c' a e3 e4 => ?_, fun a ha => ?_, S.old⟩
  · show (l ++ [D]).length = _
    rw [List.length_append, List.length_append, len]
    rfl
  · show (l ++ [D]).Nodup
    rw [List.nodup_append]
    exact ⟨S.nd, by simp, fun a ha b hb e => nl (by rw [List.mem_singleton.mp hb] at e; rw [← e]; exact ha)⟩
  · have e5 : (l ++ [D])[i]? = some a := e4
    rcases Nat.lt_or_ge i l.length with hn | hn
    · rw [List.getElem?_append_left hn] at e5
      rw [List.getElem?_append_left (by rw [← len]; exact hn)] at e3
      exact (S.at_ i c' a e3 e5).map rfl fun _ _ r => r.up
    · rw [List.getElem?_append_right hn] at e5
      rw [List.getElem?_append_right (by rw [← len]; exact hn)] at e3
      have e6 : i - l.length = 0 := by
        rcases Nat.eq_zero_or_pos (i - l.length) with z | z
        · exact z
        · rw [List.getElem?_eq_none_iff.mpr (Nat.succ_le_of_lt z)] at e5
          cases e5
      rw [e6] at e5
      rw [← len, e6] at e3
      cases e5
      cases e3
      exact k
  · obtain ⟨h3, h4⟩ := S.pvs a (List.mem_cons_of_mem _ ha)
    refine ⟨fun z => ?_, h4⟩
    rcases List.mem_append.mp z with z | z
    · exact h3 z
    · exact n (by rw [← List.mem_singleton.mp z]; exact ha)
/-- the pairs of a display -/
def mPairs : List ((Env → Sto → R D) × (Env → Sto → R D)) → Env → Sto → R (List (D × D))
  | [], _, st => .ok [] st
  | (mk, mv) :: r, ρ, st => (mk ρ st).bind fun k st1 => (mv ρ st1).bind fun v st2 => (mPairs r ρ st2).bind fun ps st3 => .ok ((k, v) :: ps) st3
@[simp] theorem mPairs_nil {ρ : Env} {st : Sto} : mPairs [] ρ st = .ok [] st := rfl
@[simp] theorem mPairs_cons {mk mv : Env → Sto → R D} {r : List ((Env → Sto → R D) × (Env → Sto → R D))} {ρ : Env} {st : Sto} : mPairs ((mk, mv) :: r) ρ st = (mk ρ st).bind fun k st1 => (mv ρ st1).bind fun v st2 => (mPairs r ρ st2).bind fun ps st3 => .ok ((k, v) :: ps) st3 := rfl
def keyPs : List (D × D) → Option (List (Key × D))
  | [] => some []
  | (k, v) :: r => match dkey k, keyPs r with
    | some k, some r => some ((k, v) :: r)
    | _, _ => none
def mergeD (kvs more : List (Key × D)) : List (Key × D) := more.foldl (fun acc kv => putK' acc kv.1 kv.2) kvs
@[simp] def mDispM (ps : List ((Env → Sto → R D) × (Env → Sto → R D))) (ρ : Env) (st : Sto) : R D := (mPairs ps ρ st).bind fun qs st1 => ofOpt (keyPs qs) fun kvs => guardR (kvs.length ≤ 15) (.ok (.loc st1.length) (st1 ++ [.dct (mergeD [] kvs)]))
def RPs (g : G) : Mu → Hp → List (D × D) → List (V × V) → Prop := fun μ H ds vs => RVs g μ H (ds.map (·.1)) (vs.map (·.1)) ∧ RVs g μ H (ds.map (·.2)) (vs.map (·.2))
theorem pairs_k : ∀ {ps : List ((Env → Sto → R D) × (Env → Sto → R D))} {σ : L2.St} {μ : Mu} {H : Hp} {ρ : Env} {st : Sto} {Q : List (V × V) → Hp → Prop}, Rel g μ σ H ρ st → PostG g W σ μ H (RPs g) (mPairs ps ρ st) Q → tPairs (ps.map fun q => (tOf g W q.1, tOf g W q.2)) σ H Q
  | [], σ, μ, H, ρ, st, Q, rel, p => PostG.now (b := []) p rel.sto ⟨rfl, rfl⟩
  | (mk, mv) :: ps, σ, μ, H, ρ, st, Q, rel, p => tG_bind rel p fun μ1 k st1 x H1 go1 rel1 rv1 p1 => tG_bind rel1 p1 fun μ2 v st2 y H2 go2 rel2 rv2 p2 => pairs_k rel2 (R.post_mono (R.post_bind p2) (fun qs st3 q μ3 ws H3 go3 S3 rp => PostG.done q go3 S3 ⟨.cons ((rv1.go go2).go go3) rp.1, .cons (rv2.go go3) rp.2⟩) fun _ _ q => q)
theorem keyPs_at : ∀ {qs : List (D × D)} {ws : List (V × V)} {kvs : List (Key × D)}, RPs g μ H qs ws → keyPs qs = some kvs → ∃ vs : List (Key × V), ws = vs.map (fun kv => (kV kv.1, kv.2)) ∧ vs.map (·.1) = kvs.map (·.1) ∧ RVs g μ H (kvs.map (·.2)) (vs.map (·.2))
  | [], ws, _, h, e => by
    cases e
    have h1 : ws.map (·.1) = [] := h.1
    rw [List.map_eq_nil_iff] at h1
    exact ⟨[], h1, rfl, rfl⟩
  | (k, v) :: qs, ws, _, h, e => by
    unfold keyPs at e
    split at e
    · rename_i k' r' e1 e2
      cases e
      obtain ⟨h1, h2⟩ := h
      obtain ⟨x, r, e3, h3, h4⟩ := h1
      obtain ⟨y, r2, e5, h5, h6⟩ := h2
      cases ws with
      | nil => cases e3
      | cons w ws =>
        rw [List.map_cons] at e3 e5
        injection e3 with a1 a2
        injection e5 with a3 a4
        obtain ⟨vs, b1, b2, b3⟩ := keyPs_at (qs := qs) (ws := ws) ⟨by rw [a2]; exact h4, by rw [a4]; exact h6⟩ e2
        refine ⟨(k', w.2) :: vs, ?_, by rw [List.map_cons, List.map_cons, b2], .cons (by rw [a3]; exact h5) b3⟩
        rw [List.map_cons, ← b1]
        congr 1
        exact Prod.ext (by rw [a1]; exact dkey_at h3 e1) rfl
    · cases e
theorem merge_at {more : List (Key × D)} {vs : List (Key × V)} (e : vs.map (·.1) = more.map (·.1)) (r : RVs g μ H (more.map (·.2)) (vs.map (·.2))) : ∀ {ps : List (Key × D)} {kvs : List (Key × V)}, kvs.map (·.1) = ps.map (·.1) → RVs g μ H (ps.map (·.2)) (kvs.map (·.2)) →
    (mergeK kvs vs).map (·.1) = (mergeD ps more).map (·.1) ∧ RVs g μ H ((mergeD ps more).map (·.2)) ((mergeK kvs vs).map (·.2)) := by
  induction more generalizing vs with
  | nil =>
    intro ps kvs e1 r1
    cases vs with
    | nil => exact ⟨e1, r1⟩
    | cons => cases e
  | cons q more ih =>
    intro ps kvs e1 r1
    cases vs with
    | nil => cases e
    | cons w vs =>
      rw [List.map_cons, List.map_cons] at e
      injection e with e2 e3
      obtain ⟨v', r', e4, h1, h2⟩ := r
      rw [List.map_cons] at e4
      injection e4 with e5 e6
      obtain ⟨p1, p2⟩ := put_at q.1 (d := q.2) (v := w.2) (by rw [e5]; exact h1) e1 r1
      rw [← e2] at p1 p2
      have := ih (vs := vs) e3 (by rw [e6]; exact h2) (by rw [p1, e2]) (by rw [e2] at p2; rw [← e2] at p2; exact (by rw [e2] at p2 ⊢; exact p2))
      exact this
theorem pm_dispM {keys : List (Option Expr)} {values : List Expr} {ps : List ((Env → Sto → R D) × (Env → Sto → R D))} (h : PPs X pos keys values (ps.map fun q => (tOf g W q.1, tOf g W q.2))) (hall : keys.all (·.isSome) = true) (hl : keys.length = values.length) (h0 : keys ≠ []) (h15 : keys.length ≤ 15) :
    PM g W X (.Dict keys values pos) (mDispM ps) := (pe_disp h hall hl h0 h15).imp fun σ H Q ⟨μ, ρ, st, rel, p⟩ => fun t ht => by
  have S1 : RS g (μ.hide t) (upd H t (.dK [])) st := rel.sto.hide ht
  refine pairs_k (W := W) (μ := μ.hide t) (ρ := ρ) (st := st) (rel.tr (Tr.refl.hide ht) S1) (R.post_mono (R.post_bind p) (fun qs st1 q μ2 ws H2 go2 S2 rp => ?_) fun x st1 q μ2 H2 cls dd go2 S2 re => ?_)
  · have hp : t ∈ μ2.pv := by rw [go2.pv]; exact List.mem_cons_self
    obtain ⟨kvs, e1, q1⟩ := post_opt (g := g) (W := W) (σ := σ) (μ := μ) (H := H) (Rp := RV g) (Q := Q) q
    obtain ⟨hl15, q2⟩ := post_guard q1
    obtain ⟨vs, b1, b2, b3⟩ := keyPs_at rp e1
    refine ⟨go2.keep t _ (S1.pvs t List.mem_cons_self).1 upd_same, vs, b1, ?_, ?_⟩
    · have := congrArg List.length b2
      rw [List.length_map, List.length_map] at this
      omega
    · obtain ⟨m1, m2⟩ := merge_at b2 b3 (ps := []) (kvs := []) rfl rfl
      have em : μ2 = (⟨μ2.ls, μ.pv⟩ : Mu).hide t := by
        have := go2.pv
        cases μ2 with
        | mk l p =>
          have e : p = t :: μ.pv := this
          rw [e]
          rfl
      have S3 : RS g μ2 (upd H2 t (.dK (mergeK [] vs))) st1 := S2.hid hp
      have m3 := RVs.hid (o := .dK (mergeK [] vs)) hp m2
      rw [em] at S3 m3
      have S4 := hid_push (c := .dct (mergeD [] kvs)) S3 (fun z => by
        obtain ⟨_, o, e⟩ := rel.sto.pvs t z
        rw [ht] at e
        cases e) ⟨_, upd_same, m1, m3.up⟩
      refine PostG.done q2 (μ1 := (⟨μ2.ls, μ.pv⟩ : Mu).push t) ?_ S4 ⟨t, rfl, ?_⟩
      · refine ⟨?_, rfl, fun a ha => ?_, fun a o n e => ?_⟩
        · obtain ⟨ν, e⟩ := go2.ext
          exact ⟨ν ++ [t], by show μ2.ls ++ [t] = _; rw [e]; show (μ.ls ++ ν) ++ [t] = _; rw [List.append_assoc]⟩
        · rcases List.mem_append.mp ha with z | z
          · rcases go2.new a z with z | z
            · exact .inl z
            · exact .inr (none_upd z)
          · rw [List.mem_singleton.mp z]; exact .inr ht
        · rw [upd_ne (ne_of_none e ht)]
          exact go2.keep a o n (by rw [upd_ne (ne_of_none e ht)]; exact e)
      · show (μ2.ls ++ [t])[st1.length]? = _
        rw [← show μ2.ls.length = st1.length from S2.len, List.getElem?_append_right (Nat.le_refl _), Nat.sub_self]
        rfl
  · have em : μ2 = (⟨μ2.ls, μ.pv⟩ : Mu).hide t := by
      have := go2.pv
      cases μ2 with
      | mk l p =>
        have e : p = t :: μ.pv := this
        rw [e]
        rfl
    have S3 := S2
    have r3 := re
    rw [em] at S3 r3
    refine q (⟨μ2.ls, μ.pv⟩ : Mu) H2 cls dd ⟨go2.ext, rfl, fun a ha => ?_, fun a o n e => go2.keep a o n (by rw [upd_ne (ne_of_none e ht)]; exact e)⟩ S3.show' ?_
    · rcases go2.new a ha with z | z
      · exact .inl z
      · exact .inr (none_upd z)
    · obtain ⟨C, h1, h2, h3⟩ := r3
      exact ⟨C, h1, h2, h3.imp_right fun ⟨f, d, a, v, e1, e2, e3, e4⟩ => ⟨f, d, a, v, e1, e2, e3, e4.show'⟩⟩
end
end Pl

set_option maxHeartbeats 4000000
/-! set(xs) of a list of ints -/
namespace Hn
open PySem PySem.Spec PyProof.Rows L2 EF
open PySem.W (Frag keepIn)
/-- an empty set, as it is made -/
abbrev bare (w : World) : Obj := { cls := .type "set", dict := none, data := .set #[] 0 (.fresh 0 0 (!w.params.followText "set-order")) }
section
variable {P : Program} {w : World} {A : Around}
theorem set_made {E : Value → Shared → Prop} {s : Shared} {x : Value} {R : Shared → Prop} {Q : Value → Shared → Prop}
    (run : codeAny (model P w) A.in1 (.call (.builtin "set.__init__") ⟨[.ref s.heap.objs.size, x], []⟩) (wants (fun r z => r = .none ∧ R z) E) { s with heap := s.heap.push (bare w) })
    (fin : ∀ z, R z → Q (.ref s.heap.objs.size) z) : wpAny (model P w) A (call (.type "set") [x]) Q E s := by
  have k := F.called_set
  obtain ⟨_, _, lin⟩ := k.mro
  have parts := And.intro k.made (And.intro k.sub (And.intro k.notType (And.intro k.canCreate (F.typeCall_set_1 x))))
  obtain ⟨p1, p2, p3, p4, p5⟩ := parts
  refine wpAny_call (codeAny_of_tree (wpAny_pure ⟨Code.quiet_builtin _ (by decide +kernel), codeAny_builtin F.entry_type_call ?_⟩))
  rw [Around.under_plain (weight_type_call_type "set" [x] []) rfl]
  repeat (any_goals first | wp_step | assumption)
  refine codeAny_mono (code_set_led1 x (E := E) (Q₁ := fun v z => v = .ref s.heap.objs.size ∧ z = { s with heap := s.heap.push (bare w) }) (And.intro rfl rfl)) ?_
  rintro (e | fl) z hz
  · exact hz
  rcases fl with _ | v | _ | _ <;> try exact hz.elim
  obtain ⟨ev, ez⟩ := hz
  rw [ev, ez]
  have at' : (s.heap.push (bare w)).get? s.heap.objs.size = some (bare w) := Heap.get?_push_size _ rfl
  have ty : Shared.TypeIs { s with heap := s.heap.push (bare w) } (.ref s.heap.objs.size) "set" := ⟨_, at', rfl⟩
  have i1 := k.init.lookup
  have i2 := k.init.bind (.ref s.heap.objs.size)
  repeat (any_goals first | wp_step | assumption)
  refine codeAny_mono run ?_
  rintro (e | fl) z2 hz2
  · exact hz2
  rcases fl with _ | v2 | _ | _ <;> try exact hz2.elim
  rw [hz2.1]
  repeat (any_goals first | wp_step | assumption)
  exact fin z2 hz2.2
/-- the walk through the list, into the bare set -/
theorem set_filled {E : Value → Shared → Prop} {s : Shared} {l : Addr} {items : Array Value} (ns : List Int) (hh : A.handled = none) (hl : s.heap.IsList l items) (hi : IntsAre items.toList ns) (hb : ns.length + 1 < scanBound) :
    codeAny (model P w) A (.call (.builtin "set.__init__") ⟨[.ref s.heap.objs.size, .ref l], []⟩) (wants (fun r z => r = .none ∧ ∃ h' tk c, z = { s with heap := h', toks := tk } ∧ SetR w h' s.heap.objs.size (fun j => decide (j ∈ ns)) c ∧ c ≤ ns.length ∧ ∀ b o, s.heap.get? b = some o → h'.get? b = some o) E) { s with heap := s.heap.push (bare w) } := by
  generalize eS : s.heap.objs.size = S at *
  generalize eh : s.heap.push (bare w) = h1 at *
  have atS : h1.get? S = some (bare w) := by
    rw [← eh, ← eS]
    exact Heap.get?_push_size _ rfl
  have keep : ∀ b o, s.heap.get? b = some o → h1.get? b = some o := fun b o e => by
    rw [← eh]
    exact Heap.get?_push_of_some _ e
  have z1 : h1.objs.size = S + 1 := by
    rw [← eh, ← eS]
    exact Heap.size_push ..
  have lt : ∀ b o, s.heap.get? b = some o → b < S := fun b o e => by
    rw [← eS]
    exact Heap.lt_size e
  have ty : Shared.TypeIs { s with heap := h1 } (.ref S) "set" := ⟨_, atS, rfl⟩
  have lenE : items.size = ns.length := by
    rw [← hi.length, Array.length_toList]
  obtain ⟨⟨_, ld, _, lsl⟩, lget, rfl, n, rfl⟩ := hl
  have lS := lt l _ lget
  have l1 := keep l _ lget
  have il : h1.IsList l items := ⟨_, l1, rfl, n, rfl⟩
  have s1 := F.sub_list_set
  have s2 := F.sub_list_frozenset
  have s3 : (Value.type "list" == Value.type "dict") = false := by decide
  refine codeAny_call_builtin F.called_set.init.plain F.entry_set_init (check_set_init_1 ty ?_)
  unfold Builtin.«set.__init__» noKeywords Builtin.Frozenset.updateFrom
  generalize eI : pyIter = iter
  wp_walk
  rw [← eI]
  refine wpAny_pyIter_list il (wpAny_bind (wpAny_runValue ?_))
  have h3 : A.in1.in1.handled = none := by simp [hh]
  have vals : ∀ (i : Nat) (v : Value), items[i]? = some v → ∃ k t, ns[i]? = some k ∧ v = .int k t := fun i v hv => by
    have hk : i < ns.length := lenE ▸ (Array.getElem?_eq_some_iff.mp hv).1
    obtain ⟨t, e⟩ := hi.int_at i v (Array.getElem?_toList.trans hv)
    have g := List.getElem?_eq_getElem hk
    refine ⟨_, t, g, e.trans ?_⟩
    rw [List.getD_eq_getElem?_getD, g]
    rfl
  have nS : S ≠ h1.objs.size := fun e => by
    rw [z1] at e
    exact Nat.ne_of_lt (Nat.lt_succ_self _) e
  have nl : l ≠ h1.objs.size := fun e => by
    rw [z1] at e
    exact Nat.ne_of_lt (Nat.lt_succ_of_lt lS) e
  have no : S ∉ [h1.objs.size, l] := fun m => by
    rcases List.mem_cons.mp m with e | m2
    · exact nS e
    · exact Nat.ne_of_gt lS (List.mem_singleton.mp m2)
  refine set_update_ints (Walks.list h3 h1.objs.size l nl items).toS S no ns lenE hb vals items.size 0 _ (Nat.sub_zero _) (Nat.zero_le _) ?walk ?new ?fin
  case walk => exact ⟨⟨_, Heap.get?_push_size _ rfl, rfl, rfl⟩, il.push _⟩
  case new => exact ⟨0, Nat.le_refl 0, setR_new_at (Heap.get?_push_of_some _ atS)⟩
  rintro ⟨h', _, _, tk, _⟩ c mv lc sr
  obtain ⟨g1, g2, g3⟩ := And.intro mv.gens (And.intro mv.drawn mv.os)
  dsimp only at g1 g2 g3
  rw [g1, g2, g3]
  refine wpAny_pure (wpAny_pure ⟨rfl, h', tk, c, rfl, sr, lenE ▸ lc, fun b o e => ?_⟩)
  have lb := lt b o e
  refine mv.heap b o (fun m => ?_) (Heap.get?_push_of_some _ (keep b o e))
  rcases List.mem_cons.mp m with e2 | m2
  · exact Nat.ne_of_lt lb e2
  · rw [List.mem_singleton.mp m2, z1] at lb
    exact Nat.lt_irrefl _ (Nat.lt_of_succ_lt lb)
end
def rSetLI (K : Frag) (w : World) : List V → Hp → VK → Prop := fun vs H Q => ∃ (l : Addr) (ns : List Int), vs = [.ref l] ∧ (SqL K H l (ns.map V.int) ∨ SqT K H l (ns.map V.int)) ∧ ns.length ≤ 1000 ∧
  ∀ (a : Addr) (c : Nat), H a = none → c ≤ ns.length → Q (.ref a) (upd H a (SetO w a (fun j => decide (j ∈ ns)) c))
theorem cr_setLI {X : Cx} {K : Frag} {w : World} (e1 : X.K = K) (e2 : X.w = w) (hc : X.calm = true) : CallR X (.type "set") (rSetLI K w) := by
  subst e1 e2
  rintro pins s σ H vs us Q I r ⟨l, ns, rfl, hs, hn, q⟩
  rw [Vals.ref1 r]
  have nw : H s.heap.objs.size = none := HOk.fresh I.hok (Nat.le_refl _)
  have hb : ns.length + 1 < scanBound := by rw [show scanBound = 4096 from rfl]; omega
  have hd := I.ok.hd hc
  have fin : ∀ (h' : Heap) (tk c : Nat), SetR X.w h' s.heap.objs.size (fun j => decide (j ∈ ns)) c → c ≤ ns.length → (∀ b o, s.heap.get? b = some o → h'.get? b = some o) → EP X pins σ Q (.ref s.heap.objs.size) { s with heap := h', toks := tk } := fun h' tk c R hcn k =>
    ⟨.ref s.heap.objs.size, upd H s.heap.objs.size (SetO X.w s.heap.objs.size (fun j => decide (j ∈ ns)) c), I.laid (t' := tk) k (Nat.le_refl _) (setO_new R), rfl, q _ c nw hcn⟩
  rcases hs with hs | hs
  · obtain ⟨its, rv, hl, _⟩ := I.list hs
    refine set_made (set_filled (items := its.toArray) ns (by simp [hd]) hl.isList (ints_of_vals rv) hb) ?_
    rintro z ⟨h', tk, c, rfl, R, hcn, k⟩
    exact fin h' tk c R hcn k
  · obtain ⟨its, rv, pt, _⟩ := I.tuple hs
    exact call_set_tupI ns hd (show s.heap.IsTuple l its.toArray from pt) (ints_of_vals rv) hb fin
end Hn

set_option maxHeartbeats 4000000
/-! isinstance, is of flags, t[::-1], min and max of a list, sorted(set(..)), sorted({..}), a, b = x, y -/
namespace Pl
open PySem PySem.Spec PyProof.Rows L2 Hn
open PySem.W (Frag keepIn)
/-! ### isinstance -/
def tyD (st : Sto) : D → Option String
  | .non => some "NoneType"
  | .bl _ => some "bool"
  | .int _ => some "int"
  | .str _ => some "str"
  | .tup _ => some "tuple"
  | .lst _ => some "list"
  | .dct _ _ => some "dict"
  | .loc n => match st[n]? with
    | some (.lst _) => some "list"
    | some (.dct _) => some "dict"
    | some (.dcT _) => some "dict"
    | _ => none
  | _ => none
def kindB (a b : String) : Option Bool := if a = b then some true else if (a = "bool" ∧ b = "int") then some true else if a ∈ ["NoneType", "bool", "int", "str", "tuple", "list", "dict"] ∧ b ∈ ["bool", "int", "str", "tuple", "list", "dict"] then some false else none
def isiD (n : String) (d : D) (st : Sto) : R D := ofOpt (tyD st d) fun t => ofOpt (kindB t n) fun b => .ok (.bl b) st
def isi2D (n1 n2 : String) (d : D) (st : Sto) : R D := ofOpt (tyD st d) fun t => ofOpt (kindB t n1) fun b => ofOpt (kindB t n2) fun c => .ok (.bl (b || c)) st
theorem kind_ok : ∀ a ∈ ["NoneType", "bool", "int", "str", "tuple", "list", "dict"], ∀ b ∈ ["bool", "int", "str", "tuple", "list", "dict"], kitB a b = kindB a b := by decide +kernel
section
variable {g : G} {W : WX} {X : Cx} {a b c : Expr} {ma mb : Env → Sto → R D} {pos p : Pos} {σ : L2.St} {μ μ1 : Mu} {H H1 : Hp} {ρ : Env} {st : Sto}
theorem tyD_at {d : D} {x : V} {t : String} (S : RS g μ H st) (h : RV g μ H d x) (e : tyD st d = some t) : TyX g.K H x (.type t) ∧ t ∈ ["NoneType", "bool", "int", "str", "tuple", "list", "dict"] := by
  cases d with
  | non => cases e; rw [show x = V.non from h]; exact ⟨.base .non, by decide⟩
  | bl b => cases e; rw [show x = V.bl b from h]; exact ⟨.base (.bl b), by decide⟩
  | int i => cases e; rw [show x = V.int i from h]; exact ⟨.base (.int i), by decide⟩
  | str s => cases e; rw [show x = V.str s from h]; exact ⟨.base (.str s), by decide⟩
  | tup xs => obtain ⟨q, vs, rfl, k, r⟩ := h; cases e; exact ⟨.base (.tup k.2), by decide⟩
  | lst xs => obtain ⟨q, vs, rfl, k, r⟩ := h; cases e; exact ⟨.base (.lst k.2), by decide⟩
  | rol xs => cases e
  | dct ks xs => obtain ⟨q, kvs, rfl, k, _⟩ := h; cases e; exact ⟨.base (.dK k.2), by decide⟩
  | loc n =>
    obtain ⟨q, rfl, k⟩ := h
    unfold tyD at e
    simp only at e
    split at e
    · rename_i xs e2; cases e
      obtain ⟨vs, e4, r⟩ := S.at_ n _ q e2 k
      exact ⟨.base (.lst e4), by decide⟩
    · rename_i xs e2; cases e
      obtain ⟨vs, e4, r⟩ := S.at_ n _ q e2 k
      exact ⟨.base (.dK e4), by decide⟩
    · rename_i xs e2; cases e
      obtain ⟨vs, e4, r⟩ := S.at_ n _ q e2 k
      exact ⟨.base (.dT e4), by decide⟩
    · cases e
  | nam _ => cases e
  | err _ _ => cases e
theorem kind_mem {t n : String} {b : Bool} (ht : t ∈ ["NoneType", "bool", "int", "str", "tuple", "list", "dict"]) (hn : n ∈ ["bool", "int", "str", "tuple", "list", "dict"]) (e : kindB t n = some b) : kitB t n = some b := by rw [kind_ok t ht n hn, e]
theorem pm_isi {n : String} (hK : X.K = g.K) (hg : Gl X "isinstance") (hm : X.mg "isinstance" = none) (hv : bootBuiltins "isinstance" = some (.builtin "isinstance")) (ha : PM g W X a ma) (hb : PE X b (tC (.ty n))) (hn : n ∈ ["bool", "int", "str", "tuple", "list", "dict"] := by decide)
    (he : starEach [a, b] X.env = (false, eval a X.env) :: starEach [b] X.env := by rfl) (hpl : (backTo pos (starEach [b] X.env)).any (·.1) = false := by rfl) (h1 : starEach [b] X.env = (false, eval b X.env) :: starEach [] X.env := by rfl) : PM g W X (.Call (.Name "isinstance" p) [a, b] [] pos) (mUn (isiD n) ma) :=
  (pe_callB (isiK (K := g.K) hK) hg hm hv (pa_cons ha (pa_cons hb pa_nil h1) he) (by decide) (by decide) he hpl).imp fun σ H Q ⟨μ, ρ, st, rel, p⟩ => tG_bind rel p fun μ1 d st1 x H1 go1 rel1 rv1 p1 => by
    obtain ⟨t, e1, p1⟩ := post_opt p1
    obtain ⟨k, e2, p1⟩ := post_opt p1
    obtain ⟨ty, ht⟩ := tyD_at rel1.sto rv1 e1
    exact ⟨x, .ty n, _, _, k, rfl, .ty n, ty, kit_ty (kind_mem ht hn e2), PostG.now p1 rel1.sto rfl⟩
theorem pm_isi2 {n1 n2 : String} (hK : X.K = g.K) (hg : Gl X "isinstance") (hm : X.mg "isinstance" = none) (hv : bootBuiltins "isinstance" = some (.builtin "isinstance")) {kt : Nat} {pt : Pos} (ha : PM g W X a ma) (hb : PE X b (tC (.ty n1))) (hc : PE X c (tC (.ty n2))) (hn1 : n1 ∈ ["bool", "int", "str", "tuple", "list", "dict"] := by decide) (hn2 : n2 ∈ ["bool", "int", "str", "tuple", "list", "dict"] := by decide)
    (he : starEach [a, .Tuple [b, c] kt pt] X.env = (false, eval a X.env) :: starEach [.Tuple [b, c] kt pt] X.env := by rfl) (hpl : (backTo pos (starEach [.Tuple [b, c] kt pt] X.env)).any (·.1) = false := by rfl) (h1 : starEach [.Tuple [b, c] kt pt] X.env = (false, eval (.Tuple [b, c] kt pt) X.env) :: starEach [] X.env := by rfl)
    (h2 : starEach [b, c] X.env = (false, eval b X.env) :: starEach [c] X.env := by rfl) (h3 : starEach [c] X.env = (false, eval c X.env) :: starEach [] X.env := by rfl) : PM g W X (.Call (.Name "isinstance" p) [a, .Tuple [b, c] kt pt] [] pos) (mUn (isi2D n1 n2) ma) :=
  (pe_callB (isiTK (K := g.K) hK) hg hm hv (pa_cons ha (pa_cons (pe_tup (pa_cons hb (pa_cons hc pa_nil h3) h2)) pa_nil h1) he) (by decide) (by decide) he hpl).imp fun σ H Q ⟨μ, ρ, st, rel, p⟩ => tG_bind rel p fun μ1 d st1 x H1 go1 rel1 rv1 p1 => by
    obtain ⟨t, e1, p1⟩ := post_opt p1
    obtain ⟨k, e2, p1⟩ := post_opt p1
    obtain ⟨k2, e3, p1⟩ := post_opt p1
    refine ⟨by show 2 ≤ sizeLine; rw [sizeLine_eq]; decide, fun q hq => ?_⟩
    have S2 := rel1.sto.side (o := .tup [V.ty n1, V.ty n2]) hq
    have go2 := Go.side (o := .tup [V.ty n1, V.ty n2]) rel1.sto hq
    obtain ⟨ty, ht⟩ := tyD_at S2 (rv1.go go2) e1
    refine ⟨x, q, [.ty n1, .ty n2], _, [.type n1, .type n2], k || k2, rfl, upd_same, .cons (.ty _) (.cons (.ty _) .nil), ty, ?_, PostG.done p1 go2 S2 rfl⟩
    refine kitAny_cons (kit_ty (kind_mem ht hn1 e2)) (fun e => ?_) (fun e => by rw [e]; rfl)
    rw [e]
    refine kitAny_cons (kit_ty (kind_mem ht hn2 e3)) (fun e => ?_) (fun e => by rw [e]; rfl)
    rw [e]
    exact kitAny_nil
end
/-! ### is True -/
@[simp] def isBD (neg : Bool) (a b : D) (st : Sto) : R D := match a, b with
  | .bl x, .bl y => .ok (.bl (decide (x = y) ^^ neg)) st
  | _, _ => .no
section
variable {g : G} {W : WX} {X : Cx} {a b c : Expr} {ma mb : Env → Sto → R D} {pos p : Pos} {σ : L2.St} {μ μ1 : Mu} {H H1 : Hp} {ρ : Env} {st : Sto}
theorem om_isB : OM g rIsB (isBD false) := by
  intro W σ μ H st x y dx dy Q S rx ry p
  unfold isBD at p
  split at p
  · exact ⟨_, _, rx, ry, PostG.now p S (by rw [Bool.xor_false]; rfl)⟩
  · exact p.elim
theorem om_notB : OM g rNotB (isBD true) := by
  intro W σ μ H st x y dx dy Q S rx ry p
  unfold isBD at p
  split at p
  · exact ⟨_, _, rx, ry, PostG.now p S (by rw [Bool.xor_true]; rfl)⟩
  · exact p.elim
/-! ### t[::-1] -/
@[simp] def revD (a : D) (st : Sto) : R D := match a with
  | .tup xs => .ok (.tup xs.reverse) st
  | _ => .no
theorem rev_at {ds : List D} {vs : List V} (r : RVs g μ H ds vs) : RVs g μ H ds.reverse vs.reverse :=
  .of (by rw [List.length_reverse, List.length_reverse, r.length]) fun i d x e1 e2 => by
    have hl := r.length
    have hi : i < ds.length := by
      have := (List.getElem?_eq_some_iff.mp e1).1
      rwa [List.length_reverse] at this
    rw [List.getElem?_reverse hi] at e1
    rw [List.getElem?_reverse (by omega), hl] at e2
    obtain ⟨d', e', r⟩ := r.get e2
    rw [e1] at e'
    cases e'
    exact r
theorem pm_rev {k : Nat} {p1 p2 p3 : Pos} (hK : X.K = g.K) (ha : PM g W X a ma) : PM g W X (.Subscript a (.Slice none none (some (.UnaryOp .USub (.Constant (.int 1) k p1) p2)) p3) pos) (mUn revD ma) :=
  (pe_revT ha).imp fun σ H Q ⟨μ, ρ, st, rel, p⟩ => tG_bind rel p fun μ1 d st1 x H1 go1 rel1 rv1 p1 => by
    unfold revD at p1
    split at p1
    · obtain ⟨q, vs, rfl, k, r⟩ := rv1
      exact ⟨q, vs, rfl, SqT.of k.2, fun t ht => new_tup rel1.sto (rev_at r) p1 ht⟩
    · exact p1.elim
/-! ### min, max of a list -/
def minZ : List Int → Int
  | [] => 0
  | [x] => x
  | x :: y :: r => min x (minZ (y :: r))
def maxZ : List Int → Int
  | [] => 0
  | [x] => x
  | x :: y :: r => max x (maxZ (y :: r))
theorem minZ_spec : ∀ {ns : List Int}, ns ≠ [] → minZ ns ∈ ns ∧ ∀ y ∈ ns, minZ ns ≤ y
  | [], h => absurd rfl h
  | [x], _ => ⟨by simp [minZ], fun y hy => by simp at hy; subst hy; simp [minZ]⟩
  | x :: y :: r, _ => by
    obtain ⟨h1, h2⟩ := minZ_spec (ns := y :: r) (by simp)
    unfold minZ
    refine ⟨?_, fun z hz => ?_⟩
    · rcases Int.le_total x (minZ (y :: r)) with h | h
      · rw [Int.min_eq_left h]; exact List.mem_cons_self
      · rw [Int.min_eq_right h]; exact List.mem_cons_of_mem _ h1
    · rcases List.mem_cons.mp hz with rfl | hz
      · exact Int.min_le_left _ _
      · exact Int.le_trans (Int.min_le_right _ _) (h2 z hz)
theorem maxZ_spec : ∀ {ns : List Int}, ns ≠ [] → maxZ ns ∈ ns ∧ ∀ y ∈ ns, y ≤ maxZ ns
  | [], h => absurd rfl h
  | [x], _ => ⟨by simp [maxZ], fun y hy => by simp at hy; subst hy; simp [maxZ]⟩
  | x :: y :: r, _ => by
    obtain ⟨h1, h2⟩ := maxZ_spec (ns := y :: r) (by simp)
    unfold maxZ
    refine ⟨?_, fun z hz => ?_⟩
    · rcases Int.le_total x (maxZ (y :: r)) with h | h
      · rw [Int.max_eq_right h]; exact List.mem_cons_of_mem _ h1
      · rw [Int.max_eq_left h]; exact List.mem_cons_self
    · rcases List.mem_cons.mp hz with rfl | hz
      · exact Int.le_max_left _ _
      · exact Int.le_trans (h2 z hz) (Int.le_max_right _ _)
def minLD (ds : List D) (st : Sto) : R D := match ds with
  | [d] => ofOpt (itemsR st d) fun xs => ofOpt (intsD xs) fun ns => guardR (0 < ns.length) (.ok (.int (minZ ns)) st)
  | _ => .no
def maxLD (ds : List D) (st : Sto) : R D := match ds with
  | [d] => ofOpt (itemsR st d) fun xs => ofOpt (intsD xs) fun ns => guardR (0 < ns.length) (.ok (.int (maxZ ns)) st)
  | _ => .no
@[simp] theorem minLD_lst {xs : List D} {st : Sto} : minLD [.lst xs] st = ofOpt (intsD xs) fun ns => guardR (0 < ns.length) (.ok (.int (minZ ns)) st) := rfl
@[simp] theorem maxLD_lst {xs : List D} {st : Sto} : maxLD [.lst xs] st = ofOpt (intsD xs) fun ns => guardR (0 < ns.length) (.ok (.int (maxZ ns)) st) := rfl
theorem call_minA (hK : X.K = g.K) (hc : X.calm = true) : CallR X (.builtin "min") (rMin g.K) := by rw [← hK]; exact cr_min hc
theorem call_maxA (hK : X.K = g.K) (hc : X.calm = true) : CallR X (.builtin "max") (rMax g.K) := by rw [← hK]; exact cr_max hc
theorem cm_min : CM g (rMin g.K) minLD := by
  intro W σ μ H st vs ds Q S rv p
  unfold minLD at p
  split at p
  · obtain ⟨v, rfl, h⟩ := one_at rv
    obtain ⟨xs, e1, p2⟩ := post_opt p
    obtain ⟨ns, e2, p3⟩ := post_opt p2
    obtain ⟨hl, p4⟩ := post_guard p3
    obtain ⟨a, vs, rfl, k, r⟩ := itemsR_at S h e1
    obtain rfl := ints_eq e2
    obtain rfl := r.ints
    refine ⟨a, ns, rfl, k, hl, fun m h1 h2 => ?_⟩
    obtain ⟨g1, g2⟩ := minZ_spec (ns := ns) (fun e => by rw [e] at hl; cases hl)
    rw [Int.le_antisymm (h2 _ g1) (g2 m h1)]
    exact PostG.now p4 S rfl
  · exact p.elim
theorem cm_max : CM g (rMax g.K) maxLD := by
  intro W σ μ H st vs ds Q S rv p
  unfold maxLD at p
  split at p
  · obtain ⟨v, rfl, h⟩ := one_at rv
    obtain ⟨xs, e1, p2⟩ := post_opt p
    obtain ⟨ns, e2, p3⟩ := post_opt p2
    obtain ⟨hl, p4⟩ := post_guard p3
    obtain ⟨a, vs, rfl, k, r⟩ := itemsR_at S h e1
    obtain rfl := ints_eq e2
    obtain rfl := r.ints
    refine ⟨a, ns, rfl, k, hl, fun m h1 h2 => ?_⟩
    obtain ⟨g1, g2⟩ := maxZ_spec (ns := ns) (fun e => by rw [e] at hl; cases hl)
    rw [Int.le_antisymm (g2 m h1) (h2 _ g1)]
    exact PostG.now p4 S rfl
  · exact p.elim
/-! ### a, b = x, y -/
@[simp] def mPar (i j : Nat) (ms : Env → Sto → R (List D)) (ρ : Env) (st : Sto) : O := O.of (ms ρ st) ρ fun ds st1 => match ds with
  | [x, y] => .nx ((ρ.set i (some x)).set j (some y)) st1
  | _ => .no
theorem pms_par {i j : Nat} {x y : Str} {ms : Env → Sto → R (List D)} {px py pt : Pos} {kt k2 pt2} (hc : X.calm = true) (hN : X.N.Nodup) (hi : X.N[i]? = some x) (hj : X.N[j]? = some y) (hij : i ≠ j)
    (hx : X.env.scope.names.lookup x = some .local) (hy : X.env.scope.names.lookup y = some .local) (ha : PMA g W X [a, b] ms)
    (hw : swappedStores [.Tuple [.Name x px, .Name y py] kt pt] (.Tuple [a, b] k2 pt2) X.env = pure (some [x, y]))
    (hs : swapsWithSole [.Tuple [.Name x px, .Name y py] kt pt] (.Tuple [a, b] k2 pt2) pos.line X.env = pure false := by rfl) :
    PMS g W X (.Assign [.Tuple [.Name x px, .Name y py] kt pt] (.Tuple [a, b] k2 pt2) pos) (mPar i j ms) :=
  (ps_par hc hN hi hj hij hx hy ha hw hs).imp fun Dn σ H ⟨μ, ρ, st, rel, p⟩ => tG_O rel p fun μ1 ds st1 vs H1 go1 rel1 rv1 p1 => by
    split at p1
    · obtain ⟨v, v', rfl, h, h'⟩ := two_at rv1
      exact ⟨v, v', rfl, p1 μ1 _ H1 Go.refl ((rel1.set h).set h')⟩
    · exact p1.elim
end
end Pl

set_option maxHeartbeats 4000000
/-! sorted(set(xs)), sorted({e for ..}); comprehensions with two fors -/
namespace Pl
open PySem PySem.Spec PyProof.Rows L2 Hn
open PySem.W (Frag keepIn)
/-! ### each once -/
def uniq {α : Type} [DecidableEq α] : List α → List α
  | [] => []
  | x :: xs => if x ∈ xs then uniq xs else x :: uniq xs
theorem mem_uniq {α : Type} [DecidableEq α] {y : α} : ∀ {xs : List α}, y ∈ uniq xs ↔ y ∈ xs
  | [] => Iff.rfl
  | x :: xs => by
    unfold uniq
    split
    · rename_i h
      rw [mem_uniq (xs := xs), List.mem_cons]
      exact ⟨.inr, fun z => z.elim (fun e => e ▸ h) id⟩
    · rw [List.mem_cons, List.mem_cons, mem_uniq (xs := xs)]
theorem nodup_uniq {α : Type} [DecidableEq α] : ∀ xs : List α, (uniq xs).Nodup
  | [] => .nil
  | x :: xs => by
    unfold uniq
    split
    · exact nodup_uniq xs
    · rename_i h
      exact List.nodup_cons.mpr ⟨fun z => h (mem_uniq.mp z), nodup_uniq xs⟩
/-- ascending, each once -/
def sortU (ns : List Int) : List Int := sortZ (uniq ns)
theorem sortU_mem {ns : List Int} {k : Int} : k ∈ sortU ns ↔ k ∈ ns := ((sortZ_perm _).mem_iff).trans mem_uniq
theorem sortU_lt (ns : List Int) : (sortU ns).Pairwise (· < ·) := by
  have h1 := sortZ_le (uniq ns)
  have h2 : (sortZ (uniq ns)).Nodup := (sortZ_perm _).nodup_iff.mpr (nodup_uniq ns)
  exact (h1.and h2).imp fun h => by have h3 := h.1; have h4 := h.2; omega
theorem asc_uniq {xs ys : List Int} (h1 : xs.Pairwise (· < ·)) (h2 : ys.Pairwise (· < ·)) (h : ∀ k, k ∈ xs ↔ k ∈ ys) : xs = ys := by
  have n1 : xs.Nodup := h1.imp fun z => Int.ne_of_lt z
  have n2 : ys.Nodup := h2.imp fun z => Int.ne_of_lt z
  exact List.Perm.eq_of_pairwise (fun a b _ _ h1 h2 => absurd (Int.lt_trans h1 h2) (Int.lt_irrefl a)) h1 h2 ((List.perm_ext_iff_of_nodup n1 n2).mpr h)
/-- rows of ints, by their order, each once -/
def rleB (a b : List Int) : Bool := !decide (b < a)
def sortRs (rs : List (List Int)) : List (List Int) := (uniq rs).mergeSort rleB
theorem rle_trans (a b c : List Int) (h1 : rleB a b = true) (h2 : rleB b c = true) : rleB a c = true := by
  unfold rleB at *
  simp only [Bool.not_eq_true', decide_eq_false_iff_not, List.not_lt] at *
  exact List.le_trans h1 h2
theorem rle_total (a b : List Int) : (rleB a b || rleB b a) = true := by
  unfold rleB
  simp only [Bool.or_eq_true, Bool.not_eq_true', decide_eq_false_iff_not, List.not_lt]
  exact List.le_total a b
theorem sortRs_perm (rs : List (List Int)) : (sortRs rs).Perm (uniq rs) := List.mergeSort_perm _ _
theorem sortRs_mem {rs : List (List Int)} {r : List Int} : r ∈ sortRs rs ↔ r ∈ rs := ((sortRs_perm rs).mem_iff).trans mem_uniq
theorem sortRs_nodup (rs : List (List Int)) : (sortRs rs).Nodup := (sortRs_perm rs).nodup_iff.mpr (nodup_uniq rs)
theorem sortRs_pw (rs : List (List Int)) : (sortRs rs).Pairwise fun a b => ¬ b < a := (List.pairwise_mergeSort rle_trans rle_total (uniq rs)).imp fun h => by
  unfold rleB at h
  simpa using h
theorem rows_uniq {xs ys : List (List Int)} (n1 : xs.Nodup) (n2 : ys.Nodup) (h1 : xs.Pairwise fun a b => ¬ b < a) (h2 : ys.Pairwise fun a b => ¬ b < a) (h : ∀ k, k ∈ xs ↔ k ∈ ys) : xs = ys :=
  List.Perm.eq_of_pairwise (fun a b _ _ h1 h2 => List.le_antisymm (List.not_lt.mp h1) (List.not_lt.mp h2)) h1 h2 ((List.perm_ext_iff_of_nodup n1 n2).mpr h)
def rowD' (r : List Int) : D := .tup (r.map D.int)
def rowsD : List D → Option (List (List Int))
  | [] => some []
  | .tup xs :: ds => match intsD xs, rowsD ds with
    | some r, some rs => some (r :: rs)
    | _, _ => none
  | _ => none
@[simp] theorem rowsD_map : ∀ rs : List (List Int), rowsD (rs.map rowD') = some rs
  | [] => rfl
  | r :: rs => by simp only [List.map_cons, rowD', rowsD, ints_map]; rw [show rowsD (List.map rowD' rs) = some rs from rowsD_map rs]
theorem rowsD_eq : ∀ {ds : List D} {rs : List (List Int)}, rowsD ds = some rs → ds = rs.map rowD'
  | [], _, e => by cases e; rfl
  | d :: ds, _, e => by
    unfold rowsD at e
    split at e
    · cases ‹_ = []›
    · rename_i e0
      cases e0
      split at e
      · rename_i e1 e2
        cases e
        rw [rowsD_eq e2, ints_eq e1]
        rfl
      · cases e
    · cases e
def sortSetL (xs : List D) (st : Sto) : R D := match intsD xs with
  | some ns => guardR (ns.length < 64) (.ok (.lst ((sortU ns).map D.int)) st)
  | none => ofOpt (rowsD xs) fun rs => guardR (rs.length < 63 ∧ ∀ r ∈ rs, r ≠ []) (.ok (.lst ((sortRs rs).map rowD')) st)
def sortSetD (d : D) (st : Sto) : R D := ofOpt (itemsL st d) fun xs => sortSetL xs st
theorem sortSetL_ints {ns : List Int} {st : Sto} : sortSetL (ns.map D.int) st = guardR (ns.length < 64) (.ok (.lst ((sortU ns).map D.int)) st) := by simp only [sortSetL, ints_map]
theorem sortSetL_rows {rs : List (List Int)} {st : Sto} (h : rs ≠ []) : sortSetL (rs.map rowD') st = guardR (rs.length < 63 ∧ ∀ r ∈ rs, r ≠ []) (.ok (.lst ((sortRs rs).map rowD')) st) := by
  have e : intsD (rs.map rowD') = none := by
    cases rs with
    | nil => exact absurd rfl h
    | cons r rs => rfl
  simp only [sortSetL, e, rowsD_map, ofOpt_some]
section
variable {g : G} {W : WX} {X : Cx} {a b c : Expr} {ma mb : Env → Sto → R D} {pos p : Pos} {σ : L2.St} {μ μ1 : Mu} {H H1 : Hp} {ρ : Env} {st : Sto}
/-- rows on the heap, with their places -/
theorem rows_at : ∀ {rs : List (List Int)} {vs : List V}, RVs g μ H (rs.map rowD') vs → ∃ L : List (Addr × List Int), vs = L.map (fun q => V.ref q.1) ∧ L.map (·.2) = rs ∧ ∀ q ∈ L, μ.off q.1 ∧ H q.1 = some (.tup (q.2.map V.int))
  | [], _, h => ⟨[], h, rfl, fun _ z => absurd z List.not_mem_nil⟩
  | r :: rs, _, h => by
    obtain ⟨v, w, rfl, ⟨q, us, rfl, k, ru⟩, h2⟩ := h
    obtain ⟨L, rfl, e2, h3⟩ := rows_at h2
    obtain rfl := ru.ints
    refine ⟨(q, r) :: L, rfl, by rw [List.map_cons, e2], fun z hz => ?_⟩
    rcases List.mem_cons.mp hz with rfl | hz
    · exact k
    · exact h3 z hz
theorem rows_rv : ∀ {L : List (Addr × List Int)}, (∀ q ∈ L, μ.off q.1 ∧ H q.1 = some (.tup (q.2.map V.int))) → RVs g μ H ((L.map (·.2)).map rowD') (L.map fun q => V.ref q.1)
  | [], _ => rfl
  | q :: L, h => .cons ⟨q.1, _, rfl, h q List.mem_cons_self, .ofInts _⟩ (rows_rv fun z hz => h z (List.mem_cons_of_mem _ hz))
/-- set(xs), then sorted: by what the set's rule leaves -/
def rSetA (g : G) : List V → Hp → VK → Prop := fun vs H Q => rSetLI g.K g.w vs H Q ∨ rSetOfT g.K g.P g.w vs H Q
theorem call_setA (hP : X.prog = g.P) (hw : X.w = g.w) (hK : X.K = g.K) (hc : X.calm = true) (hu : X.A.units + 65 < cLine) : CallR X (.type "set") (rSetA g) := by
  refine orCall (cr_setLI hK hw hc) ?_
  rw [← hP, ← hw, ← hK]
  exact cr_setOfT hc (by omega)
def rSortA (g : G) : List V → Hp → VK → Prop := fun vs H Q => rSortedSet g.w vs H Q ∨ rSortS g.K g.P g.w vs H Q
theorem call_sortA (hP : X.prog = g.P) (hw : X.w = g.w) (hK : X.K = g.K) (hc : X.calm = true) (hu : X.A.units + 65 < cLine) : CallR X (.builtin "sorted") (rSortA g) := by
  refine orCall ?_ (sortSK hK hP hw hc (by omega))
  rw [← hw]
  exact cr_sortedSet hc
theorem pm_sortSetOf (hP : X.prog = g.P) (hw : X.w = g.w) (hK : X.K = g.K) (hc : X.calm = true) (hu : X.A.units + 65 < cLine) {p2 pos2 : Pos} (hg : Gl X "sorted") (hm : X.mg "sorted" = none) (hg2 : Gl X "set") (hm2 : X.mg "set" = none) (hv : bootBuiltins "sorted" = some (.builtin "sorted")) (hv2 : bootBuiltins "set" = some (.type "set"))
    (ha : PM g W X a ma) (h1 : starEach [a] X.env = (false, eval a X.env) :: starEach [] X.env := by rfl) (h2 : starEach [.Call (.Name "set" p2) [a] [] pos2] X.env = (false, eval (.Call (.Name "set" p2) [a] [] pos2) X.env) :: starEach [] X.env := by rfl)
    (hpl : (backTo pos2 (starEach [] X.env)).any (·.1) = false := by rfl) (hpl2 : (backTo pos (starEach [] X.env)).any (·.1) = false := by rfl) : PM g W X (.Call (.Name "sorted" p) [.Call (.Name "set" p2) [a] [] pos2] [] pos) (mUn sortSetD ma) :=
  (pe_callB (call_sortA hP hw hK hc hu) hg hm hv (pa_cons (pe_callTy (call_setA hP hw hK hc hu) hg2 hm2 hv2 (pa_cons ha pa_nil h1) (by decide) (by decide) h1 hpl) pa_nil h2) (by decide) (by decide) h2 hpl2).imp fun σ H Q ⟨μ, ρ, st, rel, p⟩ =>
    tG_bind rel p fun μ1 d st1 x H1 go1 rel1 rv1 p1 => by
      obtain ⟨xs, e1, p2⟩ := post_opt p1
      obtain ⟨l, vs, rfl, k, r⟩ := itemsL_at rel1.sto rv1 e1
      unfold sortSetL at p2
      split at p2
      · rename_i ns e2
        obtain ⟨hl, p3⟩ := post_guard p2
        obtain rfl := ints_eq e2
        obtain rfl := r.ints
        refine .inl ⟨l, ns, rfl, .inl (SqL.of k), by omega, fun s c hs hcn => .inl ⟨s, _, c, rfl, upd_same, by omega, fun ys q up mem _ hq => ?_⟩⟩
        have e3 : ys = sortU ns := asc_uniq up (sortU_lt ns) fun k => ((mem k).trans decide_eq_true_iff).trans sortU_mem.symm
        rw [e3]
        have S2 := rel1.sto.side (o := SetO g.w s (fun j => decide (j ∈ ns)) c) hs
        have go2 := Go.side (o := SetO g.w s (fun j => decide (j ∈ ns)) c) rel1.sto hs
        exact new_lst S2 (.ofInts _) (PostG.base go2 p3) hq
      · obtain ⟨rs, e2, p3⟩ := post_opt p2
        obtain ⟨hl, p4⟩ := post_guard p3
        obtain rfl := rowsD_eq e2
        obtain ⟨L, rfl, rfl, hL⟩ := rows_at r
        rw [List.length_map] at hl
        refine .inr ⟨l, L, rfl, SqL.of k, fun q hq => SqT.of (hL q hq).2, by omega, fun s M hs hM hN => ?_⟩
        have S2 := rel1.sto.side (o := SetTO g.P g.w s M) hs
        have go2 := Go.side (o := SetTO g.P g.w s M) rel1.sto hs
        refine .inr ⟨s, M, rfl, upd_same, fun q hq => SqT.of (by rw [upd_ne (ne_of_none (hL q (hM q hq)).2 hs)]; exact (hL q (hM q hq)).2), fun q hq => hl.2 _ (List.mem_map.mpr ⟨q, hM q hq, rfl⟩), fun M' q pm nd few pw hq => ?_⟩
        have hM' : ∀ z ∈ M', μ1.off z.1 ∧ upd H1 s (SetTO g.P g.w s M) z.1 = some (.tup (z.2.map V.int)) := fun z hz => by
          have z1 := hL z (hM z (pm.mem_iff.mp hz))
          exact ⟨z1.1, by rw [upd_ne (ne_of_none z1.2 hs)]; exact z1.2⟩
        have e3 : M'.map (·.2) = sortRs (L.map (·.2)) := rows_uniq nd (sortRs_nodup _) (List.pairwise_map.mpr (pw.imp fun h => h)) (sortRs_pw _) fun r => by
          rw [sortRs_mem, List.mem_map, List.mem_map]
          constructor
          · rintro ⟨z, hz, rfl⟩
            exact ⟨z, hM z (pm.mem_iff.mp hz), rfl⟩
          · rintro ⟨z, hz, rfl⟩
            obtain ⟨y, hy, e⟩ := List.mem_map.mp (hN z hz)
            exact ⟨y, pm.mem_iff.mpr hy, e⟩
        rw [← e3] at p4
        exact new_lst S2 (rows_rv hM') (PostG.base go2 p4) hq
end
end Pl

set_option maxHeartbeats 4000000
/-! sorted({e for ..}), e a row of ints -/
namespace Pl
open PySem PySem.Spec PyProof.Rows L2 Hn
open PySem.W (Frag keepIn)
def rowOf : D → Option (List Int)
  | .tup xs => intsD xs
  | _ => none
@[simp] def mRow (m : Env → Sto → R D) (ρ : Env) (st : Sto) : R D := (m ρ st).bind fun x st1 => ofOpt (rowOf x) fun r => guardR (r ≠ []) (.ok x st1)
noncomputable def mSortSet (mi : Env → Sto → R Wk) (vs : List Nat) (p : Pat) (t : Env → Sto → R Bool) (m : Env → Sto → R D) (ρ : Env) (st : Sto) : R D := (mi ρ st).bind fun it st1 => (compGo it p t (mRow m) (wipeD ρ vs) it.items st1 []).bind fun acc st2 => ofOpt (rowsD acc) fun rs => guardR (rs.length < 63) (.ok (.lst ((sortRs rs).map rowD')) st2)
theorem rowsD_len : ∀ {ds : List D} {rs : List (List Int)}, rowsD ds = some rs → rs.length = ds.length := fun e => by rw [rowsD_eq e, List.length_map]
theorem compGo_len {it : Wk} {p : Pat} {t : Env → Sto → R Bool} {m : Env → Sto → R D} {ρ : Env} : ∀ {ds : List D} {st : Sto} {acc r : List D} {st' : Sto}, compGo it p t m ρ ds st acc = .ok r st' → acc.length ≤ r.length
  | [], st, acc, r, st', h => by
    unfold compGo at h
    split at h
    · cases h; exact Nat.le_refl _
    · cases h
  | d :: ds, st, acc, r, st', h => by
    unfold compGo at h
    split at h
    · cases e : p.set d ρ with
      | none => rw [e] at h; cases h
      | some ρ' =>
        rw [e] at h
        simp only [ofOpt_some] at h
        cases e1 : t ρ' st with
        | er => rw [e1] at h; cases h
        | no => rw [e1] at h; cases h
        | ok c st1 =>
          rw [e1] at h
          simp only [R.ner_ok] at h
          cases c with
          | false => exact compGo_len h
          | true =>
            simp only [if_true] at h
            cases e2 : m ρ' st1 with
            | er => rw [e2] at h; cases h
            | no => rw [e2] at h; cases h
            | ok x st2 =>
              rw [e2] at h
              simp only [R.ner_ok] at h
              unfold guardR at h
              split at h
              · have := compGo_len h
                rw [List.length_append] at this
                exact Nat.le_trans (Nat.le_add_right _ _) this
              · cases h
    · cases h
theorem compGo_er {it : Wk} {p : Pat} {t : Env → Sto → R Bool} {m : Env → Sto → R D} {ρ : Env} : ∀ {ds : List D} {st : Sto} {acc : List D} {e : Er} {st' : Sto}, compGo it p t m ρ ds st acc ≠ .er e st'
  | [], st, acc, e, st', h => by
    unfold compGo at h
    split at h <;> cases h
  | d :: ds, st, acc, e, st', h => by
    unfold compGo at h
    split at h
    · cases e : p.set d ρ with
      | none => rw [e] at h; cases h
      | some ρ' =>
        rw [e] at h
        simp only [ofOpt_some] at h
        cases e1 : t ρ' st with
        | er => rw [e1] at h; cases h
        | no => rw [e1] at h; cases h
        | ok c st1 =>
          rw [e1] at h
          simp only [R.ner_ok] at h
          cases c with
          | false => exact compGo_er h
          | true =>
            simp only [if_true] at h
            cases e2 : m ρ' st1 with
            | er => rw [e2] at h; cases h
            | no => rw [e2] at h; cases h
            | ok x st2 =>
              rw [e2] at h
              simp only [R.ner_ok] at h
              unfold guardR at h
              split at h
              · exact compGo_er h
              · cases h
    · cases h
section
variable {g : G} {W : WX} {X : Cx} {μ μ1 μ2 : Mu} {H H1 H2 : Hp} {st st1 : Sto} {σ : L2.St} {ρ : Env} {pt : Pat} {t : Env → Sto → R Bool} {m : Env → Sto → R D} {vs : List Nat}
/-- a set D that is made, with the rows that were put in so far -/
structure MadeS (g : G) (μ1 : Mu) (H1 : Hp) (D : Addr) (μ : Mu) (H : Hp) (st : Sto) (rs : List (List Int)) : Prop where
  pv : μ.pv = D :: μ1.pv
  go : Go μ1 H1 ⟨μ.ls, μ1.pv⟩ H
  tr : Tr g μ1 H1 μ H
  S : RS g μ H st
  set : ∃ L, H D = some (SetTO g.P g.w D L) ∧ L.length ≤ rs.length ∧ (∀ q ∈ L, μ.off q.1 ∧ H q.1 = some (.tup (q.2.map V.int))) ∧ ∀ r, r ∈ L.map (·.2) ↔ r ∈ rs
theorem MadeS.on {D : Addr} {rs : List (List Int)} (M : MadeS g μ1 H1 D μ H st rs) (x : Go μ H μ2 H2) (S : RS g μ2 H2 st1) : MadeS g μ1 H1 D μ2 H2 st1 rs := by
  obtain ⟨L, e, l, h, r⟩ := M.set
  have n := (M.S.pvs D (by rw [M.pv]; exact List.mem_cons_self)).1
  exact ⟨x.pv.trans M.pv, M.go.trans ⟨x.ext, rfl, x.new, x.keep⟩, M.tr.go x, S, L, x.keep D _ n e, l, fun q hq => ⟨x.out (h q hq).1 (h q hq).2, x.keep _ _ (h q hq).1.1 (h q hq).2⟩, r⟩
theorem set_k {it : Wk} {J : It} {D : Addr} {Qd : Hp → Prop} (hsl : ∀ i ∈ pt.sl, i ∈ vs) (rel1 : Rel g μ1 σ H1 ρ st1) (ri : RIt g μ1 H1 it J) (hD : H1 D = none) {acc0 : List Pl.D} {st0 : Sto}
    (p : compGo it pt t (mRow m) (wipeD ρ vs) it.items st1 [] = .ok acc0 st0) (hl : acc0.length < 63) {rs0 : List (List Int)} (hrs : rowsD acc0 = some rs0)
    (hfin : ∀ μ H, MadeS g μ1 H1 D μ H st0 rs0 → Qd H) :
    ∃ Wv : Nat → Nat → Hp → Prop, (∃ k, Wv 0 k (upd H1 D (SetTO g.P g.w D []))) ∧ SgTurns (addT g.K g.P g.w) (gP g pt) (tTOf g Wn t) (tOf g Wn m) (L2.wipe σ vs) vs J D Qd Wv := by
  have start : MadeS g μ1 H1 D (μ1.hide D) (upd H1 D (SetTO g.P g.w D [])) st1 [] := ⟨rfl, (Go.refl (μ := μ1)).fresh hD, Tr.refl.hide hD, rel1.sto.hide hD, [], upd_same, Nat.le_refl _, fun _ z => absurd z List.not_mem_nil, fun _ => Iff.rfl⟩
  refine ⟨fun i k H => ∃ μ st acc rs, MadeS g μ1 H1 D μ H st rs ∧ rowsD acc = some rs ∧ k = it.items.length - i ∧ compGo it pt t (mRow m) (wipeD ρ vs) (it.items.drop i) st acc = .ok acc0 st0, ⟨_, μ1.hide D, st1, [], [], start, rfl, rfl, p⟩, ?_⟩
  rintro i k H ⟨μ, st, acc, rs, M, hr, rfl, p⟩
  by_cases hi : i < it.items.length
  · have hlen := compGo_len p
    rw [List.drop_eq_getElem_cons hi] at p
    unfold compGo at p
    split at p
    · rename_i hst
      obtain ⟨_, kk⟩ := ri i μ H st M.tr M.S hst
      obtain ⟨g1, g2⟩ := kk it.items[i] (List.getElem?_eq_getElem hi)
      refine .inr ⟨g1, fun H' => ∃ μ st acc rs, MadeS g μ1 H1 D μ H' st rs ∧ rowsD acc = some rs ∧ compGo it pt t (mRow m) (wipeD ρ vs) (it.items.drop (i + 1)) st acc = .ok acc0 st0, fun H' ⟨μ', st', acc', rs', h1, h2, h3⟩ => ⟨_, by omega, μ', st', acc', rs', h1, h2, rfl, h3⟩, fun x H' hy => ?_⟩
      obtain ⟨go', S', rx⟩ := g2 x H' hy
      cases e2 : pt.set it.items[i] (wipeD ρ vs) with
      | none => rw [e2] at p; cases p
      | some ρ' =>
        rw [e2] at p
        have M' := M.on go' S'
        refine ⟨μ, _, st, _, ρ', (rel1.tr M'.tr S').wipe vs, rx, e2, fun σ2 rel2 wp => ⟨(wp vs hsl).trans (wipe_wipe σ vs), ?_⟩⟩
        simp only [ofOpt_some] at p
        refine ⟨μ, ρ', st, rel2, ?_⟩
        cases e3 : t ρ' st with
        | er e st2 => rw [e3] at p; cases p
        | no => rw [e3] at p; cases p
        | ok c st2 =>
          rw [e3] at p
          intro μ3 c' H3 go3 S3 ec
          cases (show c' = c from ec)
          have M3 := M'.on go3 S3
          simp only [R.ner_ok] at p
          cases c with
          | false => exact ⟨μ3, st2, acc, rs, M3, hr, p⟩
          | true =>
            simp only [if_true] at p
            refine ⟨μ3, ρ', st2, rel2.go go3 S3, ?_⟩
            unfold mRow at p
            cases e4 : m ρ' st2 with
            | er e st3 => rw [e4] at p; cases p
            | no => rw [e4] at p; cases p
            | ok y st3 =>
              rw [e4] at p
              intro μ4 v H4 go4 S4 rv
              have M4 := M3.on go4 S4
              simp only [R.ok_bind] at p
              cases e5 : rowOf y with
              | none => rw [e5] at p; cases p
              | some row =>
                rw [e5] at p
                simp only [ofOpt_some] at p
                by_cases ne : row ≠ []
                · rw [guardR_true ne] at p
                  simp only [R.ner_ok] at p
                  have em : mRow m = fun (ρ : Env) (st : Sto) => (m ρ st).bind fun x st1 => ofOpt (rowOf x) fun r => if r ≠ [] then R.ok x st1 else R.no := by
                    unfold mRow guardR
                    rfl
                  unfold guardR at p
                  split at p
                  · cases y with
                    | tup ys =>
                      obtain ⟨a, us, rfl, ka, ru⟩ := rv
                      obtain rfl := ints_eq (show intsD ys = some row from e5)
                      obtain rfl := ru.ints
                      obtain ⟨L, hD4, hL, hk, hm⟩ := M4.set
                      have hp : D ∈ μ4.pv := by rw [M4.pv]; exact List.mem_cons_self
                      have el := rowsD_len hr
                      refine ⟨a, row, L, rfl, SqT.of ka.2, hD4, fun q hq => SqT.of (hk q hq).2, by omega, fun L' h1 h2 => ?_⟩
                      have hr' : rowsD (acc ++ [.tup (row.map Pl.D.int)]) = some (rs ++ [row]) := by
                        have := rowsD_map (rs ++ [row])
                        rw [List.map_append] at this
                        rw [rowsD_eq hr]
                        exact this
                      refine ⟨μ4, st3, _, rs ++ [row], ⟨M4.pv, M4.go.fresh hD, M4.tr.hid hp, M4.S.hid hp, L', upd_same, ?_, fun q hq => ?_, fun r => ?_⟩, hr', by rw [em]; exact p⟩
                      · rw [List.length_append]
                        by_cases z : row ∈ L.map (·.2)
                        · rw [h1 z]; exact Nat.le_trans hL (Nat.le_add_right _ _)
                        · rw [(h2 z).length_eq, List.length_cons]; exact Nat.succ_le_succ hL
                      · have q1 : q ∈ L ∨ q = (a, row) := by
                          by_cases z : row ∈ L.map (·.2)
                          · rw [h1 z] at hq; exact .inl hq
                          · rcases List.mem_cons.mp ((h2 z).mem_iff.mp hq) with e | e
                            · exact .inr e
                            · exact .inl e
                        rcases q1 with q1 | rfl
                        · exact ⟨(hk q q1).1, at_hid hp (hk q q1).1 (hk q q1).2⟩
                        · exact ⟨ka.1, at_hid hp ka.1 ka.2⟩
                      · rw [List.mem_append, List.mem_singleton, ← hm r]
                        by_cases z : row ∈ L.map (·.2)
                        · rw [h1 z]
                          exact ⟨.inl, fun y => y.elim id fun e => e ▸ z⟩
                        · rw [((h2 z).map (·.2)).mem_iff, List.map_cons, List.mem_cons]
                          exact ⟨fun y => y.elim .inr .inl, fun y => y.elim .inr .inl⟩
                    | _ => cases e5
                  · cases p
                · unfold guardR at p
                  rw [if_neg ne] at p
                  cases p
    · cases p
  · rw [List.drop_eq_nil_of_le (by omega)] at p
    unfold compGo at p
    split at p
    · rename_i hst
      cases p
      rw [hr] at hrs
      cases hrs
      exact .inl ⟨(ri i μ H _ M.tr M.S hst).1 (by omega), hfin μ H M⟩
    · cases p
variable {mi : Env → Sto → R Wk} {elt tg iter : Expr} {ifs : List Expr} {scope : Scope} {own : List (Str × Nat)} {pos pos2 p : Pos}
theorem pm_sortset (hu : X.A.units + 65 < cLine) (hgs : Gl X "sorted") (hms : X.mg "sorted" = none) (hvs : bootBuiltins "sorted" = some (.builtin "sorted")) (hc : X.calm = true) (hN : X.N.Nodup) (hi : PMI g W X tg iter mi) (ok : BlkOk X.N X.env.scope scope own) (hsl : ∀ i ∈ pt.sl, i ∈ own.map (·.2))
    (hg : ∀ (s : Shared) (H : Hp) (C : Addr) (cl : List (Str × Addr)) (fp : List Addr), PG (X.blk s H scope (compEnvC scope cl C X.env) fp) tg (gP g pt))
    (ht : ∀ (s : Shared) (H : Hp) (C : Addr) (cl : List (Str × Addr)) (fp : List Addr), PTs (X.blk s H scope (compEnvC scope cl C X.env) fp) ifs (tTOf g Wn t))
    (he : ∀ (s : Shared) (H : Hp) (C : Addr) (cl : List (Str × Addr)) (fp : List Addr), PM g Wn (X.blk s H scope (compEnvC scope cl C X.env) fp) elt m)
    (hP : X.prog = g.P := by rfl) (hw : X.w = g.w := by rfl) (hK : X.K = g.K := by rfl) (hs : ∀ x, foldedSetIterable iter X.env x = pure x := by intro _; rfl)
    (h1 : starEach [.SetComp elt [⟨tg, iter, ifs, 0⟩] scope pos] X.env = (false, eval (.SetComp elt [⟨tg, iter, ifs, 0⟩] scope pos) X.env) :: starEach [] X.env := by rfl) (hpl : (backTo pos2 (starEach [] X.env)).any (·.1) = false := by rfl) :
    PM g W X (.Call (.Name "sorted" p) [.SetComp elt [⟨tg, iter, ifs, 0⟩] scope pos] [] pos2) (mSortSet mi (own.map (·.2)) pt t m) := by
  have sg := pe_sg (X := X) (wordT (X := X) (by omega)) hc hN hi ok hg ht he hs (pos := pos)
  refine (pe_callB (call_sortA hP hw hK hc hu) hgs hms hvs (pa_cons sg pa_nil h1) (by decide) (by decide) h1 hpl).imp fun σ H Q ⟨μ, ρ, st, rel, p⟩ => ?_
  refine tG_bind rel p fun μ1 it st1 J H1 go1 rel1 ri p1 => fun D hD => ?_
  cases e1 : compGo it pt t (mRow m) (wipeD ρ (own.map (·.2))) it.items st1 [] with
  | er e st2 => exact absurd e1 compGo_er
  | no => rw [e1] at p1; exact p1.elim
  | ok acc st2 =>
    rw [e1] at p1
    obtain ⟨rs, e2, p2⟩ := post_opt (show PostG g W σ μ1 H1 (RV g) (ofOpt (rowsD acc) fun rs => guardR (rs.length < 63) (.ok (.lst ((sortRs rs).map rowD')) st2)) Q from p1)
    obtain ⟨hl, p3⟩ := post_guard p2
    have el := rowsD_len e2
    have nn : ∀ r ∈ rs, r ≠ [] := by
      have key : ∀ (ds : List Pl.D) (st : Sto) (acc acc' : List Pl.D) (st' : Sto), compGo it pt t (mRow m) (wipeD ρ (own.map (·.2))) ds st acc = .ok acc' st' → (∀ d ∈ acc, ∃ r, rowOf d = some r ∧ r ≠ []) → ∀ d ∈ acc', ∃ r, rowOf d = some r ∧ r ≠ [] := fun ds => by
        induction ds with
        | nil =>
          intro st acc acc' st' h k
          unfold compGo at h
          split at h
          · cases h; exact k
          · cases h
        | cons d ds ih =>
          intro st acc acc' st' h k
          unfold compGo at h
          split at h
          · cases e : pt.set d (wipeD ρ (own.map (·.2))) with
            | none => rw [e] at h; cases h
            | some ρ' =>
              rw [e] at h
              simp only [ofOpt_some] at h
              cases e1 : t ρ' st with
              | er => rw [e1] at h; cases h
              | no => rw [e1] at h; cases h
              | ok c st1 =>
                rw [e1] at h
                simp only [R.ner_ok] at h
                cases c with
                | false => exact ih _ _ _ _ h k
                | true =>
                  simp only [if_true] at h
                  cases e2 : mRow m ρ' st1 with
                  | er => rw [e2] at h; cases h
                  | no => rw [e2] at h; cases h
                  | ok x st2 =>
                    rw [e2] at h
                    simp only [R.ner_ok] at h
                    unfold guardR at h
                    split at h
                    · refine ih _ _ _ _ h fun z hz => ?_
                      rcases List.mem_append.mp hz with hz | hz
                      · exact k z hz
                      · rw [List.mem_singleton.mp hz]
                        unfold mRow at e2
                        cases e3 : m ρ' st1 with
                        | er => rw [e3] at e2; cases e2
                        | no => rw [e3] at e2; cases e2
                        | ok y st4 =>
                          rw [e3] at e2
                          simp only [R.ok_bind] at e2
                          cases e4 : rowOf y with
                          | none => rw [e4] at e2; cases e2
                          | some r =>
                            rw [e4] at e2
                            simp only [ofOpt_some] at e2
                            unfold guardR at e2
                            split at e2
                            · rename_i ne
                              cases e2
                              exact ⟨r, e4, ne⟩
                            · cases e2
                    · cases h
          · cases h
      intro r hr
      have hd : rowD' r ∈ acc := by rw [rowsD_eq e2]; exact List.mem_map.mpr ⟨r, hr, rfl⟩
      obtain ⟨r', h1, h2⟩ := key _ _ _ _ _ e1 (fun _ z => absurd z List.not_mem_nil) _ hd
      have : rowOf (rowD' r) = some r := by simp only [rowD', rowOf, ints_map]
      rw [this] at h1
      cases h1
      exact h2
    have eX : X.prog = g.P ∧ X.w = g.w ∧ X.K = g.K := ⟨hP, hw, hK⟩
    rw [hP, hw, hK]
    refine set_k (g := g) hsl rel1 ri hD e1 (by omega) e2 fun μ2 H2 M => ?_
    obtain ⟨L, e3, e4, hk, hm⟩ := M.set
    have n2 : ∀ q ∈ L, q.2 ≠ [] := fun q hq => nn _ ((hm q.2).mp (List.mem_map.mpr ⟨q, hq, rfl⟩))
    refine .inr ⟨D, L, rfl, e3, fun q hq => SqT.of (hk q hq).2, n2, fun M' q pm nd few pw hq => ?_⟩
    have hM' : ∀ z ∈ M', μ2.off z.1 ∧ H2 z.1 = some (.tup (z.2.map V.int)) := fun z hz => hk z (pm.mem_iff.mp hz)
    have e5 : M'.map (·.2) = sortRs rs := rows_uniq nd (sortRs_nodup _) (List.pairwise_map.mpr (pw.imp fun h => h)) (sortRs_pw _) fun r => by
      rw [sortRs_mem, ← hm r, (pm.map (·.2)).mem_iff]
    rw [← e5] at p3
    have em : μ2 = (⟨μ2.ls, μ1.pv⟩ : Mu).hide D := by
      have := M.pv
      cases μ2 with
      | mk l p =>
        have e : p = D :: μ1.pv := this
        rw [e]
        rfl
    have S3 := M.S
    rw [em] at S3
    have hM3 : ∀ z ∈ M', (⟨μ2.ls, μ1.pv⟩ : Mu).off z.1 ∧ H2 z.1 = some (.tup (z.2.map V.int)) := fun z hz => ⟨off_show (p := D) (by rw [← em]; exact (hM' z hz).1), (hM' z hz).2⟩
    exact new_lst S3.show' (rows_rv hM3) (PostG.base M.go p3) hq
end
end Pl

set_option maxHeartbeats 4000000
/-! comprehensions with two fors -/
namespace Pl
open PySem PySem.Spec PyProof.Rows L2 Hn
open PySem.W (Frag keepIn)
open Classical in
noncomputable def comp2Go (it : Wk) (p : Pat) (t : Env → Sto → R Bool) (mi1 : Env → Sto → R Wk) (vs1 : List Nat) (p1 : Pat) (t1 : Env → Sto → R Bool) (m : Env → Sto → R D) (ρ : Env) : List D → Sto → List D → R (List D)
  | [], st, acc => if it.stay st then .ok acc st else .no
  | d :: ds, st, acc => if it.stay st then ofOpt (p.set d ρ) fun ρ' => (t ρ' st).ner fun c st1 => if c = true then (mi1 ρ' st1).ner fun it1 st2 => (compGo it1 p1 t1 m (wipeD ρ' vs1) it1.items st2 acc).ner fun acc' st3 => comp2Go it p t mi1 vs1 p1 t1 m ρ ds st3 acc'
      else comp2Go it p t mi1 vs1 p1 t1 m ρ ds st1 acc else .no
noncomputable def mComp2 (mi : Env → Sto → R Wk) (vs : List Nat) (p : Pat) (t : Env → Sto → R Bool) (mi1 : Env → Sto → R Wk) (vs1 : List Nat) (p1 : Pat) (t1 : Env → Sto → R Bool) (m : Env → Sto → R D) (ρ : Env) (st : Sto) : R D :=
  (mi ρ st).bind fun it st1 => (comp2Go it p t mi1 vs1 p1 t1 m (wipeD ρ vs) it.items st1 []).bind fun acc st2 => .ok (.lst acc) st2
noncomputable def mComp2M (mi : Env → Sto → R Wk) (vs : List Nat) (p : Pat) (t : Env → Sto → R Bool) (mi1 : Env → Sto → R Wk) (vs1 : List Nat) (p1 : Pat) (t1 : Env → Sto → R Bool) (m : Env → Sto → R D) (ρ : Env) (st : Sto) : R D :=
  (mi ρ st).bind fun it st1 => (comp2Go it p t mi1 vs1 p1 t1 m (wipeD ρ vs) it.items st1 []).bind fun acc st2 => .ok (.loc st2.length) (st2 ++ [.lst acc])
section
variable {g : G} {W : WX} {X : Cx} {μ μ1 μ2 μa : Mu} {H H1 H2 Ha : Hp} {st st1 sta : Sto} {σ : L2.St} {ρ : Env} {pt pt1 : Pat} {t t1 : Env → Sto → R Bool} {m : Env → Sto → R D} {vs vs1 : List Nat} {mi1 : Env → Sto → R Wk}
theorem Tr.trans (x : Tr g μ H μ1 H1) (y : Tr g μ1 H1 μ2 H2) : Tr g μ H μ2 H2 := ⟨fun ds vs h => y.rv ds vs (x.rv ds vs h), fun n a h => y.at_ n a (x.at_ n a h), fun a o k e => by
  obtain ⟨k1, e1⟩ := x.fx a o k e
  exact y.fx a o k1 e1⟩
/-- a walk that adds to a list that is being made -/
theorem inner_k {α : Type} {it : Wk} {J : It} {D : Addr} {acc0 : List Pl.D} {fin : List Pl.D → Sto → R α} {P : α → Sto → Prop} {B : Er → Sto → Prop} {Qd : Hp → Prop} (hsl : ∀ i ∈ pt.sl, i ∈ vs) (rel1 : Rel g μa σ Ha ρ sta) (ri : RIt g μa Ha it J) (hD : H1 D = none)
    (M0 : Made g μ1 H1 D μa Ha sta acc0) (p : ((compGo it pt t m (wipeD ρ vs) it.items sta acc0).ner fin).post P B)
    (hfin : ∀ μ H st acc, Made g μ1 H1 D μ H st acc → Tr g μa Ha μ H → (fin acc st).post P B → Qd H) :
    ∃ W : Nat → Nat → Hp → Prop, (∃ m, W 0 m Ha) ∧ ∀ i k H, W i k H → (J.stop i H ∧ Qd H) ∨ (J.go i H ∧ ∃ Nx : Hp → Prop, (∀ H', Nx H' → ∃ k', k' < k ∧ W (i + 1) k' H') ∧
      ∀ x H', J.yld i H x H' → gP g pt x (L2.wipe σ vs) H' fun σ2 H2 => L2.wipe σ2 vs = L2.wipe σ vs ∧ tTOf g Wn t σ2 H2 fun b H3 =>
        if b = true then tOf g Wn m σ2 H3 fun y H4 => ∃ acc, H4 D = some (.lst acc) ∧ acc.length < sizeLine ∧ Nx (upd H4 D (.lst (acc ++ [y]))) else Nx H3) := by
  refine ⟨fun i k H => ∃ μ st acc, Made g μ1 H1 D μ H st acc ∧ Tr g μa Ha μ H ∧ k = it.items.length - i ∧ ((compGo it pt t m (wipeD ρ vs) (it.items.drop i) st acc).ner fin).post P B, ⟨_, μa, sta, acc0, M0, Tr.refl, rfl, p⟩, ?_⟩
  rintro i k H ⟨μ, st, acc, M, tr, rfl, p⟩
  by_cases hi : i < it.items.length
  · rw [List.drop_eq_getElem_cons hi] at p
    unfold compGo at p
    split at p
    · rename_i hst
      obtain ⟨_, kk⟩ := ri i μ H st tr M.S hst
      obtain ⟨g1, g2⟩ := kk it.items[i] (List.getElem?_eq_getElem hi)
      refine .inr ⟨g1, fun H' => ∃ μ st acc, Made g μ1 H1 D μ H' st acc ∧ Tr g μa Ha μ H' ∧ ((compGo it pt t m (wipeD ρ vs) (it.items.drop (i + 1)) st acc).ner fin).post P B, fun H' ⟨μ', st', acc', h1, h3, h2⟩ => ⟨_, by omega, μ', st', acc', h1, h3, rfl, h2⟩, fun x H' hy => ?_⟩
      obtain ⟨go', S', rx⟩ := g2 x H' hy
      cases e2 : pt.set it.items[i] (wipeD ρ vs) with
      | none => rw [e2] at p; exact p.elim
      | some ρ' =>
        rw [e2] at p
        have M' := M.on go' S'
        have tr' := tr.go go'
        refine ⟨μ, _, st, _, ρ', (rel1.tr tr' S').wipe vs, rx, e2, fun σ2 rel2 wp => ⟨(wp vs hsl).trans (wipe_wipe σ vs), ?_⟩⟩
        simp only [ofOpt_some] at p
        refine ⟨μ, ρ', st, rel2, ?_⟩
        cases e3 : t ρ' st with
        | er e st2 => rw [e3] at p; exact p.elim
        | no => rw [e3] at p; exact p.elim
        | ok c st2 =>
          rw [e3] at p
          intro μ3 c' H3 go3 S3 ec
          cases (show c' = c from ec)
          have M3 := M'.on go3 S3
          have tr3 := tr'.go go3
          simp only [R.ner_ok] at p
          cases c with
          | false => exact ⟨μ3, st2, acc, M3, tr3, p⟩
          | true =>
            simp only [if_true] at p
            refine ⟨μ3, ρ', st2, rel2.go go3 S3, ?_⟩
            cases e4 : m ρ' st2 with
            | er e st3 => rw [e4] at p; exact p.elim
            | no => rw [e4] at p; exact p.elim
            | ok y st3 =>
              rw [e4] at p
              intro μ4 v H4 go4 S4 rv
              have M4 := M3.on go4 S4
              simp only [R.ner_ok] at p
              unfold guardR at p
              split at p
              · rename_i hl
                obtain ⟨ws, e5, l5, M5⟩ := M4.add hD rv
                exact ⟨ws, e5, by rw [l5]; exact lim_lt hl, μ4, st3, acc ++ [y], M5, (tr3.go go4).hid (by rw [M4.pv]; exact List.mem_cons_self), p⟩
              · exact p.elim
    · exact p.elim
  · rw [List.drop_eq_nil_of_le (by omega)] at p
    unfold compGo at p
    split at p
    · rename_i hst
      exact .inl ⟨(ri i μ H st tr M.S hst).1 (by omega), hfin μ H st acc M tr p⟩
    · exact p.elim
theorem comp2_k {α : Type} {it : Wk} {J : It} {D : Addr} {fin : List Pl.D → Sto → R α} {P : α → Sto → Prop} {B : Er → Sto → Prop} {Qd : Hp → Prop} (hsl : ∀ i ∈ pt.sl, i ∈ vs) (hsl1 : ∀ i ∈ pt1.sl, i ∈ vs1) (rel1 : Rel g μ1 σ H1 ρ st1) (ri : RIt g μ1 H1 it J) (hD : H1 D = none)
    (p : ((comp2Go it pt t mi1 vs1 pt1 t1 m (wipeD ρ vs) it.items st1 []).bind fin).post P B)
    (hfin : ∀ μ H st acc, Made g μ1 H1 D μ H st acc → (fin acc st).post P B → Qd H) :
    ∃ W : Nat → Nat → Hp → Prop, (∃ m, W 0 m (upd H1 D (.lst []))) ∧ ∀ i k H, W i k H → (J.stop i H ∧ Qd H) ∨ (J.go i H ∧ ∃ Nx : Hp → Prop, (∀ H', Nx H' → ∃ k', k' < k ∧ W (i + 1) k' H') ∧
      ∀ x H', J.yld i H x H' → gP g pt x (L2.wipe σ vs) H' fun σ2 H2 => L2.wipe σ2 vs = L2.wipe σ vs ∧ tTOf g Wn t σ2 H2 fun b H3 =>
        if b = true then tI g Wn mi1 σ2 H3 fun J1 H4 => ∃ W1 : Nat → Nat → Hp → Prop, (∃ m, W1 0 m H4) ∧ ∀ j k H, W1 j k H → (J1.stop j H ∧ Nx H) ∨ (J1.go j H ∧ ∃ Nx1 : Hp → Prop, (∀ H', Nx1 H' → ∃ k', k' < k ∧ W1 (j + 1) k' H') ∧
          ∀ x H', J1.yld j H x H' → gP g pt1 x (L2.wipe σ2 vs1) H' fun σ3 H5 => L2.wipe σ3 vs1 = L2.wipe σ2 vs1 ∧ tTOf g Wn t1 σ3 H5 fun b H6 =>
            if b = true then tOf g Wn m σ3 H6 fun y H7 => ∃ acc, H7 D = some (.lst acc) ∧ acc.length < sizeLine ∧ Nx1 (upd H7 D (.lst (acc ++ [y]))) else Nx1 H6) else Nx H3) := by
  refine ⟨fun i k H => ∃ μ st acc, Made g μ1 H1 D μ H st acc ∧ k = it.items.length - i ∧ ((comp2Go it pt t mi1 vs1 pt1 t1 m (wipeD ρ vs) (it.items.drop i) st acc).bind fin).post P B, ⟨_, μ1.hide D, st1, [], Made.start rel1.sto hD, rfl, p⟩, ?_⟩
  rintro i k H ⟨μ, st, acc, M, rfl, p⟩
  by_cases hi : i < it.items.length
  · rw [List.drop_eq_getElem_cons hi] at p
    unfold comp2Go at p
    split at p
    · rename_i hst
      obtain ⟨_, kk⟩ := ri i μ H st M.tr M.S hst
      obtain ⟨g1, g2⟩ := kk it.items[i] (List.getElem?_eq_getElem hi)
      refine .inr ⟨g1, fun H' => ∃ μ st acc, Made g μ1 H1 D μ H' st acc ∧ ((comp2Go it pt t mi1 vs1 pt1 t1 m (wipeD ρ vs) (it.items.drop (i + 1)) st acc).bind fin).post P B, fun H' ⟨μ', st', acc', h1, h2⟩ => ⟨_, by omega, μ', st', acc', h1, rfl, h2⟩, fun x H' hy => ?_⟩
      obtain ⟨go', S', rx⟩ := g2 x H' hy
      cases e2 : pt.set it.items[i] (wipeD ρ vs) with
      | none => rw [e2] at p; exact p.elim
      | some ρ' =>
        rw [e2] at p
        have M' := M.on go' S'
        refine ⟨μ, _, st, _, ρ', (rel1.tr M'.tr S').wipe vs, rx, e2, fun σ2 rel2 wp => ⟨(wp vs hsl).trans (wipe_wipe σ vs), ?_⟩⟩
        simp only [ofOpt_some] at p
        refine ⟨μ, ρ', st, rel2, ?_⟩
        cases e3 : t ρ' st with
        | er e st2 => rw [e3] at p; exact p.elim
        | no => rw [e3] at p; exact p.elim
        | ok c st2 =>
          rw [e3] at p
          intro μ3 c' H3 go3 S3 ec
          cases (show c' = c from ec)
          have M3 := M'.on go3 S3
          simp only [R.ner_ok] at p
          cases c with
          | false => exact ⟨μ3, st2, acc, M3, p⟩
          | true =>
            simp only [if_true] at p
            refine ⟨μ3, ρ', st2, rel2.go go3 S3, ?_⟩
            cases e4 : mi1 ρ' st2 with
            | er e st3 => rw [e4] at p; exact p.elim
            | no => rw [e4] at p; exact p.elim
            | ok it1 st3 =>
              rw [e4] at p
              intro μ4 J1 H4 go4 S4 ri1
              have M4 := M3.on go4 S4
              simp only [R.ner_ok] at p
              have q : (((compGo it1 pt1 t1 m (wipeD ρ' vs1) it1.items st3 acc).ner fun acc' st4 => (comp2Go it pt t mi1 vs1 pt1 t1 m (wipeD ρ vs) (it.items.drop (i + 1)) st4 acc').bind fin)).post P B := by
                cases e5 : compGo it1 pt1 t1 m (wipeD ρ' vs1) it1.items st3 acc with
                | ok a b => rw [e5] at p; exact p
                | er a b => rw [e5] at p; exact p.elim
                | no => rw [e5] at p; exact p.elim
              exact inner_k hsl1 ((rel2.go go3 S3).go go4 S4) ri1 hD M4 q fun μ5 H5 st5 acc5 M5 _ q5 => ⟨μ5, st5, acc5, M5, q5⟩
    · exact p.elim
  · rw [List.drop_eq_nil_of_le (by omega)] at p
    unfold comp2Go at p
    split at p
    · rename_i hst
      exact .inl ⟨(ri i μ H st M.tr M.S hst).1 (by omega), hfin μ H st acc M p⟩
    · exact p.elim
variable {mi : Env → Sto → R Wk} {elt tg iter tg1 iter1 : Expr} {ifs ifs1 : List Expr} {scope : Scope} {own : List (Str × Nat)} {pos : Pos}
theorem lc2_frz {Q : VK} (hsl : ∀ i ∈ pt.sl, i ∈ vs) (hsl1 : ∀ i ∈ pt1.sl, i ∈ vs1) (rel : Rel g μ σ H ρ st) (p : PostG g W σ μ H (RV g) (mComp2 mi vs pt t mi1 vs1 pt1 t1 m ρ st) Q) : tLc2 (tI g W mi) (gP g pt) (tTOf g Wn t) (tI g Wn mi1) (gP g pt1) (tTOf g Wn t1) (tOf g Wn m) vs vs1 σ H Q :=
  tG_bind rel p fun μ1 it st1 J H1 go1 rel1 ri p1 => fun D hD => comp2_k hsl hsl1 rel1 ri hD p1 fun μ2 H2 st2 acc M q => by
    obtain ⟨S, rv⟩ := M.frz rel1.sto hD
    exact q _ _ _ M.go S rv
theorem lc2_sto {Q : VK} (hsl : ∀ i ∈ pt.sl, i ∈ vs) (hsl1 : ∀ i ∈ pt1.sl, i ∈ vs1) (rel : Rel g μ σ H ρ st) (p : PostG g W σ μ H (RV g) (mComp2M mi vs pt t mi1 vs1 pt1 t1 m ρ st) Q) : tLc2 (tI g W mi) (gP g pt) (tTOf g Wn t) (tI g Wn mi1) (gP g pt1) (tTOf g Wn t1) (tOf g Wn m) vs vs1 σ H Q :=
  tG_bind rel p fun μ1 it st1 J H1 go1 rel1 ri p1 => fun D hD => comp2_k hsl hsl1 rel1 ri hD p1 fun μ2 H2 st2 acc M q => by
    obtain ⟨go, S, rv⟩ := M.sto rel1.sto hD
    exact q _ _ _ go S rv
section
variable (hc : X.calm = true) (hN : X.N.Nodup) (hi : PMI g W X tg iter mi) (ok : BlkOk X.N X.env.scope scope own) (hv : ∀ i ∈ vs1, i ∈ own.map (·.2)) (hsl : ∀ i ∈ pt.sl, i ∈ own.map (·.2)) (hsl1 : ∀ i ∈ pt1.sl, i ∈ vs1)
    (hg : ∀ (s : Shared) (H : Hp) (C : Addr) (cl : List (Str × Addr)) (fp : List Addr), PG (X.blk s H scope (compEnvC scope cl C X.env) fp) tg (gP g pt))
    (ht : ∀ (s : Shared) (H : Hp) (C : Addr) (cl : List (Str × Addr)) (fp : List Addr), PTs (X.blk s H scope (compEnvC scope cl C X.env) fp) ifs (tTOf g Wn t))
    (hi1 : ∀ (s : Shared) (H : Hp) (C : Addr) (cl : List (Str × Addr)) (fp : List Addr), PMI g Wn (X.blk s H scope (compEnvC scope cl C X.env) fp) tg1 iter1 mi1)
    (hg1 : ∀ (s : Shared) (H : Hp) (C : Addr) (cl : List (Str × Addr)) (fp : List Addr), PG (X.blk s H scope (compEnvC scope cl C X.env) fp) tg1 (gP g pt1))
    (ht1 : ∀ (s : Shared) (H : Hp) (C : Addr) (cl : List (Str × Addr)) (fp : List Addr), PTs (X.blk s H scope (compEnvC scope cl C X.env) fp) ifs1 (tTOf g Wn t1))
    (he : ∀ (s : Shared) (H : Hp) (C : Addr) (cl : List (Str × Addr)) (fp : List Addr), PM g Wn (X.blk s H scope (compEnvC scope cl C X.env) fp) elt m)
    (hs : ∀ x, foldedSetIterable iter X.env x = pure x := by intro _; rfl) (hs1 : ∀ env x, foldedSetIterable iter1 env x = pure x := by intro _ _; rfl)
include hc hN hi ok hv hsl hsl1 hg ht hi1 hg1 ht1 he hs hs1
theorem pm_lc2 : PM g W X (.ListComp elt [⟨tg, iter, ifs, 0⟩, ⟨tg1, iter1, ifs1, 0⟩] scope pos) (mComp2 mi (own.map (·.2)) pt t mi1 vs1 pt1 t1 m) := (pe_lc2 hc hN hi ok hv hg ht hi1 hg1 ht1 he hs hs1).imp fun σ H Q ⟨μ, ρ, st, rel, p⟩ => lc2_frz hsl hsl1 rel p
theorem pm_lc2M : PM g W X (.ListComp elt [⟨tg, iter, ifs, 0⟩, ⟨tg1, iter1, ifs1, 0⟩] scope pos) (mComp2M mi (own.map (·.2)) pt t mi1 vs1 pt1 t1 m) := (pe_lc2 hc hN hi ok hv hg ht hi1 hg1 ht1 he hs hs1).imp fun σ H Q ⟨μ, ρ, st, rel, p⟩ => lc2_sto hsl hsl1 rel p
variable {i : Nat} {y : Str} {py spos : Pos} (hy : X.N[i]? = some y) (hyl : X.env.scope.names.lookup y = some .local) (hsw : swapsWith (.ListComp elt [⟨tg, iter, ifs, 0⟩, ⟨tg1, iter1, ifs1, 0⟩] scope pos) (some (.Name y py)) spos.line X.env = pure true)
include hy hyl hsw
theorem setLc2_k {mm : Env → Sto → R Pl.D} (hk : ∀ σ H Q μ ρ st, Rel g μ σ H ρ st → PostG g W σ μ H (RV g) (mm ρ st) Q → tLc2 (tI g W mi) (gP g pt) (tTOf g Wn t) (tI g Wn mi1) (gP g pt1) (tTOf g Wn t1) (tOf g Wn m) (own.map (·.2)) vs1 σ H Q) : PMS g W X (.Assign [.Name y py] (.ListComp elt [⟨tg, iter, ifs, 0⟩, ⟨tg1, iter1, ifs1, 0⟩] scope pos) spos) (mSet i mm) :=
  (ps_setLc2 hc hN hy hyl hsw hi ok hv hg ht hi1 hg1 ht1 he hs hs1).imp fun Dn σ H ⟨μ, ρ, st, rel, p⟩ => by
    show tLc2 _ _ _ _ _ _ _ _ _ σ H _
    refine hk σ H _ μ ρ st rel ?_
    unfold mSet at p
    cases e : mm ρ st with
    | ok d st1 =>
      rw [e] at p
      exact fun μ1 v H1 go S rv => PostS.base go p μ1 _ H1 Go.refl ((rel.go go S).set rv)
    | er x st1 =>
      rw [e] at p
      exact fun μ1 H1 cls dd go S re => p μ1 σ H1 cls dd go (rel.go go S) re
    | no => rw [e] at p; exact p.elim
theorem pms_setLc2 : PMS g W X (.Assign [.Name y py] (.ListComp elt [⟨tg, iter, ifs, 0⟩, ⟨tg1, iter1, ifs1, 0⟩] scope pos) spos) (mSet i (mComp2 mi (own.map (·.2)) pt t mi1 vs1 pt1 t1 m)) := setLc2_k hc hN hi ok hv hsl hsl1 hg ht hi1 hg1 ht1 he hs hs1 hy hyl hsw fun σ H Q μ ρ st rel p => lc2_frz hsl hsl1 rel p
theorem pms_setLc2M : PMS g W X (.Assign [.Name y py] (.ListComp elt [⟨tg, iter, ifs, 0⟩, ⟨tg1, iter1, ifs1, 0⟩] scope pos) spos) (mSet i (mComp2M mi (own.map (·.2)) pt t mi1 vs1 pt1 t1 m)) := setLc2_k hc hN hi ok hv hsl hsl1 hg ht hi1 hg1 ht1 he hs hs1 hy hyl hsw fun σ H Q μ ρ st rel p => lc2_sto hsl hsl1 rel p
end
end
end Pl

set_option maxHeartbeats 4000000
/-! try with several clauses, each with or without a name -/
namespace Pl
open PySem PySem.Spec PyProof.Rows L2 Hn
open PySem.W (Frag keepIn)
/-- a clause: its class, the slot of its name, what its suite asks -/
structure Cl where
  c : Value
  nm : Option Nat
  ts : Addr → Value → Option Addr → TS
def inSlot (o : Option Nat) (a : Addr) (σ : L2.St) : L2.St := match o with
  | none => σ
  | some i => σ.set i (some (.ref a))
/-- behind the suite the name is gone -/
def cleared (o : Option Nat) (Dn : Ends) : Ends := match o with
  | none => Dn
  | some i => ⟨fun σ G => Dn.nx (σ.set i none) G, Dn.rt, fun σ G => Dn.bk (σ.set i none) G, fun σ G => Dn.ct (σ.set i none) G⟩
def wCl (K : Frag) (Wo : WX) (Dn : Ends) : List Cl → WX
  | [] => Wo
  | k :: r => fun cls d σ H => ∃ b, PySem.W.exmOne K cls k.c = some b ∧ (b = true → ∀ a, H a = none → k.ts a cls d (cleared k.nm Dn) (inSlot k.nm a σ) H) ∧ (b = false → wCl K Wo Dn r cls d σ H)
def SuiteOk (X : Cx) (ss : List Stmt) (ts : Addr → Value → Option Addr → TS) : Prop := ∀ (a : Addr) (oe : Obj) (cls : Value) (d : Option Addr) (pn : List (Addr × Obj)), Zc cls d oe → (∃ vs, oe.data = .fields vs) → PSs (X.suite a ((a, oe) :: pn)) ss (ts a cls d)
inductive ClOk (X : Cx) : List ExceptHandler → List Cl → Prop
  | nil : ClOk X [] []
  | plain {x : Str} {c : Value} {ts : Addr → Value → Option Addr → TS} {s0 : Stmt} {ss : List Stmt} {p1 p2 : Pos} {hs : List ExceptHandler} {l : List Cl} (n : Names X x c) (k : SuiteOk X (s0 :: ss) ts) (r : ClOk X hs l) : ClOk X (.ExceptHandler (some (.Name x p1)) none (s0 :: ss) p2 :: hs) (⟨c, none, ts⟩ :: l)
  | named {x y : Str} {i : Nat} {c : Value} {ts : Addr → Value → Option Addr → TS} {s0 : Stmt} {ss : List Stmt} {p1 p2 : Pos} {hs : List ExceptHandler} {l : List Cl} (n : Names X x c) (e : X.N[i]? = some y) (loc : X.env.kindOf y = some .local) (k : SuiteOk X (s0 :: ss) ts) (r : ClOk X hs l) :
      ClOk X (.ExceptHandler (some (.Name x p1)) (some y) (s0 :: ss) p2 :: hs) (⟨c, some i, ts⟩ :: l)
/-- an error that has come down in the def whose state was sI -/
structure Down (X : Cx) (pins : List (Addr × Obj)) (σ : L2.St) (H : Hp) (cls : Value) (d : Option Addr) (B : Heap) (sI : Shared) (a : Addr) (s : Shared) : Prop where
  inv : L2.Inv X pins σ H sI
  old : ∀ b o, sI.heap.get? b = some o → b ∉ frs X.stack → B.get? b = some o
  up : sI.heap.UpToSlots s.heap
  os : s.os = sI.os
  bare : AllBare s.gens
  off : H a = none
  fly : HandSPX.FlyingZ B (X.env :: X.outer) a (Zc cls d) s.heap
section
variable {X : Cx} {pins : List (Addr × Obj)} {σ : L2.St} {H : Hp} {cls : Value} {d : Option Addr} {B : Heap} {sI s : Shared} {a : Addr}
theorem Down.now (w : Down X pins σ H cls d B sI a s) : L2.Inv X pins σ H s := w.inv.landed w.old w.fly.1 w.up w.os w.bare
theorem Down.on (w : Down X pins σ H cls d B sI a s) {G : Heap} (f : HandSPX.FlyingZ B (X.env :: X.outer) a (Zc cls d) G) (u : s.heap.UpToSlots G) : Down X pins σ H cls d B sI a { s with heap := G } := ⟨w.inv, w.old, w.up.trans u, w.os, w.bare, w.off, f⟩
/-- the error's own object, apart from the frames -/
theorem Down.ob (w : Down X pins σ H cls d B sI a s) (hf : X.env.frame = some X.env.locals) : ∃ oe vs, s.heap.get? a = some oe ∧ Zc cls d oe ∧ oe.data = .fields vs ∧ a ≠ X.env.locals ∧ a ∉ X.fs := by
  obtain ⟨oe, vs, g, z, e⟩ := w.fly.there
  have apart : a ∉ frs (X.env :: X.outer) := fun hm => by
    obtain ⟨_, o, g2, no⟩ := w.fly.2.2.1.mem hm
    rw [g] at g2
    cases g2
    exact no _ e
  refine ⟨oe, vs, g, z, e, fun q => apart ?_, fun q => apart ?_⟩
  · unfold frs
    rw [List.filterMap_cons, hf, q]
    exact List.mem_cons_self
  · obtain ⟨env, m, q2⟩ := List.mem_filterMap.mp q
    exact List.mem_filterMap.mpr ⟨env, List.mem_cons_of_mem _ m, q2⟩
variable {Wo : WX} {Dn : Ends}
/-- no clause takes it: it goes on -/
theorem Down.out (w : Down X pins σ H cls d B sI a s) (hs : X.stack = X.env :: X.outer) (hf : X.env.frame = some X.env.locals) (tk : Takes X Wo) (q : Wo cls d σ H) : wpAny (model X.prog X.w) X.A (handleBy (.ref a) X.env []) (SP X pins Dn) X.xe s := by
  apply wpAny_handleBy_nil
  obtain ⟨_, _, _, oe, vs, T, oT, more, g, hz, hd, h1, _⟩ := id w.fly
  have fin : wpAny (model X.prog X.w) X.A (setFlight (.ref a) X.env.frame) (fun _ z => wpAny (model X.prog X.w) X.A (throw (.ref a) : Sem Flow) (SP X pins Dn) X.xe z) X.xe s := by
    rw [hf]
    apply HandSPX.setFlight_upZ w.fly
    intro G held u
    apply wpAny_throw
    apply tk
    refine ⟨a, B, sI, pins, σ, H, cls, d, rfl, w.inv, w.old, w.up.trans u, ?_, w.off, w.os, w.bare, q⟩
    rw [hs]
    exact .inr (.inr held)
  unfold PySem.passOn
  apply wpAny_bind
  apply wpAny_field g hd h1
  have nn : ¬ ((Value.ref T == Value.none) = true) := by simp
  rw [if_neg nn]
  first
    | exact wpAny_bind (wpAny_pure (wpAny_bind fin))
    | exact wpAny_bind fin
theorem clauses_run (hs : X.stack = X.env :: X.outer) (hf : X.env.frame = some X.env.locals) (hN : X.N.Nodup) (tk : Takes X Wo) : ∀ {hds : List ExceptHandler} {l : List Cl}, ClOk X hds l → ∀ {s : Shared}, Down X pins σ H cls d B sI a s → wCl X.K Wo Dn l cls d σ H → wpAny (model X.prog X.w) X.A (handleBy (.ref a) X.env hds) (SP X pins Dn) X.xe s := by
  have asked : ∀ {x : Str} {c : Value} {b : Bool} {np : Pos} {Q : Value → Shared → Prop} {E : Value → Shared → Prop} {s : Shared}, Names X x c → Down X pins σ H cls d B sI a s → Q c s → wpAny (model X.prog X.w) (X.A.mark (some (.ref a))) (eval (.Name x np) X.env) Q E s := by
    intro x c b np Q E s n w q
    obtain ⟨oe, vs, g, _, e, n1, n2⟩ := w.ob hf
    have S := w.now.suite g e w.off n1 n2
    rcases n with ⟨n3, n4, n5 | ⟨n5, n6, n7⟩⟩
    · exact ld_glob (X := X.suite a ((a, oe) :: (X.pn ++ pins))) S n3 n5 q n4
    · exact ld_blt (X := X.suite a ((a, oe) :: (X.pn ++ pins))) S n3 n5 n6 q n7 n4
  have looked : ∀ {c : Value} {b : Bool} {s : Shared}, Down X pins σ H cls d B sI a s → PySem.W.exmOne X.K cls c = some b → _ := fun {c b s} w e => by
    have t : PySem.W.Looks (model X.prog X.w) s.heap (typeOf (.ref a)) cls := fun A Q E z k q => by
      obtain ⟨oe, vs, g, z1, _⟩ := w.ob hf
      exact wpAny_typeOf_ref (k _ _ g) (by rw [z1.1]; exact q)
    exact PySem.W.exm_one (M := model X.prog X.w) w.now.kIn t e
  have ends : ∀ {oe : Obj} {f : Flow} {z : Shared}, X.Ok → SP (X.suite a ((a, oe) :: (X.pn ++ pins))) [] Dn f z → SP X pins Dn f z := fun {oe f z} o h => by
    have ok := fun {σ6 : L2.St} {H6 : Hp} (J : L2.Inv (X.suite a ((a, oe) :: (X.pn ++ pins))) [] σ6 H6 z) => J.unsuite (pins := pins) o
    cases f with
    | next => obtain ⟨_, _, J, q⟩ := h; exact ⟨_, _, ok J, q⟩
    | brk => obtain ⟨_, _, J, q⟩ := h; exact ⟨_, _, ok J, q⟩
    | cont => obtain ⟨_, _, J, q⟩ := h; exact ⟨_, _, ok J, q⟩
    | ret u => obtain ⟨_, _, _, J, r, q⟩ := h; exact ⟨_, _, _, ok J, r, q⟩
  intro hds l hk
  induction hk with
  | nil => exact fun w q => w.out hs hf tk q
  | @plain x c ts s0 ss p1 p2 hds l n k r ih =>
    intro s w q
    obtain ⟨b, e, yes, no⟩ := q
    apply wpAny_handleBy_cons (codeAny_handlers_test ?_) (by intro z; cases z)
    apply asked (b := b) n w
    apply (looked w e).here
    cases b with
    | false => exact ih w (no rfl)
    | true =>
      apply codeAny_handlers_suite
      apply HandSPX.lands_againZ w.fly
      intro G f u
      have w2 := w.on f u
      obtain ⟨oe, vs, g, z, e2, n1, n2⟩ := w2.ob hf
      have S := w2.now.suite g e2 w.off n1 n2
      exact wpAny_mono ((k a oe cls d (X.pn ++ pins) z ⟨_, e2⟩).run [] _ _ H _ S (yes rfl a w.off)) (fun f z h => ends w.inv.ok h) fun _ _ z => z.elim
  | @named x y i c ts s0 ss p1 p2 hds l n ei loc k r ih =>
    intro s w q
    obtain ⟨b, e, yes, no⟩ := q
    apply wpAny_handleBy_cons (codeAny_handlers_test ?_) (by intro z; cases z)
    apply asked (b := b) n w
    apply (looked w e).here
    cases b with
    | false => exact ih w (no rfl)
    | true =>
      apply codeAny_handlers_suite_as
      apply HandSPX.lands_againZ w.fly
      intro G f u
      have w2 := w.on f u
      obtain ⟨oe, vs, g, z, e2, n1, n2⟩ := w2.ob hf
      have S := w2.now.suite g e2 w.off n1 n2
      apply store_ok (X := X.suite a ((a, oe) :: (X.pn ++ pins))) (v := .ref a) S hN ei (.inl loc) rfl (fun s5 S5 => ?_) (.inr loc)
      refine wpAny_mono ((k a oe cls d (X.pn ++ pins) z ⟨_, e2⟩).run [] s5 _ H _ S5 (yes rfl a w.off)) (fun f s6 h => ?_) fun _ _ z => z.elim
      have fin : ∀ {σ6 : L2.St} {H6 : Hp} {Q : Shared → Prop}, L2.Inv (X.suite a ((a, oe) :: (X.pn ++ pins))) [] σ6 H6 s6 → (∀ s7, L2.Inv X pins (σ6.set i none) H6 s7 → Q s7) → wpAny (model X.prog X.w) X.A (do bindName X.env y .none; unbindBehindTheSuite X.env y p2) (fun _ s7 => Q s7) X.xe s6 :=
        fun {σ6 H6 Q} J q => gone_ok (J.unsuite (pins := pins) w.inv.ok) hN ei loc q
      cases f with
      | next => obtain ⟨_, _, J, q6⟩ := h; exact fin J fun s7 J7 => ⟨_, _, J7, q6⟩
      | brk => obtain ⟨_, _, J, q6⟩ := h; exact fin J fun s7 J7 => ⟨_, _, J7, q6⟩
      | cont => obtain ⟨_, _, J, q6⟩ := h; exact fin J fun s7 J7 => ⟨_, _, J7, q6⟩
      | ret u => obtain ⟨_, _, _, J, r6, q6⟩ := h; exact fin J fun s7 J7 => ⟨_, _, _, J7, r6, q6⟩
end
section
variable {X : Cx} {body : List Stmt} {h0 : ExceptHandler} {hds : List ExceptHandler} {l : List Cl} {pos : Pos} {tb : WX → TS} {Wo : WX}
/-- try: body, several clauses -/
theorem ps_tryC (hs : X.stack = X.env :: X.outer) (hf : X.env.frame = some X.env.locals) (hN : X.N.Nodup) (tk : Takes X Wo)
    (hb : ∀ (W : WX) (pn : List (Addr × Obj)) (xe : Value → Shared → Prop), Takes (X.tr pn xe) W → PassesOwn (model X.prog X.w) X.A X.env xe → PSs (X.tr pn xe) body (tb W)) (hh : ClOk X (h0 :: hds) l) :
    PS X (.Try body (h0 :: hds) [] [] pos) (fun Dn σ H => tb (wCl X.K Wo Dn l) Dn σ H) := by
  constructor
  intro pins s σ H Dn I h
  have fr : X.A.frames = some (X.env :: X.outer) := I.ok.frames.trans (congrArg some hs)
  have run := (hb (wCl X.K Wo Dn l) (X.pn ++ pins) (fun e s₁ => wpAny (model X.prog X.w) X.A (noteFrame e X.env) (fun _ s₂ => wpAny (model X.prog X.w) X.A (setFlight e none) (fun _ s₃ => wpAny (model X.prog X.w) X.A (handleBy e X.env (h0 :: hds)) (SP X pins Dn) X.xe s₃) X.xe s₂) X.xe s₁) (fun u z x => by
    obtain ⟨a, B, sI, pins2, σ2, H2, cls, d, rfl, J, nb, up, sky, na, os, ag, w⟩ := x
    rw [hs] at sky
    show wpAny (model X.prog X.w) X.A (noteFrame (.ref a) X.env) _ _ _
    exact Sky.land Zc.steady fr hf sky fun G fly u2 => clauses_run hs hf hN tk hh ⟨J.ofTry I.ok, nb, up.trans u2, os, ag, na, fly⟩ w) PassesOwn.looking).run [] s σ H Dn (I.toTry _) h
  refine wpAny_Try_except (wpAny_mono run (fun f z q => ?_) fun _ _ q => q)
  cases f with
  | next => obtain ⟨_, _, J, q⟩ := q; exact wpAny_execs_nil ⟨_, _, J.ofTry I.ok, q⟩
  | brk => obtain ⟨_, _, J, q⟩ := q; exact ⟨_, _, J.ofTry I.ok, q⟩
  | cont => obtain ⟨_, _, J, q⟩ := q; exact ⟨_, _, J.ofTry I.ok, q⟩
  | ret u => obtain ⟨_, _, _, J, r, q⟩ := q; exact ⟨_, _, _, J.ofTry I.ok, r, q⟩
end
end Pl

set_option maxHeartbeats 4000000
/-! the end: a law's def by its mirror -/
namespace Hn
open PySem PySem.Spec
/-- further built-ins' names that are not the module's -/
structure Bl2 (mg : Str → Option Value) : Prop where
  b_min : mg "min" = none
  b_max : mg "max" = none
  b_str : mg "str" = none
  b_dict : mg "dict" = none
  b_repr : mg "repr" = none
  b_reversed : mg "reversed" = none
  b_KeyError : mg "KeyError" = none
end Hn
namespace Pl
open PySem PySem.Spec PyProof.Rows L2 Hn
open PySem.W (Frag keepIn)
theorem _root_.L2.Fun.okM {P : Program} {w : World} {K : Frag} {mg : Str → Option Value} {base : Heap} {x : Str} {st : Stmt} {fa : Addr} {fd : FuncData} {N ps : List Str} {k : Nat} {m : Env → Sto → O} {h0 : Hp} (F : Fun K x x st fa fd) (b : Binds K fd ps []) (gm : mg x = some (.ref fa)) (S : FnScope N ps (defScope st))
    (hbody : ∀ (f : Addr) (cdv : Value) (A : Around) (ou : List PySem.Env) (s : Shared) (H : Hp) (E : XK), Room k (A.deeper (envOfC x (defScope st) s.heap.objs.size f cdv)) →
      PMSs ⟨P, w, K, mg, none, H⟩ (fun c d _ H => E c d H) (cxOf (L2.CX P w) P w K mg base N x (defScope st) f cdv A ou s H E) (defBody st) m) :
    FnOk P w K mg base (L2.CX P w) (k + 1) fa fd ps (spM ⟨P, w, K, mg, none, h0⟩ (mDef ps.length N.length m)) := by
  refine F.okX S (fun vs H Q E h => ?_) (fun cdv A ou s H vs Q E hr h => ⟨_, hbody fa cdv A ou s H E hr, ?_⟩)
  · obtain ⟨μ, st, ds, S, r, p⟩ := h
    rw [r.length]
    unfold mDef at p
    split at p
    · assumption
    · exact p.elim
  · obtain ⟨μ, st, ds, S, r, p⟩ := h
    unfold mDef at p
    split at p
    · rename_i hl
      have S1 : RS ⟨P, w, K, mg, none, H⟩ μ H st := RS.swap S fun _ e => e
      have bk : ∀ {μ' : Mu} {H' : Hp} {st' : Sto}, RS ⟨P, w, K, mg, none, H⟩ μ' H' st' → RS ⟨P, w, K, mg, none, h0⟩ μ' H' st' := fun S' => RS.swap S' fun a e => S.old a (S'.old a e)
      refine ⟨μ, _, st, rel_start S1 (RVs.swap r), ?_⟩
      rw [hl]
      cases hm : m (ds.map some ++ List.replicate (N.length - ps.length) none) st with
      | nx ρ' st' =>
        rw [hm] at p
        exact fun μ' σ' H' x rel => gc_ok S p x (bk rel.sto) rfl
      | rt d st' =>
        rw [hm] at p
        exact fun μ' v H' x S' rv => gc_ok S p x (bk S') (RV.swap rv)
      | er e ρ' st' =>
        rw [hm] at p
        exact fun μ' σ' H' cls dd x rel re => gc_er S p x (bk rel.sto) (RErr.swap re)
      | bk ρ' st' => rw [hm] at p; exact p.elim
      | ct ρ' st' => rw [hm] at p; exact p.elim
      | no => rw [hm] at p; exact p.elim
    · exact p.elim
/-- what a law promises -/
def spLaw (K : Frag) : Sp := fun vs H Q _ => ∃ (a : Addr) (ns : List Int), vs = [.ref a] ∧ SqL K H a (ns.map V.int) ∧ ns.length ≤ 63 ∧ ∀ H', Q (.bl true) H'
theorem sp_law {P : Program} {w : World} {K : Frag} {mg : Str → Option Value} {f : List D → Sto → R D} (math : ∀ ns : List Int, ns.length ≤ 63 → ∃ st, f [.rol (ns.map .int)] [] = .ok (.bl true) st) (vs : List V) (H : Hp) (Q : VK) (E : XK) (h : spLaw K vs H Q E) : spM ⟨P, w, K, mg, none, H0⟩ f vs H Q E := by
  obtain ⟨a, ns, rfl, hS, hl, q⟩ := h
  obtain ⟨st, e⟩ := math ns hl
  refine ⟨⟨[], []⟩, [], [.rol (ns.map .int)], ⟨rfl, List.nodup_nil, fun n c a e _ => (by cases e), fun a h => (by cases h), fun _ _ => rfl⟩, RVs.one ⟨a, _, rfl, ?_, RVs.ofInts ns⟩, ?_⟩
  · rcases hS with h | h
    · exact .inl ⟨⟨List.not_mem_nil, List.not_mem_nil⟩, h⟩
    · exact .inr (.inr h)
  · rw [e]
    intro μ' v H' _ _ r
    cases (show v = .bl true from r)
    exact q H'
theorem cx_no {P : Program} (w : World) (H : Hp) (s : Shared) (e : Value) (s' : Shared) (h : L2.CX P w [] H s (fun _ _ _ => False) e s') : False := by
  obtain ⟨_, _, _, _, _, _, _, _, _, _, _, _, z⟩ := h
  exact z
/-- the law's promise by its mirror -/
theorem law_fn {P : Program} {w : World} {K : Frag} {mg : Str → Option Value} {base : Heap} {k : Nat} {fa : Addr} {fd : FuncData} {x : Str} {f : List D → Sto → R D} (F : FnOk P w K mg base (L2.CX P w) k fa fd [x] (spM ⟨P, w, K, mg, none, H0⟩ f))
    (math : ∀ ns : List Int, ns.length ≤ 63 → ∃ st, f [.rol (ns.map .int)] [] = .ok (.bl true) st) : FnOk P w K mg base (L2.CX P w) k fa fd [x] (spLaw K) := F.imp (fun vs H Q E => sp_law math vs H Q E)
end Pl

set_option maxHeartbeats 4000000
/-! xs.remove(d), d some data that is in xs -/
namespace Pl
open PySem PySem.Spec PyProof.Rows L2 Hn
open PySem.W (Frag keepIn)
def remD (x : D) (ds : List D) (st : Sto) : R D := match ds with
  | [d] => ofOpt (lstOf st x) fun q => ofOpt (toQ st d) fun p => ofOpt (toPs q.2) fun ps => guardR (SeqAt.shaped p = true ∧ SeqAt.shaped (.list ps) = true) (ofOpt (SeqAt.dataPlace ps p) fun j => .ok .non (st.set q.1 (.lst (q.2.eraseIdx j))))
  | _ => .no
def rRemD (K : Frag) : V → List V → Hp → VK → Prop := fun x xs H Q => ∃ (a : Addr) (vs : List V) (y : V) (d : PyData) (ds : List PyData) (j : Nat), x = .ref a ∧ xs = [y] ∧ H a = some (.lst vs) ∧ DpAll K H vs ds ∧ Dp K H y d ∧ SeqAt.shaped d = true ∧ SeqAt.shaped (.list ds) = true ∧ SeqAt.dataPlace ds d = some j ∧
  Q .non (upd H a (.lst (vs.eraseIdx j)))
theorem mt_remD {X : Cx} {K : Frag} (e : X.K = K) (hu : X.A.units + 65 < cLine) : MtM X "list.remove" (rRemD K) := by
  subst e
  rintro pins s σ H x xs v us Q I rx rxs ⟨a, vs, y, d, ds, j, rfl, rfl, hH, ha, hy, sd, sl, hj, q⟩
  cases rx
  obtain ⟨u, rfl, ru⟩ := rxs.one
  obtain ⟨z, its, n, r, hl, e⟩ := I.lstM hH
  obtain ⟨bs, r1⟩ := Dp.reads I d y u hy ru
  obtain ⟨as, r2⟩ := Dp.readsAll I ds _ its ha r
  refine SeqAt.remove_list_data (vs := its.toArray) (xs := ds) (d := d) (as := as) (bs := bs) (j := j) ⟨_, e, rfl, n, rfl⟩ r2 r1 (PyData.plainAll_of_canLay0 ds (SeqAt.canLay_of_shaped sl)) (PyData.plain_of_canLay0 d (SeqAt.canLay_of_shaped sd)) (room_in_shaped sd hu) hj (by rw [List.size_toArray]; omega) ?_
  refine ⟨.non, _, I.lset (its' := its.eraseIdx j) (t' := s.toks) hH e ?_ (r.eraseIdx j) ?_, rfl, q⟩
  · show its.toArray.eraseIdxIfInBounds j = (its.eraseIdx j).toArray
    rw [List.eraseIdxIfInBounds_toArray]
  · have := len_erase vs j
    omega
section
variable {g : G} {W : WX} {X : Cx} {μ μ1 μ2 : Mu} {H H1 H2 : Hp} {st st1 : Sto} {σ : L2.St} {ρ : Env}
theorem mm_rem : MM g (rRemD g.K) remD := by
  intro W σ μ H st x vs dx ds Q S rx rs p
  unfold remD at p
  split at p
  · obtain ⟨v, rfl, h⟩ := one_at rs
    obtain ⟨⟨n, xs⟩, e, p1⟩ := post_opt p
    obtain ⟨pd, e1, p1⟩ := post_opt p1
    obtain ⟨ps, e2, p1⟩ := post_opt p1
    obtain ⟨hg, p1⟩ := post_guard p1
    obtain ⟨j, e3, p2⟩ := post_opt p1
    obtain ⟨a, ws, rfl, k1, k2, r⟩ := lstOf_at S rx e
    obtain ⟨S2, go⟩ := put_lst S k1 (erase_at r j)
    exact ⟨a, ws, v, pd, ps, j, rfl, rfl, k2, toPs_dp r e2, toQ_dp S h e1, hg.1, hg.2, e3, PostG.done p2 go S2 rfl⟩
  · exact p.elim
end
end Pl

set_option maxHeartbeats 4000000
namespace Pl
open PySem PySem.Spec PyProof.Rows L2 Hn
/-- is_integer(thing) -/
noncomputable def M_is_integer : List D → Sto → R D := mDef 1 1
    (mRet (mAndV (mUn (isiD "int") (mV 0)) (mNotV (mUn (isiD "bool") (mV 0)))))
/-- is_between(thing, least, most) -/
noncomputable def M_is_between : List D → Sto → R D := mDef 3 3
    (mRet (mAndV (mCall M_is_integer (mCons (mV 0) mNil)) (mChain (cmpI fun i j => decide (i ≤ j)) (cmpI fun i j => decide (i ≤ j)) (mV 1) (mV 0) (mV 2))))
/-- is_person(thing, many) -/
noncomputable def M_is_person : List D → Sto → R D := mDef 2 2
    (mRet (mCall M_is_between (mCons (mV 0) (mCons (mC (.int 0)) (mCons (mBin subD (mV 1) (mC (.int 1))) mNil)))))
/-- is_ascending(row) -/
noncomputable def M_is_ascending : List D → Sto → R D := mDef 1 2
    (mRet (mCall allD (mCons (mComp (mItA rng1R (mCons (mBin subD (mCall lenD (mCons (mV 0) mNil)) (mC (.int 1))) mNil)) [1] (.nm 1) mYes (mBin ltD (mBin ixD (mV 0) (mV 1)) (mBin ixD (mV 0) (mBin addD (mV 1) (mC (.int 1)))))) mNil)))
/-- is_pocket(thing, u, many) -/
noncomputable def M_is_pocket : List D → Sto → R D := mDef 3 4
    (mSeq (mIfS (mNot (mTru (mUn (isiD "tuple") (mV 0)))) (mRet (mC (.bl false))) mNext)
    (mRet (mAndV (mCall allD (mCons (mComp (mIt (mV 0)) [3] (.nm 3) mYes (mAndV (mCall M_is_person (mCons (mV 3) (mCons (mV 2) mNil))) (mBin neD (mV 3) (mV 1)))) mNil)) (mCall M_is_ascending (mCons (mV 0) mNil)))))
/-- is_web(thing) -/
noncomputable def M_is_web : List D → Sto → R D := mDef 1 2
    (mSeq (mIfS (mOr (mNot (mTru (mUn (isiD "tuple") (mV 0)))) (mNot (mTst (mChain (cmpI fun i j => decide (i ≤ j)) (cmpI fun i j => decide (i ≤ j)) (mC (.int 1)) (mCall lenD (mCons (mV 0) mNil)) (mC (.int 9)))))) (mRet (mC (.bl false))) mNext)
    (mRet (mCall allD (mCons (mComp (mItA rng1R (mCons (mCall lenD (mCons (mV 0) mNil)) mNil)) [1] (.nm 1) mYes (mCall M_is_pocket (mCons (mBin ixD (mV 0) (mV 1)) (mCons (mV 1) (mCons (mCall lenD (mCons (mV 0) mNil)) mNil))))) mNil))))
/-- check_web(thing) -/
noncomputable def M_check_web : List D → Sto → R D := mDef 1 1
    (mIfS (mNot (mTru (mCall M_is_web (mCons (mV 0) mNil)))) (mRaise0 "NoWeb") mNext)
/-- check_webs(one, other) -/
noncomputable def M_check_webs : List D → Sto → R D := mDef 2 2
    (mSeq (mExpr (mCall M_check_web (mCons (mV 0) mNil)))
    (mIfS (mOr (mNot (mTru (mCall M_is_web (mCons (mV 1) mNil)))) (mTst (mBin neD (mCall lenD (mCons (mV 1) mNil)) (mCall lenD (mCons (mV 0) mNil))))) (mRaise0 "NoWeb") mNext))
/-- steps_from(pockets, start) -/
noncomputable def M_steps_from : List D → Sto → R D := mDef 2 7
    (mSeq (mSet 2 (mDispM [((mV 1), (mC (.int 0)))]))
    (mSeq (mSet 3 (mLst (mCons (mV 1) mNil)))
    (mSeq (mWhile (mTru (mV 3)) (mSeq (mSet 4 (mLstM mNil))
    (mSeq (mFor (mIt (mV 3)) (.nm 5) (mFor (mIt (mBin ixD (mV 0) (mV 5))) (.nm 6) (mIfS (mTst (mBin (inD true) (mV 6) (mV 2))) (mSeq (mPut (mV 2) (mV 6) (mBin addD (mBin ixD (mV 2) (mV 5)) (mC (.int 1))))
    (mExpr (mMeth appD (mV 4) (mCons (mV 6) mNil)))) mNext)))
    (mSet 3 (mV 4)))))
    (mRet (mV 2)))))
/-- found_from(pockets, start) -/
noncomputable def M_found_from : List D → Sto → R D := mDef 2 2
    (mRet (mCall tupleD (mCons (mCall sortedD (mCons (mCall M_steps_from (mCons (mV 0) (mCons (mV 1) mNil))) mNil)) mNil)))
/-- all_found(pockets) -/
noncomputable def M_all_found : List D → Sto → R D := mDef 1 2
    (mRet (mCall tupleD (mCons (mComp (mItA rng1R (mCons (mCall lenD (mCons (mV 0) mNil)) mNil)) [1] (.nm 1) mYes (mCall M_found_from (mCons (mV 0) (mCons (mV 1) mNil)))) mNil)))
/-- finds(web) -/
noncomputable def M_finds : List D → Sto → R D := mDef 1 1
    (mSeq (mExpr (mCall M_check_web (mCons (mV 0) mNil)))
    (mRet (mCall M_all_found (mCons (mV 0) mNil))))
/-- both_ways(pockets) -/
noncomputable def M_both_ways : List D → Sto → R D := mDef 1 5
    (mSeq (mSet 1 (mComp (mIt (mV 0)) [2] (.nm 2) mYes (mCall listM (mCons (mV 2) mNil))))
    (mSeq (mFor (mItA enumR (mCons (mV 0) mNil)) (.tp [(.nm 3), (.nm 2)]) (mFor (mIt (mV 2)) (.nm 4) (mExpr (mMeth appD (mBin ixD (mV 1) (mV 4)) (mCons (mV 3) mNil)))))
    (mRet (mV 1))))
/-- knot_around(u, found) -/
noncomputable def M_knot_around : List D → Sto → R D := mDef 2 3
    (mRet (mCall tupleD (mCons (mComp (mIt (mBin ixD (mV 1) (mV 0))) [2] (.nm 2) (mTst (mBin (inD false) (mV 0) (mBin ixD (mV 1) (mV 2)))) (mV 2)) mNil)))
/-- knots_among(found) -/
noncomputable def M_knots_among : List D → Sto → R D := mDef 1 2
    (mRet (mCall tupleD (mCons (mSortSet (mItA rng1R (mCons (mCall lenD (mCons (mV 0) mNil)) mNil)) [1] (.nm 1) mYes (mCall M_knot_around (mCons (mV 1) (mCons (mV 0) mNil)))) mNil)))
/-- pieces_among(pockets) -/
noncomputable def M_pieces_among : List D → Sto → R D := mDef 1 1
    (mRet (mCall M_knots_among (mCons (mCall M_all_found (mCons (mCall M_both_ways (mCons (mV 0) mNil)) mNil)) mNil)))
/-- joined(row, item) -/
noncomputable def M_joined : List D → Sto → R D := mDef 2 2
    (mSeq (mIfS (mTst (mBin (inD false) (mV 1) (mV 0))) (mRet (mV 0)) mNext)
    (mRet (mCall tupleD (mCons (mCall sortedD (mCons (mLst (mStar (mV 0) (mCons (mV 1) mNil))) mNil)) mNil))))
/-- with_card(web, u, w) -/
noncomputable def M_with_card : List D → Sto → R D := mDef 3 3
    (mRet (mTup (mStar (mSl (mV 0) mNoPart (mPart (mV 1))) (mCons (mCall M_joined (mCons (mBin ixD (mV 0) (mV 1)) (mCons (mV 2) mNil))) (mStar (mSl (mV 0) (mPart (mBin addD (mV 1) (mC (.int 1)))) mNoPart) mNil)))))
/-- first_beyond(one, other) -/
noncomputable def M_first_beyond : List D → Sto → R D := mDef 2 4
    (mSeq (mFor (mItA rng1R (mCons (mCall lenD (mCons (mV 0) mNil)) mNil)) (.nm 2) (mFor (mIt (mBin ixD (mV 0) (mV 2))) (.nm 3) (mIfS (mTst (mBin (inD true) (mV 3) (mBin ixD (mV 1) (mV 2)))) (mRet (mTup (mCons (mV 2) (mCons (mV 3) mNil)))) mNext)))
    (mRet (mC .non)))
/-- news(web, u, allowed) -/
noncomputable def M_news : List D → Sto → R D := mDef 3 5
    (mRet (mComp2 (mIt (mBin ixD (mV 0) (mV 1))) [3, 4] (.nm 3) mYes (mIt (mLst (mStar (mBin ixD (mV 0) (mV 1)) (mCons (mV 1) mNil)))) [4] (.nm 4) (mAnd (mTst (mBin neD (mV 4) (mV 3))) (mAnd (mTst (mBin (inD false) (mV 4) (mBin ixD (mV 2) (mV 3)))) (mTst (mBin (inD true) (mV 4) (mBin ixD (mV 0) (mV 3)))))) (mTup (mCons (mV 3) (mCons (mV 4) mNil)))))
/-- spread(web, allowed) -/
noncomputable def M_spread : List D → Sto → R D := mDef 2 8
    (mSeq (mSet 2 (mLstM mNil))
    (mSeq (mSet 3 (mCall lenD (mCons (mV 0) mNil)))
    (mSeq (mSet 4 (mC .non))
    (mSeq (mWhile (mTst (mBin neD (mV 0) (mV 4))) (mSeq (mSet 4 (mV 0))
    (mFor (mItA rng1R (mCons (mV 3) mNil)) (.nm 5) (mFor (mIt (mCall M_news (mCons (mV 0) (mCons (mV 5) (mCons (mV 1) mNil))))) (.tp [(.nm 6), (.nm 7)]) (mSeq (mAug 2 iaddD (mLst (mCons (mTup (mCons (mC (.str "show")) (mCons (mV 5) (mCons (mV 6) (mCons (mV 7) mNil))))) (mCons (mTup (mCons (mC (.str "come")) (mCons (mV 6) (mCons (mV 7) mNil)))) mNil))))
    (mSet 0 (mCall M_with_card (mCons (mV 0) (mCons (mV 6) (mCons (mV 7) mNil))))))))))
    (mRet (mTup (mCons (mV 2) (mCons (mV 0) mNil))))))))
/-- widened(web, wish) -/
noncomputable def M_widened : List D → Sto → R D := mDef 2 4
    (mSeq (mAsg (.tp [(.nm 2), (.nm 3)]) (mCall M_spread (mCons (mV 0) (mCons (mCall M_all_found (mCons (mV 1) mNil)) mNil))))
    (mRet (mV 3)))
/-- bar(web, wish) -/
noncomputable def M_bar : List D → Sto → R D := mDef 2 4
    (mSeq (mSet 2 (mCall M_first_beyond (mCons (mCall M_all_found (mCons (mV 0) mNil)) (mCons (mCall M_all_found (mCons (mV 1) mNil)) mNil))))
    (mSeq (mIfS (mTst (mBin (isD true) (mV 2) (mC .non))) (mRet (mTup (mCons (mC (.str "found")) (mStar (mV 2) mNil)))) mNext)
    (mSeq (mSet 3 (mCall M_first_beyond (mCons (mV 1) (mCons (mCall M_widened (mCons (mV 0) (mCons (mV 1) mNil))) mNil))))
    (mSeq (mIfS (mTst (mBin (isD true) (mV 3) (mC .non))) (mRet (mTup (mCons (mC (.str "card")) (mStar (mV 3) mNil)))) mNext)
    (mRet (mC .non))))))
/-- is_led(web, wish, turning) -/
noncomputable def M_is_led : List D → Sto → R D := mDef 3 3
    (mSeq (mIfS (mTru (mV 2)) (mRet (mBin eqD (mCall M_pieces_among (mCons (mV 0) mNil)) (mCall M_pieces_among (mCons (mV 1) mNil)))) mNext)
    (mRet (mBin (isD false) (mCall M_bar (mCons (mV 0) (mCons (mV 1) mNil))) (mC .non))))
/-- leads(web, wish, turning) -/
noncomputable def M_leads : List D → Sto → R D := mDef 3 3
    (mSeq (mExpr (mCall M_check_webs (mCons (mV 0) (mCons (mV 1) mNil))))
    (mRet (mCall M_is_led (mCons (mV 0) (mCons (mV 1) (mCons (mV 2) mNil))))))
/-- full(web, wish) -/
noncomputable def M_full : List D → Sto → R D := mDef 2 2
    (mSeq (mExpr (mCall M_check_webs (mCons (mV 0) (mCons (mV 1) mNil))))
    (mSeq (mIfS (mTst (mBin (isD true) (mCall M_first_beyond (mCons (mCall M_all_found (mCons (mV 0) mNil)) (mCons (mCall M_all_found (mCons (mV 1) mNil)) mNil))) (mC .non))) (mRet (mC .non)) mNext)
    (mRet (mCall M_widened (mCons (mV 0) (mCons (mV 1) mNil))))))
/-- lack(web, wish) -/
noncomputable def M_lack : List D → Sto → R D := mDef 2 2
    (mSeq (mExpr (mCall M_check_webs (mCons (mV 0) (mCons (mV 1) mNil))))
    (mRet (mCall M_bar (mCons (mV 0) (mCons (mV 1) mNil)))))
/-- _law_pot(script) -/
noncomputable def M__law_pot : List D → Sto → R D := mDef 1 5
    (mSeq (mSet 1 (mComp (mIt (mSl (mV 0) mNoPart (mPart (mC (.int 63))))) [2] (.nm 2) mYes (mCall intD (mCons (mV 2) mNil))))
    (mSeq (mSet 3 (mCompM (mIt (mV 1)) [2] (.nm 2) (mTst (mBin (cmpI fun i j => decide (j ≤ i)) (mCall absD (mCons (mV 2) mNil)) (mBin powD (mC (.int 10)) (mC (.int 18))))) (mCall absD (mCons (mV 2) mNil))))
    (mSeq (mSet 4 (mBin addD (mComp (mIt (mV 1)) [2] (.nm 2) (mTst (mBin ltD (mCall absD (mCons (mV 2) mNil)) (mBin powD (mC (.int 10)) (mC (.int 18))))) (mBin modD (mCall intD (mCons (mV 2) mNil)) (mC (.int 1000000007)))) (mLst (mCons (mBin addD (mCall lenD (mCons (mV 1) mNil)) (mC (.int 1))) mNil))))
    (mRet (mLstM (mCons (mV 3) (mCons (mV 4) (mCons (mC (.int 0)) (mCons (mBin modD (mCall intD (mCons (mCall sumD (mCons (mV 4) mNil)) mNil)) (mC (.int 999983))) mNil)))))))))
/-- _law_draw(pot, many) -/
noncomputable def M__law_draw : List D → Sto → R D := mDef 2 5
    (mSeq (mSet 2 (mBin ixD (mV 0) (mC (.int 2))))
    (mSeq (mPut (mV 0) (mC (.int 2)) (mBin addD (mV 2) (mC (.int 1))))
    (mSeq (mIfS (mTst (mBin (cmpI fun i j => decide (j < i)) (mCall lenD (mCons (mBin ixD (mV 0) (mC (.int 0))) mNil)) (mC (.int 0)))) (mSeq (mSet 3 (mBin ixD (mBin ixD (mV 0) (mC (.int 0))) (mC (.int 0))))
    (mSeq (mPut (mBin ixD (mV 0) (mC (.int 0))) (mC (.int 0)) (mBin fdivD (mV 3) (mV 1)))
    (mSeq (mIfS (mTst (mBin ltD (mV 3) (mV 1))) (mExpr (mMeth popAtD (mBin ixD (mV 0) (mC (.int 0))) (mCons (mC (.int 0)) mNil))) mNext)
    (mRet (mBin modD (mCall intD (mCons (mV 3) mNil)) (mV 1)))))) mNext)
    (mSeq (mSet 4 (mBin addD (mBin addD (mBin mulD (mBin ixD (mBin ixD (mV 0) (mC (.int 1))) (mBin modD (mCall intD (mCons (mV 2) mNil)) (mCall lenD (mCons (mBin ixD (mV 0) (mC (.int 1))) mNil)))) (mC (.int 7919))) (mBin mulD (mC (.int 104729)) (mV 2))) (mBin mulD (mBin ixD (mV 0) (mC (.int 3))) (mC (.int 31)))))
    (mSeq (mSet 3 (mBin modD (mCall intD (mCons (mBin addD (mBin mulD (mV 4) (mC (.int 48271))) (mC (.int 11))) mNil)) (mC (.int 2147483647))))
    (mSeq (mSet 3 (mBin modD (mCall intD (mCons (mBin mulD (mV 3) (mBin addD (mBin fdivD (mV 3) (mC (.int 1009))) (mC (.int 69621)))) mNil)) (mC (.int 2147483629))))
    (mSeq (mSet 3 (mBin modD (mCall intD (mCons (mBin addD (mBin mulD (mV 3) (mBin addD (mBin fdivD (mV 3) (mC (.int 2003))) (mC (.int 40692)))) (mV 2)) mNil)) (mC (.int 2147483399))))
    (mRet (mBin modD (mCall intD (mCons (mBin fdivD (mV 3) (mC (.int 64))) mNil)) (mV 1))))))))))
/-- _law_pairs(many) -/
noncomputable def M__law_pairs : List D → Sto → R D := mDef 1 4
    (mSeq (mSet 1 (mLstM mNil))
    (mSeq (mFor (mItA rng1R (mCons (mV 0) mNil)) (.nm 2) (mExpr (mMeth extD (mV 1) (mCons (mComp (mItA rng1R (mCons (mV 0) mNil)) [3] (.nm 3) (mTst (mBin neD (mV 3) (mV 2))) (mTup (mCons (mV 2) (mCons (mV 3) mNil)))) mNil))))
    (mRet (mV 1))))
/-- _law_web(cards, many) -/
noncomputable def M__law_web : List D → Sto → R D := mDef 2 4
    (mRet (mCall tupleD (mCons (mComp (mItA rng1R (mCons (mV 1) mNil)) [3] (.nm 3) mYes (mCall tupleD (mCons (mComp (mItA rng1R (mCons (mV 1) mNil)) [2] (.nm 2) (mTst (mBin (inD false) (mTup (mCons (mV 3) (mCons (mV 2) mNil))) (mV 0))) (mV 2)) mNil))) mNil)))
/-- _law_cards(web) -/
noncomputable def M__law_cards : List D → Sto → R D := mDef 1 4
    (mSeq (mSet 1 (mLstM mNil))
    (mSeq (mFor (mItA rng1R (mCons (mCall lenD (mCons (mV 0) mNil)) mNil)) (.nm 2) (mExpr (mMeth extD (mV 1) (mCons (mComp (mIt (mBin ixD (mV 0) (mV 2))) [3] (.nm 3) mYes (mTup (mCons (mV 2) (mCons (mV 3) mNil)))) mNil))))
    (mRet (mV 1))))
/-- _law_drawn_web(hand, many, rare) -/
noncomputable def M__law_drawn_web : List D → Sto → R D := mDef 3 4
    (mRet (mCall M__law_web (mCons (mComp (mIt (mCall M__law_pairs (mCons (mV 1) mNil))) [3] (.nm 3) (mTst (mBin eqD (mCall M__law_draw (mCons (mV 0) (mCons (mV 2) mNil))) (mC (.int 0)))) (mV 3)) (mCons (mV 1) mNil))))
/-- _law_finds(web) -/
noncomputable def M__law_finds : List D → Sto → R D := mDef 1 8
    (mSeq (mSet 1 (mCall lenD (mCons (mV 0) mNil)))
    (mSeq (mSet 2 (mComp (mItA rng1R (mCons (mV 1) mNil)) [3] (.nm 3) mYes (mLstM (mCons (mV 3) mNil))))
    (mSeq (mFor (mItA rng1R (mCons (mV 1) mNil)) (.nm 4) (mFor (mItA rng1R (mCons (mV 1) mNil)) (.nm 3) (mFor (mIt (mCall listD (mCons (mBin ixD (mV 2) (mV 3)) mNil))) (.nm 5) (mExpr (mMeth extD (mBin ixD (mV 2) (mV 3)) (mCons (mComp (mIt (mBin ixD (mV 0) (mV 5))) [6] (.nm 6) (mTst (mBin (inD true) (mV 6) (mBin ixD (mV 2) (mV 3)))) (mV 6)) mNil))))))
    (mRet (mCall tupleD (mCons (mComp (mIt (mV 2)) [7] (.nm 7) mYes (mCall tupleD (mCons (mCall sortedD (mCons (mV 7) mNil)) mNil))) mNil))))))
/-- _law_union(web, letters) -/
noncomputable def M__law_union : List D → Sto → R D := mDef 2 3
    (mSeq (mSet 2 (mBin addD (mCall M__law_cards (mCons (mV 0) mNil)) (mCall listD (mCons (mV 1) mNil))))
    (mRet (mCall M__law_web (mCons (mV 2) (mCons (mCall lenD (mCons (mV 0) mNil)) mNil)))))
/-- _law_done(standing, deed) -/
noncomputable def M__law_done : List D → Sto → R D := mDef 2 7
    (mSeq (mAsg (.tp [(.nm 2), (.nm 3)]) (mV 0))
    (mSeq (mSet 4 (mComp (mIt (mV 2)) [5] (.nm 5) mYes (mCall listM (mCons (mV 5) mNil))))
    (mSeq (mSet 6 (mCall listM (mCons (mV 3) mNil)))
    (mSeq (mIfS (mTst (mBin eqD (mBin ixD (mV 1) (mC (.int 0))) (mC (.str "come")))) (mSeq (mExpr (mMeth remD (mV 6) (mCons (mSl (mV 1) (mPart (mC (.int 1))) mNoPart) mNil)))
    (mExpr (mMeth appD (mBin ixD (mV 4) (mBin ixD (mV 1) (mC (.int 1)))) (mCons (mBin ixD (mV 1) (mC (.int 2))) mNil)))) (mIfS (mTst (mBin eqD (mBin ixD (mV 1) (mC (.int 0))) (mC (.str "turn")))) (mSeq (mExpr (mMeth remD (mBin ixD (mV 4) (mBin ixD (mV 1) (mC (.int 1)))) (mCons (mBin ixD (mV 1) (mC (.int 2))) mNil)))
    (mExpr (mMeth appD (mV 6) (mCons (mTup (mCons (mBin ixD (mV 1) (mC (.int 2))) (mCons (mBin ixD (mV 1) (mC (.int 1))) mNil))) mNil)))) (mSeq (mIfS (mTst (mBin eqD (mBin ixD (mV 1) (mC (.int 0))) (mC (.str "give")))) (mExpr (mMeth remD (mBin ixD (mV 4) (mBin ixD (mV 1) (mC (.int 1)))) (mCons (mBin ixD (mV 1) (mC (.int 3))) mNil))) mNext)
    (mExpr (mMeth appD (mV 6) (mCons (mSl (mV 1) (mPart (mC (.int 2))) mNoPart) mNil))))))
    (mRet (mTup (mCons (mCall tupleD (mCons (mComp (mIt (mV 4)) [5] (.nm 5) mYes (mCall tupleD (mCons (mUn sortSetD (mV 5)) mNil))) mNil)) (mCons (mCall tupleD (mCons (mUn sortSetD (mV 6)) mNil)) mNil))))))))
/-- _law_deeds(standing, turning) -/
noncomputable def M__law_deeds : List D → Sto → R D := mDef 2 9
    (mSeq (mAsg (.tp [(.nm 2), (.nm 3)]) (mV 0))
    (mSeq (mSet 4 (mCompM (mIt (mV 3)) [5] (.nm 5) mYes (mBin addD (mTup (mCons (mC (.str "come")) mNil)) (mV 5))))
    (mSeq (mFor (mItA rng1R (mCons (mCall lenD (mCons (mV 2) mNil)) mNil)) (.nm 6) (mFor (mIt (mBin ixD (mV 2) (mV 6))) (.nm 7) (mSeq (mExpr (mMeth appD (mV 4) (mCons (mTup (mCons (mC (.str "show")) (mCons (mV 6) (mCons (mV 7) (mCons (mV 6) mNil))))) mNil)))
    (mSeq (mFor (mIt (mBin ixD (mV 2) (mV 6))) (.nm 8) (mIfS (mTst (mBin neD (mV 8) (mV 7))) (mExpr (mMeth extD (mV 4) (mCons (mLst (mCons (mTup (mCons (mC (.str "show")) (mCons (mV 6) (mCons (mV 7) (mCons (mV 8) mNil))))) (mCons (mTup (mCons (mC (.str "give")) (mCons (mV 6) (mCons (mV 7) (mCons (mV 8) mNil))))) mNil))) mNil))) mNext))
    (mIfS (mTru (mV 1)) (mExpr (mMeth appD (mV 4) (mCons (mTup (mCons (mC (.str "turn")) (mCons (mV 6) (mCons (mV 7) mNil)))) mNil))) mNext)))))
    (mRet (mV 4)))))
/-- _law_full(web, wish) -/
noncomputable def M__law_full : List D → Sto → R D := mDef 2 10
    (mSeq (mSet 2 (mCall M__law_finds (mCons (mV 1) mNil)))
    (mSeq (mSet 3 (mCall M__law_finds (mCons (mV 0) mNil)))
    (mSeq (mFor (mItA rng1R (mCons (mCall lenD (mCons (mV 0) mNil)) mNil)) (.nm 4) (mIfS (mNot (mTru (mCall allD (mCons (mComp (mIt (mBin ixD (mV 3) (mV 4))) [5] (.nm 5) mYes (mBin (inD false) (mV 5) (mBin ixD (mV 2) (mV 4)))) mNil)))) (mRet (mC .non)) mNext))
    (mSeq (mSet 6 (mCall M__law_cards (mCons (mV 0) mNil)))
    (mSeq (mSet 7 (mC (.bl true)))
    (mSeq (mWhile (mTru (mV 7)) (mSeq (mSet 7 (mC (.bl false)))
    (mFor (mIt (mCall listD (mCons (mV 6) mNil))) (.tp [(.nm 4), (.nm 8)]) (mFor (mIt (mBin addD (mLst (mCons (mV 4) mNil)) (mComp (mIt (mV 6)) [9] (.nm 9) (mTst (mBin eqD (mBin ixD (mV 9) (mC (.int 0))) (mV 4))) (mBin ixD (mV 9) (mC (.int 1)))))) (.nm 5) (mIfS (mAnd (mTst (mBin neD (mV 5) (mV 8))) (mAnd (mTst (mBin (inD true) (mTup (mCons (mV 8) (mCons (mV 5) mNil))) (mV 6))) (mTst (mBin (inD false) (mV 5) (mBin ixD (mV 2) (mV 8)))))) (mSeq (mExpr (mMeth appD (mV 6) (mCons (mTup (mCons (mV 8) (mCons (mV 5) mNil))) mNil)))
    (mSet 7 (mC (.bl true)))) mNext)))))
    (mRet (mCall M__law_web (mCons (mV 6) (mCons (mCall lenD (mCons (mV 0) mNil)) mNil))))))))))
/-- _law_lack(web, wish) -/
noncomputable def M__law_lack : List D → Sto → R D := mDef 2 7
    (mSeq (mPar 2 3 (mCons (mCall M__law_finds (mCons (mV 0) mNil)) (mCons (mCall M__law_finds (mCons (mV 1) mNil)) mNil)))
    (mSeq (mFor (mItA rng1R (mCons (mCall lenD (mCons (mV 0) mNil)) mNil)) (.nm 4) (mFor (mIt (mBin ixD (mV 2) (mV 4))) (.nm 5) (mIfS (mTst (mBin (inD true) (mV 5) (mBin ixD (mV 3) (mV 4)))) (mRet (mTup (mCons (mC (.str "found")) (mCons (mV 4) (mCons (mV 5) mNil))))) mNext)))
    (mSeq (mSet 6 (mCall M__law_full (mCons (mV 0) (mCons (mV 1) mNil))))
    (mSeq (mFor (mItA rng1R (mCons (mCall lenD (mCons (mV 0) mNil)) mNil)) (.nm 4) (mFor (mIt (mBin ixD (mV 1) (mV 4))) (.nm 5) (mIfS (mTst (mBin (inD true) (mV 5) (mBin ixD (mV 6) (mV 4)))) (mRet (mTup (mCons (mC (.str "card")) (mCons (mV 4) (mCons (mV 5) mNil))))) mNext)))
    (mRet (mC .non))))))
/-- _law_wish(hand, web, turning) -/
noncomputable def M__law_wish : List D → Sto → R D := mDef 3 12
    (mSeq (mSet 3 (mCall lenD (mCons (mV 1) mNil)))
    (mSeq (mSet 4 (mCall M__law_draw (mCons (mV 0) (mCons (mC (.int 4)) mNil))))
    (mSeq (mIfS (mTst (mBin eqD (mV 4) (mC (.int 0)))) (mRet (mCall M__law_drawn_web (mCons (mV 0) (mCons (mV 3) (mCons (mBin addD (mC (.int 2)) (mCall M__law_draw (mCons (mV 0) (mCons (mC (.int 3)) mNil)))) mNil))))) mNext)
    (mSeq (mSet 5 (mTup (mCons (mV 1) (mCons (mTup mNil) mNil))))
    (mSeq (mFor (mItA rng1R (mCons (mCall M__law_draw (mCons (mV 0) (mCons (mBin mulD (mC (.int 6)) (mV 3)) mNil))) mNil)) (.nm 6) (mSeq (mSet 7 (mCall M__law_deeds (mCons (mV 5) (mCons (mV 2) mNil))))
    (mIfS (mTst (mBin (cmpI fun i j => decide (j < i)) (mCall lenD (mCons (mV 7) mNil)) (mC (.int 0)))) (mSet 5 (mCall M__law_done (mCons (mV 5) (mCons (mBin ixD (mV 7) (mCall M__law_draw (mCons (mV 0) (mCons (mCall lenD (mCons (mV 7) mNil)) mNil)))) mNil)))) mNext)))
    (mSeq (mSet 8 (mCall M__law_cards (mCons (mCall M__law_union (mCons (mBin ixD (mV 5) (mC (.int 0))) (mCons (mBin ixD (mV 5) (mC (.int 1))) mNil))) mNil)))
    (mSeq (mIfS (mTst (mBin eqD (mV 4) (mC (.int 1)))) (mSeq (mSet 9 (mCall M__law_pairs (mCons (mV 3) mNil)))
    (mIfS (mTst (mBin (cmpI fun i j => decide (j < i)) (mCall lenD (mCons (mV 9) mNil)) (mC (.int 0)))) (mSeq (mSet 10 (mBin ixD (mV 9) (mCall M__law_draw (mCons (mV 0) (mCons (mCall lenD (mCons (mV 9) mNil)) mNil)))))
    (mSet 8 (mBin addD (mComp (mIt (mV 8)) [11] (.nm 11) (mTst (mBin neD (mV 11) (mV 10))) (mV 11)) (mBin mulD (mLst (mCons (mV 10) mNil)) (mCall M__law_draw (mCons (mV 0) (mCons (mC (.int 2)) mNil))))))) mNext)) mNext)
    (mRet (mCall M__law_web (mCons (mV 8) (mCons (mV 3) mNil)))))))))))
/-- _law_shown(hand, web, within) -/
noncomputable def M__law_shown : List D → Sto → R D := mDef 3 10
    (mSeq (mSet 3 (mCall M__law_cards (mCons (mV 1) mNil)))
    (mSeq (mFor (mItA rng1R (mCons (mC (.int 100)) mNil)) (.nm 4) (mSeq (mSet 5 (mLstM mNil))
    (mSeq (mFor (mIt (mV 3)) (.tp [(.nm 6), (.nm 7)]) (mFor (mIt (mBin addD (mLst (mCons (mV 6) mNil)) (mComp (mIt (mV 3)) [9] (.nm 9) (mTst (mBin eqD (mBin ixD (mV 9) (mC (.int 0))) (mV 6))) (mBin ixD (mV 9) (mC (.int 1)))))) (.nm 8) (mIfS (mAnd (mTst (mBin neD (mV 8) (mV 7))) (mAnd (mTst (mBin (inD true) (mTup (mCons (mV 7) (mCons (mV 8) mNil))) (mV 3))) (mTst (mBin (inD false) (mV 8) (mBin ixD (mV 2) (mV 7)))))) (mExpr (mMeth appD (mV 5) (mCons (mTup (mCons (mV 7) (mCons (mV 8) mNil))) mNil))) mNext)))
    (mIfS (mTst (mBin (cmpI fun i j => decide (j < i)) (mCall lenD (mCons (mV 5) mNil)) (mC (.int 0)))) (mExpr (mMeth appD (mV 3) (mCons (mBin ixD (mV 5) (mCall M__law_draw (mCons (mV 0) (mCons (mCall lenD (mCons (mV 5) mNil)) mNil)))) mNil))) mNext))))
    (mRet (mCall M__law_web (mCons (mV 3) (mCons (mCall lenD (mCons (mV 1) mNil)) mNil))))))
/-- law(script) -/
noncomputable def M_law : List D → Sto → R D := mDef 1 13
    (mSeq (mSet 1 (mCall M__law_pot (mCons (mV 0) mNil)))
    (mSeq (mFor (mItA rng1R (mCons (mC (.int 3)) mNil)) (.nm 2) (mSeq (mSet 3 (mBin addD (mC (.int 1)) (mCall M__law_draw (mCons (mV 1) (mCons (mIf (mTst (mBin eqD (mCall M__law_draw (mCons (mV 1) (mCons (mC (.int 4)) mNil))) (mC (.int 0)))) (mC (.int 9)) (mC (.int 5))) mNil)))))
    (mSeq (mSet 4 (mCall M__law_drawn_web (mCons (mV 1) (mCons (mV 3) (mCons (mBin addD (mC (.int 2)) (mCall M__law_draw (mCons (mV 1) (mCons (mC (.int 3)) mNil)))) mNil)))))
    (mSeq (mSet 5 (mCall M__law_wish (mCons (mV 1) (mCons (mV 4) (mCons (mC (.bl false)) mNil)))))
    (mSeq (mSet 6 (mCall M_full (mCons (mV 4) (mCons (mV 5) mNil))))
    (mSeq (mIfS (mOr (mTst (mBin neD (mV 6) (mCall M__law_full (mCons (mV 4) (mCons (mV 5) mNil))))) (mTst (mBin neD (mCall M_lack (mCons (mV 4) (mCons (mV 5) mNil))) (mCall M__law_lack (mCons (mV 4) (mCons (mV 5) mNil)))))) (mRet (mC (.bl false))) mNext)
    (mIfS (mTst (mBin (isD true) (mV 6) (mC .non))) (mSeq (mAsg (.tp [(.nm 7), (.nm 8), (.nm 9)]) (mTup (mCons (mCall M__law_finds (mCons (mV 6) mNil)) (mCons (mCall M__law_finds (mCons (mV 5) mNil)) (mCons (mCall M__law_finds (mCons (mV 4) mNil)) mNil)))))
    (mSeq (mFor (mItA rng1R (mCons (mV 3) mNil)) (.nm 10) (mIfS (mOr (mNot (mTru (mCall allD (mCons (mComp (mIt (mBin ixD (mV 7) (mV 10))) [11] (.nm 11) mYes (mBin (inD false) (mV 11) (mBin ixD (mV 8) (mV 10)))) mNil)))) (mNot (mTru (mCall allD (mCons (mComp (mIt (mBin ixD (mV 9) (mV 10))) [11] (.nm 11) mYes (mBin (inD false) (mV 11) (mBin ixD (mV 7) (mV 10)))) mNil))))) (mRet (mC (.bl false))) mNext))
    (mSeq (mIfS (mAnd (mTst (mBin ltD (mV 3) (mC (.int 6)))) (mTst (mBin neD (mCall M__law_shown (mCons (mV 1) (mCons (mV 4) (mCons (mV 8) mNil)))) (mV 6)))) (mRet (mC (.bl false))) mNext)
    (mSeq (mIfS (mOr (mTst (mBin neD (mCall M_full (mCons (mV 6) (mCons (mV 5) mNil))) (mV 6))) (mTst (mBin neD (mCall M_finds (mCons (mV 6) mNil)) (mV 7)))) (mRet (mC (.bl false))) mNext)
    (mIfS (mTst (mBin (isD false) (mCall M_lack (mCons (mV 4) (mCons (mV 5) mNil))) (mC .non))) (mSeq (mSet 12 (mCall M_full (mCons (mV 5) (mCons (mV 5) mNil))))
    (mIfS (mOr (mTst (mBin (isBD true) (mCall M_leads (mCons (mV 4) (mCons (mV 12) (mCons (mC (.bl false)) mNil)))) (mC (.bl true)))) (mTst (mBin neD (mCall M_full (mCons (mV 4) (mCons (mV 12) mNil))) (mV 6)))) (mRet (mC (.bl false))) mNext)) mNext))))) mNext)))))))
    (mRet (mC (.bl true)))))
end Pl

set_option maxHeartbeats 4000000
namespace Lw
open PySem PySem.Spec PyProof.Rows L2 EF Hn Pl
open PySem.W (Frag keepIn)
def top (i : Nat) : Stmt := PySem.Challenge.pw_stillfound_k16_whole_full_webs_and_lacks.main.body.getD i (.Pass ⟨0, 0, 0, 0⟩)
abbrev sis_integer : Stmt := top 4
abbrev Nis_integer : List Str := ["thing"]
theorem scis_integer : FnScope Nis_integer ["thing"] (defScope sis_integer) := ⟨rfl, rfl, rfl, by decide +kernel, rfl, by decide +kernel, by decide +kernel⟩
abbrev sis_between : Stmt := top 5
abbrev Nis_between : List Str := ["thing", "least", "most"]
theorem scis_between : FnScope Nis_between ["thing", "least", "most"] (defScope sis_between) := ⟨rfl, rfl, rfl, by decide +kernel, rfl, by decide +kernel, by decide +kernel⟩
abbrev sis_person : Stmt := top 6
abbrev Nis_person : List Str := ["thing", "many"]
theorem scis_person : FnScope Nis_person ["thing", "many"] (defScope sis_person) := ⟨rfl, rfl, rfl, by decide +kernel, rfl, by decide +kernel, by decide +kernel⟩
abbrev sis_ascending : Stmt := top 7
abbrev Nis_ascending : List Str := ["row", "k"]
theorem scis_ascending : FnScope Nis_ascending ["row"] (defScope sis_ascending) := ⟨rfl, rfl, rfl, by decide +kernel, rfl, by decide +kernel, by decide +kernel⟩
abbrev sis_pocket : Stmt := top 11
abbrev Nis_pocket : List Str := ["thing", "u", "many", "w"]
theorem scis_pocket : FnScope Nis_pocket ["thing", "u", "many"] (defScope sis_pocket) := ⟨rfl, rfl, rfl, by decide +kernel, rfl, by decide +kernel, by decide +kernel⟩
abbrev sis_web : Stmt := top 10
abbrev Nis_web : List Str := ["thing", "u"]
theorem scis_web : FnScope Nis_web ["thing"] (defScope sis_web) := ⟨rfl, rfl, rfl, by decide +kernel, rfl, by decide +kernel, by decide +kernel⟩
abbrev scheck_web : Stmt := top 12
abbrev Ncheck_web : List Str := ["thing"]
theorem sccheck_web : FnScope Ncheck_web ["thing"] (defScope scheck_web) := ⟨rfl, rfl, rfl, by decide +kernel, rfl, by decide +kernel, by decide +kernel⟩
abbrev scheck_webs : Stmt := top 13
abbrev Ncheck_webs : List Str := ["one", "other"]
theorem sccheck_webs : FnScope Ncheck_webs ["one", "other"] (defScope scheck_webs) := ⟨rfl, rfl, rfl, by decide +kernel, rfl, by decide +kernel, by decide +kernel⟩
abbrev ssteps_from : Stmt := top 15
abbrev Nsteps_from : List Str := ["pockets", "start", "steps", "last", "further", "u", "w"]
theorem scsteps_from : FnScope Nsteps_from ["pockets", "start"] (defScope ssteps_from) := ⟨rfl, rfl, rfl, by decide +kernel, rfl, by decide +kernel, by decide +kernel⟩
abbrev sfound_from : Stmt := top 16
abbrev Nfound_from : List Str := ["pockets", "start"]
theorem scfound_from : FnScope Nfound_from ["pockets", "start"] (defScope sfound_from) := ⟨rfl, rfl, rfl, by decide +kernel, rfl, by decide +kernel, by decide +kernel⟩
abbrev sall_found : Stmt := top 17
abbrev Nall_found : List Str := ["pockets", "u"]
theorem scall_found : FnScope Nall_found ["pockets"] (defScope sall_found) := ⟨rfl, rfl, rfl, by decide +kernel, rfl, by decide +kernel, by decide +kernel⟩
abbrev sfinds : Stmt := top 14
abbrev Nfinds : List Str := ["web"]
theorem scfinds : FnScope Nfinds ["web"] (defScope sfinds) := ⟨rfl, rfl, rfl, by decide +kernel, rfl, by decide +kernel, by decide +kernel⟩
abbrev sboth_ways : Stmt := top 18
abbrev Nboth_ways : List Str := ["pockets", "linked", "pocket", "u", "w"]
theorem scboth_ways : FnScope Nboth_ways ["pockets"] (defScope sboth_ways) := ⟨rfl, rfl, rfl, by decide +kernel, rfl, by decide +kernel, by decide +kernel⟩
abbrev sknot_around : Stmt := top 21
abbrev Nknot_around : List Str := ["u", "found", "w"]
theorem scknot_around : FnScope Nknot_around ["u", "found"] (defScope sknot_around) := ⟨rfl, rfl, rfl, by decide +kernel, rfl, by decide +kernel, by decide +kernel⟩
abbrev sknots_among : Stmt := top 20
abbrev Nknots_among : List Str := ["found", "u"]
theorem scknots_among : FnScope Nknots_among ["found"] (defScope sknots_among) := ⟨rfl, rfl, rfl, by decide +kernel, rfl, by decide +kernel, by decide +kernel⟩
abbrev spieces_among : Stmt := top 19
abbrev Npieces_among : List Str := ["pockets"]
theorem scpieces_among : FnScope Npieces_among ["pockets"] (defScope spieces_among) := ⟨rfl, rfl, rfl, by decide +kernel, rfl, by decide +kernel, by decide +kernel⟩
abbrev sjoined : Stmt := top 24
abbrev Njoined : List Str := ["row", "item"]
theorem scjoined : FnScope Njoined ["row", "item"] (defScope sjoined) := ⟨rfl, rfl, rfl, by decide +kernel, rfl, by decide +kernel, by decide +kernel⟩
abbrev swith_card : Stmt := top 23
abbrev Nwith_card : List Str := ["web", "u", "w"]
theorem scwith_card : FnScope Nwith_card ["web", "u", "w"] (defScope swith_card) := ⟨rfl, rfl, rfl, by decide +kernel, rfl, by decide +kernel, by decide +kernel⟩
abbrev sfirst_beyond : Stmt := top 31
abbrev Nfirst_beyond : List Str := ["one", "other", "u", "w"]
theorem scfirst_beyond : FnScope Nfirst_beyond ["one", "other"] (defScope sfirst_beyond) := ⟨rfl, rfl, rfl, by decide +kernel, rfl, by decide +kernel, by decide +kernel⟩
abbrev snews : Stmt := top 34
abbrev Nnews : List Str := ["web", "u", "allowed", "v", "w"]
theorem scnews : FnScope Nnews ["web", "u", "allowed"] (defScope snews) := ⟨rfl, rfl, rfl, by decide +kernel, rfl, by decide +kernel, by decide +kernel⟩
abbrev sspread : Stmt := top 33
abbrev Nspread : List Str := ["web", "allowed", "row", "many", "before", "u", "v", "w"]
theorem scspread : FnScope Nspread ["web", "allowed"] (defScope sspread) := ⟨rfl, rfl, rfl, by decide +kernel, rfl, by decide +kernel, by decide +kernel⟩
abbrev swidened : Stmt := top 32
abbrev Nwidened : List Str := ["web", "wish", "_", "widest"]
theorem scwidened : FnScope Nwidened ["web", "wish"] (defScope swidened) := ⟨rfl, rfl, rfl, by decide +kernel, rfl, by decide +kernel, by decide +kernel⟩
abbrev sbar : Stmt := top 30
abbrev Nbar : List Str := ["web", "wish", "lost", "missing"]
theorem scbar : FnScope Nbar ["web", "wish"] (defScope sbar) := ⟨rfl, rfl, rfl, by decide +kernel, rfl, by decide +kernel, by decide +kernel⟩
abbrev sis_led : Stmt := top 29
abbrev Nis_led : List Str := ["web", "wish", "turning"]
theorem scis_led : FnScope Nis_led ["web", "wish", "turning"] (defScope sis_led) := ⟨rfl, rfl, rfl, by decide +kernel, rfl, by decide +kernel, by decide +kernel⟩
abbrev sleads : Stmt := top 26
abbrev Nleads : List Str := ["web", "wish", "turning"]
theorem scleads : FnScope Nleads ["web", "wish", "turning"] (defScope sleads) := ⟨rfl, rfl, rfl, by decide +kernel, rfl, by decide +kernel, by decide +kernel⟩
abbrev sfull : Stmt := top 27
abbrev Nfull : List Str := ["web", "wish"]
theorem scfull : FnScope Nfull ["web", "wish"] (defScope sfull) := ⟨rfl, rfl, rfl, by decide +kernel, rfl, by decide +kernel, by decide +kernel⟩
abbrev slack : Stmt := top 28
abbrev Nlack : List Str := ["web", "wish"]
theorem sclack : FnScope Nlack ["web", "wish"] (defScope slack) := ⟨rfl, rfl, rfl, by decide +kernel, rfl, by decide +kernel, by decide +kernel⟩
abbrev s_law_pot : Stmt := top 36
abbrev N_law_pot : List Str := ["script", "cells", "item", "greats", "smalls"]
theorem sc_law_pot : FnScope N_law_pot ["script"] (defScope s_law_pot) := ⟨rfl, rfl, rfl, by decide +kernel, rfl, by decide +kernel, by decide +kernel⟩
abbrev s_law_draw : Stmt := top 37
abbrev N_law_draw : List Str := ["pot", "many", "turn", "number", "seed"]
theorem sc_law_draw : FnScope N_law_draw ["pot", "many"] (defScope s_law_draw) := ⟨rfl, rfl, rfl, by decide +kernel, rfl, by decide +kernel, by decide +kernel⟩
abbrev s_law_pairs : Stmt := top 38
abbrev N_law_pairs : List Str := ["many", "found", "u", "w"]
theorem sc_law_pairs : FnScope N_law_pairs ["many"] (defScope s_law_pairs) := ⟨rfl, rfl, rfl, by decide +kernel, rfl, by decide +kernel, by decide +kernel⟩
abbrev s_law_web : Stmt := top 39
abbrev N_law_web : List Str := ["cards", "many", "w", "u"]
theorem sc_law_web : FnScope N_law_web ["cards", "many"] (defScope s_law_web) := ⟨rfl, rfl, rfl, by decide +kernel, rfl, by decide +kernel, by decide +kernel⟩
abbrev s_law_cards : Stmt := top 40
abbrev N_law_cards : List Str := ["web", "found", "u", "w"]
theorem sc_law_cards : FnScope N_law_cards ["web"] (defScope s_law_cards) := ⟨rfl, rfl, rfl, by decide +kernel, rfl, by decide +kernel, by decide +kernel⟩
abbrev s_law_drawn_web : Stmt := top 41
abbrev N_law_drawn_web : List Str := ["hand", "many", "rare", "pair"]
theorem sc_law_drawn_web : FnScope N_law_drawn_web ["hand", "many", "rare"] (defScope s_law_drawn_web) := ⟨rfl, rfl, rfl, by decide +kernel, rfl, by decide +kernel, by decide +kernel⟩
abbrev s_law_finds : Stmt := top 42
abbrev N_law_finds : List Str := ["web", "many", "found", "u", "turn", "w", "x", "lot"]
theorem sc_law_finds : FnScope N_law_finds ["web"] (defScope s_law_finds) := ⟨rfl, rfl, rfl, by decide +kernel, rfl, by decide +kernel, by decide +kernel⟩
abbrev s_law_union : Stmt := top 43
abbrev N_law_union : List Str := ["web", "letters", "cards"]
theorem sc_law_union : FnScope N_law_union ["web", "letters"] (defScope s_law_union) := ⟨rfl, rfl, rfl, by decide +kernel, rfl, by decide +kernel, by decide +kernel⟩
abbrev s_law_done : Stmt := top 44
abbrev N_law_done : List Str := ["standing", "deed", "web", "letters", "pockets", "pocket", "left"]
theorem sc_law_done : FnScope N_law_done ["standing", "deed"] (defScope s_law_done) := ⟨rfl, rfl, rfl, by decide +kernel, rfl, by decide +kernel, by decide +kernel⟩
abbrev s_law_deeds : Stmt := top 45
abbrev N_law_deeds : List Str := ["standing", "turning", "web", "letters", "found", "letter", "u", "v", "w"]
theorem sc_law_deeds : FnScope N_law_deeds ["standing", "turning"] (defScope s_law_deeds) := ⟨rfl, rfl, rfl, by decide +kernel, rfl, by decide +kernel, by decide +kernel⟩
abbrev s_law_full : Stmt := top 46
abbrev N_law_full : List Str := ["web", "wish", "within", "here", "u", "w", "cards", "again", "v", "pair"]
theorem sc_law_full : FnScope N_law_full ["web", "wish"] (defScope s_law_full) := ⟨rfl, rfl, rfl, by decide +kernel, rfl, by decide +kernel, by decide +kernel⟩
abbrev s_law_lack : Stmt := top 47
abbrev N_law_lack : List Str := ["web", "wish", "here", "there", "u", "w", "whole"]
theorem sc_law_lack : FnScope N_law_lack ["web", "wish"] (defScope s_law_lack) := ⟨rfl, rfl, rfl, by decide +kernel, rfl, by decide +kernel, by decide +kernel⟩
abbrev s_law_wish : Stmt := top 48
abbrev N_law_wish : List Str := ["hand", "web", "turning", "many", "kind", "standing", "turn", "some", "cards", "pairs", "pair", "one"]
theorem sc_law_wish : FnScope N_law_wish ["hand", "web", "turning"] (defScope s_law_wish) := ⟨rfl, rfl, rfl, by decide +kernel, rfl, by decide +kernel, by decide +kernel⟩
abbrev s_law_shown : Stmt := top 49
abbrev N_law_shown : List Str := ["hand", "web", "within", "cards", "turn", "some", "u", "v", "w", "pair"]
theorem sc_law_shown : FnScope N_law_shown ["hand", "web", "within"] (defScope s_law_shown) := ⟨rfl, rfl, rfl, by decide +kernel, rfl, by decide +kernel, by decide +kernel⟩
abbrev slaw : Stmt := top 50
abbrev Nlaw : List Str := ["script", "hand", "turn", "many", "web", "wish", "told", "here", "there", "ahead", "u", "w", "whole"]
theorem sclaw : FnScope Nlaw ["script"] (defScope slaw) := ⟨rfl, rfl, rfl, by decide +kernel, rfl, by decide +kernel, by decide +kernel⟩
abbrev KM (P : Program) (w : World) (K : Frag) (mg : Str → Option Value) (base : Heap) (k : Nat) (x : Str) (ps : List Str) (f : List D → Sto → R D) : Prop := ∀ h0 : Hp, KeptM ⟨P, w, K, mg, none, h0⟩ base k x ps f
section
variable {P : Program} {w : World} {K : Frag} {mg : Str → Option Value} {base : Heap}
theorem K_is_integer (B : Bl mg) (B2 : Bl2 mg) (D : Dfn K mg "is_integer" sis_integer ["thing"]) : KM P w K mg base 1 "is_integer" ["thing"] M_is_integer := fun h0 =>
  Dfn.keptM (N := Nis_integer) (k := 0) (h0 := h0) D scis_integer fun f cdv A ou s H E hr => by
    have tk := takes_of (X := cxOf (L2.CX P w) P w K mg base Nis_integer "is_integer" (defScope sis_integer) f cdv A ou s H E) (E := E) rfl rfl rfl rfl
    have hx := passAt tk
    exact (pms_one (pms_ret (pm_and (pm_isi rfl (by rfl) B.b_isinstance (by decide +kernel) (pm_v (pv 0)) (pe_bltn (v := .ty "int") (by rfl) B.b_int (by decide +kernel) rfl)) (pm_one (pm_not (pm_isi rfl (by rfl) B.b_isinstance (by decide +kernel) (pm_v (pv 0)) (pe_bltn (v := .ty "bool") (by rfl) B.b_bool (by decide +kernel) rfl)))))))
theorem K_is_between (B : Bl mg) (B2 : Bl2 mg) (D : Dfn K mg "is_between" sis_between ["thing", "least", "most"]) (Gis_integer : KM P w K mg base 1 "is_integer" ["thing"] M_is_integer) : KM P w K mg base 2 "is_between" ["thing", "least", "most"] M_is_between := fun h0 =>
  Dfn.keptM (N := Nis_between) (k := 1) (h0 := h0) D scis_between fun f cdv A ou s H E hr => by
    have tk := takes_of (X := cxOf (L2.CX P w) P w K mg base Nis_between "is_between" (defScope sis_between) f cdv A ou s H E) (E := E) rfl rfl rfl rfl
    have hx := passAt tk
    exact (pms_one (pms_ret (pm_and (pm_call (Gis_integer H) rfl rfl rfl rfl rfl (hr.mono (by decide)) (by rfl) hx (pma_cons (pm_v (pv 0)) pma_nil)) (pm_one (pm_chain op_le (om_cmpI _) op_le (om_cmpI _) (pm_v (pv 1)) (pm_v (pv 0)) (pm_v (pv 2)))))))
theorem K_is_person (B : Bl mg) (B2 : Bl2 mg) (D : Dfn K mg "is_person" sis_person ["thing", "many"]) (Gis_between : KM P w K mg base 2 "is_between" ["thing", "least", "most"] M_is_between) : KM P w K mg base 3 "is_person" ["thing", "many"] M_is_person := fun h0 =>
  Dfn.keptM (N := Nis_person) (k := 2) (h0 := h0) D scis_person fun f cdv A ou s H E hr => by
    have tk := takes_of (X := cxOf (L2.CX P w) P w K mg base Nis_person "is_person" (defScope sis_person) f cdv A ou s H E) (E := E) rfl rfl rfl rfl
    have hx := passAt tk
    exact (pms_one (pms_ret (pm_call (Gis_between H) rfl rfl rfl rfl rfl (hr.mono (by decide)) (by rfl) hx (pma_cons (pm_v (pv 0)) (pma_cons (pm_c (.int 0) pe_int (fun _ _ => rfl)) (pma_cons (pm_sub (pm_v (pv 1)) (pm_c (.int 1) pe_int (fun _ _ => rfl))) pma_nil))))))
theorem K_is_ascending (B : Bl mg) (B2 : Bl2 mg) (D : Dfn K mg "is_ascending" sis_ascending ["row"]) : KM P w K mg base 1 "is_ascending" ["row"] M_is_ascending := fun h0 =>
  Dfn.keptM (N := Nis_ascending) (k := 0) (h0 := h0) D scis_ascending fun f cdv A ou s H E hr => by
    have tk := takes_of (X := cxOf (L2.CX P w) P w K mg base Nis_ascending "is_ascending" (defScope sis_ascending) f cdv A ou s H E) (E := E) rfl rfl rfl rfl
    have hx := passAt tk
    exact (pms_one (pms_ret (pm_callB (allK rfl rfl) cm_all (by rfl) B.b_all (by decide +kernel) (pma_cons (pm_lc (own := [("k", 1)]) (by rfl) scis_ascending.nd (pmi_range1 (by rfl) B.b_range (pma_cons (pm_sub (pm_callB (call_lenA rfl) cm_len (by rfl) B.b_len PySem.boot_len (pma_cons (pm_v (pv 0)) pma_nil)) (pm_c (.int 1) pe_int (fun _ _ => rfl))) pma_nil)) (blkOk_by (own := [("k", 1)]) (N := Nis_ascending) (sc := defScope sis_ascending) (by decide +kernel)) (by decide) (fun _ _ _ _ _ => (pg_nm (pg_name (i := 1) scis_ascending.nd rfl (Or.inl rfl)))) (fun _ _ _ _ _ => pts_none) (fun _ _ _ _ _ => (pm_cmp (op_ltA rfl (hr.units0)) om_lt (pm_ix rfl (hu65 hr) (pm_v (pv 0)) (pm_v (pv 1)) (fun _ _ => rfl) (fun _ _ => rfl)) (pm_ix rfl (hu65 hr) (pm_v (pv 0)) (pm_add rfl (pm_v (pv 1)) (pm_c (.int 1) pe_int (fun _ _ => rfl))) (fun _ _ => rfl) (fun _ _ => rfl)) (nomark _)))) pma_nil))))
theorem K_is_pocket (B : Bl mg) (B2 : Bl2 mg) (D : Dfn K mg "is_pocket" sis_pocket ["thing", "u", "many"]) (Gis_person : KM P w K mg base 3 "is_person" ["thing", "many"] M_is_person) (Gis_ascending : KM P w K mg base 1 "is_ascending" ["row"] M_is_ascending) : KM P w K mg base 4 "is_pocket" ["thing", "u", "many"] M_is_pocket := fun h0 =>
  Dfn.keptM (N := Nis_pocket) (k := 3) (h0 := h0) D scis_pocket fun f cdv A ou s H E hr => by
    have tk := takes_of (X := cxOf (L2.CX P w) P w K mg base Nis_pocket "is_pocket" (defScope sis_pocket) f cdv A ou s H E) (E := E) rfl rfl rfl rfl
    have hx := passAt tk
    exact (pms_cons (pms_if (pmt_not (pmt_truth rfl (pm_isi rfl (by rfl) B.b_isinstance (by decide +kernel) (pm_v (pv 0)) (pe_bltn (v := .ty "tuple") (by rfl) B.b_tuple (by decide +kernel) rfl)) (by intro _; rfl))) (pms_one (pms_ret (pm_c (.bl false) pe_bl (fun _ _ => rfl)))) pms_nil)
      (pms_one (pms_ret (pm_and (pm_callB (allK rfl rfl) cm_all (by rfl) B.b_all (by decide +kernel) (pma_cons (pm_lc (own := [("w", 3)]) (by rfl) scis_pocket.nd (pmi_seq rfl (pm_v (pv 0))) (blkOk_by (own := [("w", 3)]) (N := Nis_pocket) (sc := defScope sis_pocket) (by decide +kernel)) (by decide) (fun _ _ _ _ _ => (pg_nm (pg_name (i := 3) scis_pocket.nd rfl (Or.inl rfl)))) (fun _ _ _ _ _ => pts_none) (fun _ _ _ _ _ => (pm_and (pm_call (Gis_person H) rfl rfl rfl rfl rfl (hr.mono (by decide)) (by rfl) passNo (pma_cons (pm_v (pv 3)) (pma_cons (pm_v (pv 2)) pma_nil))) (pm_one (pm_cmp (op_neA rfl (hu65 hr)) om_ne (pm_v (pv 3)) (pm_v (pv 1)) (nomark _)))))) pma_nil)) (pm_one (pm_call (Gis_ascending H) rfl rfl rfl rfl rfl (hr.mono (by decide)) (by rfl) hx (pma_cons (pm_v (pv 0)) pma_nil)))))))
theorem K_is_web (B : Bl mg) (B2 : Bl2 mg) (D : Dfn K mg "is_web" sis_web ["thing"]) (Gis_pocket : KM P w K mg base 4 "is_pocket" ["thing", "u", "many"] M_is_pocket) {tkMOST_PEOPLE : Tok} (cMOST_PEOPLE : mg "MOST_PEOPLE" = some (.int 9 tkMOST_PEOPLE)) : KM P w K mg base 5 "is_web" ["thing"] M_is_web := fun h0 =>
  Dfn.keptM (N := Nis_web) (k := 4) (h0 := h0) D scis_web fun f cdv A ou s H E hr => by
    have tk := takes_of (X := cxOf (L2.CX P w) P w K mg base Nis_web "is_web" (defScope sis_web) f cdv A ou s H E) (E := E) rfl rfl rfl rfl
    have hx := passAt tk
    exact (pms_cons (pms_if (pmt_w (pmw_or (pmt_not (pmt_truth rfl (pm_isi rfl (by rfl) B.b_isinstance (by decide +kernel) (pm_v (pv 0)) (pe_bltn (v := .ty "tuple") (by rfl) B.b_tuple (by decide +kernel) rfl)) (by intro _; rfl))) (pmw_or1 (pmt_not (pmt_chain op_le (om_cmpI _) op_le (om_cmpI _) (pm_c (.int 1) pe_int (fun _ _ => rfl)) (pm_callB (call_lenA rfl) cm_len (by rfl) B.b_len PySem.boot_len (pma_cons (pm_v (pv 0)) pma_nil)) (pm_c (.int 9) (pe_glob (v := (.int 9)) (by rfl) cMOST_PEOPLE ⟨_, rfl⟩) (fun _ _ => rfl))))))) (pms_one (pms_ret (pm_c (.bl false) pe_bl (fun _ _ => rfl)))) pms_nil)
      (pms_one (pms_ret (pm_callB (allK rfl rfl) cm_all (by rfl) B.b_all (by decide +kernel) (pma_cons (pm_lc (own := [("u", 1)]) (by rfl) scis_web.nd (pmi_range1 (by rfl) B.b_range (pma_cons (pm_callB (call_lenA rfl) cm_len (by rfl) B.b_len PySem.boot_len (pma_cons (pm_v (pv 0)) pma_nil)) pma_nil)) (blkOk_by (own := [("u", 1)]) (N := Nis_web) (sc := defScope sis_web) (by decide +kernel)) (by decide) (fun _ _ _ _ _ => (pg_nm (pg_name (i := 1) scis_web.nd rfl (Or.inl rfl)))) (fun _ _ _ _ _ => pts_none) (fun _ _ _ _ _ => (pm_call (Gis_pocket H) rfl rfl rfl rfl rfl (hr.mono (by decide)) (by rfl) passNo (pma_cons (pm_ix rfl (hu65 hr) (pm_v (pv 0)) (pm_v (pv 1)) (fun _ _ => rfl) (fun _ _ => rfl)) (pma_cons (pm_v (pv 1)) (pma_cons (pm_callB (call_lenA rfl) cm_len (by rfl) B.b_len PySem.boot_len (pma_cons (pm_v (pv 0)) pma_nil)) pma_nil)))))) pma_nil)))))
theorem K_check_web (B : Bl mg) (B2 : Bl2 mg) (D : Dfn K mg "check_web" scheck_web ["thing"]) (Gis_web : KM P w K mg base 5 "is_web" ["thing"] M_is_web) {CNoWeb : Addr} (ENoWeb : Err K mg "NoWeb" CNoWeb) : KM P w K mg base 6 "check_web" ["thing"] M_check_web := fun h0 =>
  Dfn.keptM (N := Ncheck_web) (k := 5) (h0 := h0) D sccheck_web fun f cdv A ou s H E hr => by
    have tk := takes_of (X := cxOf (L2.CX P w) P w K mg base Ncheck_web "check_web" (defScope scheck_web) f cdv A ou s H E) (E := E) rfl rfl rfl rfl
    have hx := passAt tk
    exact (pms_one (pms_if (pmt_not (pmt_truth rfl (pm_call (Gis_web H) rfl rfl rfl rfl rfl (hr.mono (by decide)) (by rfl) hx (pma_cons (pm_v (pv 0)) pma_nil)) (by intro _; rfl))) (pms_one (pms_raise0 ENoWeb rfl rfl tk (by rfl))) pms_nil))
theorem K_check_webs (B : Bl mg) (B2 : Bl2 mg) (D : Dfn K mg "check_webs" scheck_webs ["one", "other"]) (Gis_web : KM P w K mg base 5 "is_web" ["thing"] M_is_web) (Gcheck_web : KM P w K mg base 6 "check_web" ["thing"] M_check_web) {CNoWeb : Addr} (ENoWeb : Err K mg "NoWeb" CNoWeb) : KM P w K mg base 7 "check_webs" ["one", "other"] M_check_webs := fun h0 =>
  Dfn.keptM (N := Ncheck_webs) (k := 6) (h0 := h0) D sccheck_webs fun f cdv A ou s H E hr => by
    have tk := takes_of (X := cxOf (L2.CX P w) P w K mg base Ncheck_webs "check_webs" (defScope scheck_webs) f cdv A ou s H E) (E := E) rfl rfl rfl rfl
    have hx := passAt tk
    exact (pms_cons (pms_expr (pm_call (Gcheck_web H) rfl rfl rfl rfl rfl (hr.mono (by decide)) (by rfl) hx (pma_cons (pm_v (pv 0)) pma_nil)))
      (pms_one (pms_if (pmt_w (pmw_or (pmt_not (pmt_truth rfl (pm_call (Gis_web H) rfl rfl rfl rfl rfl (hr.mono (by decide)) (by rfl) hx (pma_cons (pm_v (pv 1)) pma_nil)) (by intro _; rfl))) (pmw_or1 (pmt_cmp (op_neA rfl (hu65 hr)) om_ne (pm_callB (call_lenA rfl) cm_len (by rfl) B.b_len PySem.boot_len (pma_cons (pm_v (pv 1)) pma_nil)) (pm_callB (call_lenA rfl) cm_len (by rfl) B.b_len PySem.boot_len (pma_cons (pm_v (pv 0)) pma_nil)) (nomark _))))) (pms_one (pms_raise0 ENoWeb rfl rfl tk (by rfl))) pms_nil)))
theorem K_steps_from (B : Bl mg) (B2 : Bl2 mg) (D : Dfn K mg "steps_from" ssteps_from ["pockets", "start"]) : KM P w K mg base 1 "steps_from" ["pockets", "start"] M_steps_from := fun h0 =>
  Dfn.keptM (N := Nsteps_from) (k := 0) (h0 := h0) D scsteps_from fun f cdv A ou s H E hr => by
    have tk := takes_of (X := cxOf (L2.CX P w) P w K mg base Nsteps_from "steps_from" (defScope ssteps_from) f cdv A ou s H E) (E := E) rfl rfl rfl rfl
    have hx := passAt tk
    exact (pms_cons (pms_set (i := 2) scsteps_from.nd rfl (Or.inl rfl) (pm_dispM (ps := [((mV 1), (mC (.int 0)))]) (pps_cons (pm_v (pv 1)) (pm_c (.int 0) pe_int (fun _ _ => rfl)) pps_nil) (by rfl) (by rfl) (fun z => by cases z) (by decide)))
      (pms_cons (pms_set (i := 3) scsteps_from.nd rfl (Or.inl rfl) (pm_lst (pma_cons (pm_v (pv 1)) pma_nil)))
      (pms_cons (pms_while (passes_of rfl) (pmt_truth rfl (pm_v (pv 3)) (by intro _; rfl)) (pms_cons (pms_set (i := 4) scsteps_from.nd rfl (Or.inl rfl) (pm_lstM pma_nil))
      (pms_cons (pms_for (passes_of rfl) rfl (pmi_seq rfl (pm_v (pv 3))) (pg_nm (pg_name (i := 5) scsteps_from.nd rfl (Or.inl rfl))) (pms_one (pms_for (passes_of rfl) rfl (pmi_seq rfl (pm_ix rfl (hu65 hr) (pm_v (pv 0)) (pm_v (pv 5)) (fun _ _ => rfl) (fun _ _ => rfl))) (pg_nm (pg_name (i := 6) scsteps_from.nd rfl (Or.inl rfl))) (pms_one (pms_if (pmt_cmp (op_ninA rfl (hu65 hr)) (om_in true) (pm_v (pv 6)) (pm_v (pv 2)) (by rfl)) (pms_cons (pms_put (hu65 hr) (pm_v (pv 2)) (pm_v (pv 6)) (pm_add rfl (pm_ix rfl (hu65 hr) (pm_v (pv 2)) (pm_v (pv 5)) (fun _ _ => rfl) (fun _ _ => rfl)) (pm_c (.int 1) pe_int (fun _ _ => rfl))))
      (pms_one (pms_expr (pm_bm rfl PySem.F.plainAttrs_list PySem.F.slot_list_append PySem.F.type_list_append mt_append mm_app (pm_v (pv 4)) (pma_cons (pm_v (pv 6)) pma_nil))))) pms_nil)))))
      (pms_one (pms_set (i := 3) scsteps_from.nd rfl (Or.inl rfl) (pm_v (pv 4)))))))
      (pms_one (pms_ret (pm_v (pv 2)))))))
theorem K_found_from (B : Bl mg) (B2 : Bl2 mg) (D : Dfn K mg "found_from" sfound_from ["pockets", "start"]) (Gsteps_from : KM P w K mg base 1 "steps_from" ["pockets", "start"] M_steps_from) : KM P w K mg base 2 "found_from" ["pockets", "start"] M_found_from := fun h0 =>
  Dfn.keptM (N := Nfound_from) (k := 1) (h0 := h0) D scfound_from fun f cdv A ou s H E hr => by
    have tk := takes_of (X := cxOf (L2.CX P w) P w K mg base Nfound_from "found_from" (defScope sfound_from) f cdv A ou s H E) (E := E) rfl rfl rfl rfl
    have hx := passAt tk
    exact (pms_one (pms_ret (pm_callTy (tupleK rfl) cm_tuple (by rfl) B.b_tuple (by decide +kernel) (pma_cons (pm_callB (call_sortedA rfl rfl (hu65 hr)) cm_sorted (by rfl) B.b_sorted (by decide +kernel) (pma_cons (pm_call (Gsteps_from H) rfl rfl rfl rfl rfl (hr.mono (by decide)) (by rfl) hx (pma_cons (pm_v (pv 0)) (pma_cons (pm_v (pv 1)) pma_nil))) pma_nil)) pma_nil))))
theorem K_all_found (B : Bl mg) (B2 : Bl2 mg) (D : Dfn K mg "all_found" sall_found ["pockets"]) (Gfound_from : KM P w K mg base 2 "found_from" ["pockets", "start"] M_found_from) : KM P w K mg base 3 "all_found" ["pockets"] M_all_found := fun h0 =>
  Dfn.keptM (N := Nall_found) (k := 2) (h0 := h0) D scall_found fun f cdv A ou s H E hr => by
    have tk := takes_of (X := cxOf (L2.CX P w) P w K mg base Nall_found "all_found" (defScope sall_found) f cdv A ou s H E) (E := E) rfl rfl rfl rfl
    have hx := passAt tk
    exact (pms_one (pms_ret (pm_callTy (tupleK rfl) cm_tuple (by rfl) B.b_tuple (by decide +kernel) (pma_cons (pm_lc (own := [("u", 1)]) (by rfl) scall_found.nd (pmi_range1 (by rfl) B.b_range (pma_cons (pm_callB (call_lenA rfl) cm_len (by rfl) B.b_len PySem.boot_len (pma_cons (pm_v (pv 0)) pma_nil)) pma_nil)) (blkOk_by (own := [("u", 1)]) (N := Nall_found) (sc := defScope sall_found) (by decide +kernel)) (by decide) (fun _ _ _ _ _ => (pg_nm (pg_name (i := 1) scall_found.nd rfl (Or.inl rfl)))) (fun _ _ _ _ _ => pts_none) (fun _ _ _ _ _ => (pm_call (Gfound_from H) rfl rfl rfl rfl rfl (hr.mono (by decide)) (by rfl) passNo (pma_cons (pm_v (pv 0)) (pma_cons (pm_v (pv 1)) pma_nil))))) pma_nil))))
theorem K_finds (B : Bl mg) (B2 : Bl2 mg) (D : Dfn K mg "finds" sfinds ["web"]) (Gcheck_web : KM P w K mg base 6 "check_web" ["thing"] M_check_web) (Gall_found : KM P w K mg base 3 "all_found" ["pockets"] M_all_found) : KM P w K mg base 7 "finds" ["web"] M_finds := fun h0 =>
  Dfn.keptM (N := Nfinds) (k := 6) (h0 := h0) D scfinds fun f cdv A ou s H E hr => by
    have tk := takes_of (X := cxOf (L2.CX P w) P w K mg base Nfinds "finds" (defScope sfinds) f cdv A ou s H E) (E := E) rfl rfl rfl rfl
    have hx := passAt tk
    exact (pms_cons (pms_expr (pm_call (Gcheck_web H) rfl rfl rfl rfl rfl (hr.mono (by decide)) (by rfl) hx (pma_cons (pm_v (pv 0)) pma_nil)))
      (pms_one (pms_ret (pm_call (Gall_found H) rfl rfl rfl rfl rfl (hr.mono (by decide)) (by rfl) hx (pma_cons (pm_v (pv 0)) pma_nil)))))
theorem K_both_ways (B : Bl mg) (B2 : Bl2 mg) (D : Dfn K mg "both_ways" sboth_ways ["pockets"]) : KM P w K mg base 1 "both_ways" ["pockets"] M_both_ways := fun h0 =>
  Dfn.keptM (N := Nboth_ways) (k := 0) (h0 := h0) D scboth_ways fun f cdv A ou s H E hr => by
    have tk := takes_of (X := cxOf (L2.CX P w) P w K mg base Nboth_ways "both_ways" (defScope sboth_ways) f cdv A ou s H E) (E := E) rfl rfl rfl rfl
    have hx := passAt tk
    exact (pms_cons (pms_setLc (i := 1) (own := [("pocket", 2)]) (by rfl) scboth_ways.nd (pmi_seq rfl (pm_v (pv 0))) (blkOk_by (own := [("pocket", 2)]) (N := Nboth_ways) (sc := defScope sboth_ways) (by decide +kernel)) (by decide) (fun _ _ _ _ _ => (pg_nm (pg_name (i := 2) scboth_ways.nd rfl (Or.inl rfl)))) (fun _ _ _ _ _ => pts_none) (fun _ _ _ _ _ => (pm_callTy (listK rfl) cm_listM (by rfl) B.b_list (by decide +kernel) (pma_cons (pm_v (pv 2)) pma_nil))) (by intro _; rfl) rfl rfl (sw_true rfl rfl rfl (by decide +kernel)))
      (pms_cons (pms_for (passes_of rfl) rfl (pmi_enum rfl (by rfl) B.b_enumerate (pma_cons (pm_v (pv 0)) pma_nil)) (pg_tp rfl rfl (pgs_more (pg_nm (pg_name (i := 3) scboth_ways.nd rfl (Or.inl rfl))) (pgs_more (pg_nm (pg_name (i := 2) scboth_ways.nd rfl (Or.inl rfl))) pgs_none))) (pms_one (pms_for (passes_of rfl) rfl (pmi_seq rfl (pm_v (pv 2))) (pg_nm (pg_name (i := 4) scboth_ways.nd rfl (Or.inl rfl))) (pms_one (pms_expr (pm_bm rfl PySem.F.plainAttrs_list PySem.F.slot_list_append PySem.F.type_list_append mt_append mm_app (pm_ix rfl (hu65 hr) (pm_v (pv 1)) (pm_v (pv 4)) (fun _ _ => rfl) (fun _ _ => rfl)) (pma_cons (pm_v (pv 3)) pma_nil)))))))
      (pms_one (pms_ret (pm_v (pv 1))))))
theorem K_knot_around (B : Bl mg) (B2 : Bl2 mg) (D : Dfn K mg "knot_around" sknot_around ["u", "found"]) : KM P w K mg base 1 "knot_around" ["u", "found"] M_knot_around := fun h0 =>
  Dfn.keptM (N := Nknot_around) (k := 0) (h0 := h0) D scknot_around fun f cdv A ou s H E hr => by
    have tk := takes_of (X := cxOf (L2.CX P w) P w K mg base Nknot_around "knot_around" (defScope sknot_around) f cdv A ou s H E) (E := E) rfl rfl rfl rfl
    have hx := passAt tk
    exact (pms_one (pms_ret (pm_callTy (tupleK rfl) cm_tuple (by rfl) B.b_tuple (by decide +kernel) (pma_cons (pm_lc (own := [("w", 2)]) (by rfl) scknot_around.nd (pmi_seq rfl (pm_ix rfl (hu65 hr) (pm_v (pv 1)) (pm_v (pv 0)) (fun _ _ => rfl) (fun _ _ => rfl))) (blkOk_by (own := [("w", 2)]) (N := Nknot_around) (sc := defScope sknot_around) (by decide +kernel)) (by decide) (fun _ _ _ _ _ => (pg_nm (pg_name (i := 2) scknot_around.nd rfl (Or.inl rfl)))) (fun _ _ _ _ _ => (pts_some (pmt_cmp (op_inA rfl (hu65 hr)) (om_in false) (pm_v (pv 0)) (pm_ix rfl (hu65 hr) (pm_v (pv 1)) (pm_v (pv 2)) (fun _ _ => rfl) (fun _ _ => rfl)) (by rfl)))) (fun _ _ _ _ _ => (pm_v (pv 2)))) pma_nil))))
theorem K_knots_among (B : Bl mg) (B2 : Bl2 mg) (D : Dfn K mg "knots_among" sknots_among ["found"]) (Gknot_around : KM P w K mg base 1 "knot_around" ["u", "found"] M_knot_around) : KM P w K mg base 2 "knots_among" ["found"] M_knots_among := fun h0 =>
  Dfn.keptM (N := Nknots_among) (k := 1) (h0 := h0) D scknots_among fun f cdv A ou s H E hr => by
    have tk := takes_of (X := cxOf (L2.CX P w) P w K mg base Nknots_among "knots_among" (defScope sknots_among) f cdv A ou s H E) (E := E) rfl rfl rfl rfl
    have hx := passAt tk
    exact (pms_one (pms_ret (pm_callTy (tupleK rfl) cm_tuple (by rfl) B.b_tuple (by decide +kernel) (pma_cons (pm_sortset (hu65 hr) (by rfl) B.b_sorted (by decide +kernel) (own := [("u", 1)]) (by rfl) scknots_among.nd (pmi_range1 (by rfl) B.b_range (pma_cons (pm_callB (call_lenA rfl) cm_len (by rfl) B.b_len PySem.boot_len (pma_cons (pm_v (pv 0)) pma_nil)) pma_nil)) (blkOk_by (own := [("u", 1)]) (N := Nknots_among) (sc := defScope sknots_among) (by decide +kernel)) (by decide) (fun _ _ _ _ _ => (pg_nm (pg_name (i := 1) scknots_among.nd rfl (Or.inl rfl)))) (fun _ _ _ _ _ => pts_none) (fun _ _ _ _ _ => (pm_call (Gknot_around H) rfl rfl rfl rfl rfl (hr.mono (by decide)) (by rfl) passNo (pma_cons (pm_v (pv 1)) (pma_cons (pm_v (pv 0)) pma_nil))))) pma_nil))))
theorem K_pieces_among (B : Bl mg) (B2 : Bl2 mg) (D : Dfn K mg "pieces_among" spieces_among ["pockets"]) (Gall_found : KM P w K mg base 3 "all_found" ["pockets"] M_all_found) (Gboth_ways : KM P w K mg base 1 "both_ways" ["pockets"] M_both_ways) (Gknots_among : KM P w K mg base 2 "knots_among" ["found"] M_knots_among) : KM P w K mg base 4 "pieces_among" ["pockets"] M_pieces_among := fun h0 =>
  Dfn.keptM (N := Npieces_among) (k := 3) (h0 := h0) D scpieces_among fun f cdv A ou s H E hr => by
    have tk := takes_of (X := cxOf (L2.CX P w) P w K mg base Npieces_among "pieces_among" (defScope spieces_among) f cdv A ou s H E) (E := E) rfl rfl rfl rfl
    have hx := passAt tk
    exact (pms_one (pms_ret (pm_call (Gknots_among H) rfl rfl rfl rfl rfl (hr.mono (by decide)) (by rfl) hx (pma_cons (pm_call (Gall_found H) rfl rfl rfl rfl rfl (hr.mono (by decide)) (by rfl) hx (pma_cons (pm_call (Gboth_ways H) rfl rfl rfl rfl rfl (hr.mono (by decide)) (by rfl) hx (pma_cons (pm_v (pv 0)) pma_nil)) pma_nil)) pma_nil))))
theorem K_joined (B : Bl mg) (B2 : Bl2 mg) (D : Dfn K mg "joined" sjoined ["row", "item"]) : KM P w K mg base 1 "joined" ["row", "item"] M_joined := fun h0 =>
  Dfn.keptM (N := Njoined) (k := 0) (h0 := h0) D scjoined fun f cdv A ou s H E hr => by
    have tk := takes_of (X := cxOf (L2.CX P w) P w K mg base Njoined "joined" (defScope sjoined) f cdv A ou s H E) (E := E) rfl rfl rfl rfl
    have hx := passAt tk
    exact (pms_cons (pms_if (pmt_cmp (op_inA rfl (hu65 hr)) (om_in false) (pm_v (pv 1)) (pm_v (pv 0)) (by rfl)) (pms_one (pms_ret (pm_v (pv 0)))) pms_nil)
      (pms_one (pms_ret (pm_callTy (tupleK rfl) cm_tuple (by rfl) B.b_tuple (by decide +kernel) (pma_cons (pm_callB (call_sortedA rfl rfl (hu65 hr)) cm_sorted (by rfl) B.b_sorted (by decide +kernel) (pma_cons (pm_lst (pma_star rfl (pm_v (pv 0)) (pma_cons (pm_v (pv 1)) pma_nil))) pma_nil)) pma_nil)))))
theorem K_with_card (B : Bl mg) (B2 : Bl2 mg) (D : Dfn K mg "with_card" swith_card ["web", "u", "w"]) (Gjoined : KM P w K mg base 1 "joined" ["row", "item"] M_joined) : KM P w K mg base 2 "with_card" ["web", "u", "w"] M_with_card := fun h0 =>
  Dfn.keptM (N := Nwith_card) (k := 1) (h0 := h0) D scwith_card fun f cdv A ou s H E hr => by
    have tk := takes_of (X := cxOf (L2.CX P w) P w K mg base Nwith_card "with_card" (defScope swith_card) f cdv A ou s H E) (E := E) rfl rfl rfl rfl
    have hx := passAt tk
    exact (pms_one (pms_ret (pm_tup (pma_star rfl (pm_slice rfl (pm_v (pv 0)) pmo_none (pmo_some (pm_v (pv 1)))) (pma_cons (pm_call (Gjoined H) rfl rfl rfl rfl rfl (hr.mono (by decide)) (by rfl) hx (pma_cons (pm_ix rfl (hu65 hr) (pm_v (pv 0)) (pm_v (pv 1)) (fun _ _ => rfl) (fun _ _ => rfl)) (pma_cons (pm_v (pv 2)) pma_nil))) (pma_star rfl (pm_slice rfl (pm_v (pv 0)) (pmo_some (pm_add rfl (pm_v (pv 1)) (pm_c (.int 1) pe_int (fun _ _ => rfl)))) pmo_none) pma_nil))))))
theorem K_first_beyond (B : Bl mg) (B2 : Bl2 mg) (D : Dfn K mg "first_beyond" sfirst_beyond ["one", "other"]) : KM P w K mg base 1 "first_beyond" ["one", "other"] M_first_beyond := fun h0 =>
  Dfn.keptM (N := Nfirst_beyond) (k := 0) (h0 := h0) D scfirst_beyond fun f cdv A ou s H E hr => by
    have tk := takes_of (X := cxOf (L2.CX P w) P w K mg base Nfirst_beyond "first_beyond" (defScope sfirst_beyond) f cdv A ou s H E) (E := E) rfl rfl rfl rfl
    have hx := passAt tk
    exact (pms_cons (pms_for (passes_of rfl) rfl (pmi_range1 (by rfl) B.b_range (pma_cons (pm_callB (call_lenA rfl) cm_len (by rfl) B.b_len PySem.boot_len (pma_cons (pm_v (pv 0)) pma_nil)) pma_nil)) (pg_nm (pg_name (i := 2) scfirst_beyond.nd rfl (Or.inl rfl))) (pms_one (pms_for (passes_of rfl) rfl (pmi_seq rfl (pm_ix rfl (hu65 hr) (pm_v (pv 0)) (pm_v (pv 2)) (fun _ _ => rfl) (fun _ _ => rfl))) (pg_nm (pg_name (i := 3) scfirst_beyond.nd rfl (Or.inl rfl))) (pms_one (pms_if (pmt_cmp (op_ninA rfl (hu65 hr)) (om_in true) (pm_v (pv 3)) (pm_ix rfl (hu65 hr) (pm_v (pv 1)) (pm_v (pv 2)) (fun _ _ => rfl) (fun _ _ => rfl)) (by rfl)) (pms_one (pms_ret (pm_tup (pma_cons (pm_v (pv 2)) (pma_cons (pm_v (pv 3)) pma_nil))))) pms_nil)))))
      (pms_one (pms_ret (pm_c .non pe_non (fun _ _ => rfl)))))
theorem K_news (B : Bl mg) (B2 : Bl2 mg) (D : Dfn K mg "news" snews ["web", "u", "allowed"]) : KM P w K mg base 1 "news" ["web", "u", "allowed"] M_news := fun h0 =>
  Dfn.keptM (N := Nnews) (k := 0) (h0 := h0) D scnews fun f cdv A ou s H E hr => by
    have tk := takes_of (X := cxOf (L2.CX P w) P w K mg base Nnews "news" (defScope snews) f cdv A ou s H E) (E := E) rfl rfl rfl rfl
    have hx := passAt tk
    exact (pms_one (pms_ret (pm_lc2 (own := [("v", 3), ("w", 4)]) (vs1 := [4]) (by rfl) scnews.nd (pmi_seq rfl (pm_ix rfl (hu65 hr) (pm_v (pv 0)) (pm_v (pv 1)) (fun _ _ => rfl) (fun _ _ => rfl))) (blkOk_by (own := [("v", 3), ("w", 4)]) (N := Nnews) (sc := defScope snews) (by decide +kernel)) (by decide) (by decide) (by decide) (fun _ _ _ _ _ => (pg_nm (pg_name (i := 3) scnews.nd rfl (Or.inl rfl)))) (fun _ _ _ _ _ => pts_none) (fun _ _ _ _ _ => (pmi_seq rfl (pm_lst (pma_star rfl (pm_ix rfl (hu65 hr) (pm_v (pv 0)) (pm_v (pv 1)) (fun _ _ => rfl) (fun _ _ => rfl)) (pma_cons (pm_v (pv 1)) pma_nil))))) (fun _ _ _ _ _ => (pg_nm (pg_name (i := 4) scnews.nd rfl (Or.inl rfl)))) (fun _ _ _ _ _ => (pts_some (pmt_w (pmw_and (pmt_cmp (op_neA rfl (hu65 hr)) om_ne (pm_v (pv 4)) (pm_v (pv 3)) (nomark _)) (pmw_and (pmt_cmp (op_inA rfl (hu65 hr)) (om_in false) (pm_v (pv 4)) (pm_ix rfl (hu65 hr) (pm_v (pv 2)) (pm_v (pv 3)) (fun _ _ => rfl) (fun _ _ => rfl)) (by rfl)) (pmw_and1 (pmt_cmp (op_ninA rfl (hu65 hr)) (om_in true) (pm_v (pv 4)) (pm_ix rfl (hu65 hr) (pm_v (pv 0)) (pm_v (pv 3)) (fun _ _ => rfl) (fun _ _ => rfl)) (by rfl)))))))) (fun _ _ _ _ _ => (pm_tup (pma_cons (pm_v (pv 3)) (pma_cons (pm_v (pv 4)) pma_nil)))))))
theorem K_spread (B : Bl mg) (B2 : Bl2 mg) (D : Dfn K mg "spread" sspread ["web", "allowed"]) (Gwith_card : KM P w K mg base 2 "with_card" ["web", "u", "w"] M_with_card) (Gnews : KM P w K mg base 1 "news" ["web", "u", "allowed"] M_news) : KM P w K mg base 3 "spread" ["web", "allowed"] M_spread := fun h0 =>
  Dfn.keptM (N := Nspread) (k := 2) (h0 := h0) D scspread fun f cdv A ou s H E hr => by
    have tk := takes_of (X := cxOf (L2.CX P w) P w K mg base Nspread "spread" (defScope sspread) f cdv A ou s H E) (E := E) rfl rfl rfl rfl
    have hx := passAt tk
    exact (pms_cons (pms_set (i := 2) scspread.nd rfl (Or.inl rfl) (pm_lstM pma_nil))
      (pms_cons (pms_set (i := 3) scspread.nd rfl (Or.inl rfl) (pm_callB (call_lenA rfl) cm_len (by rfl) B.b_len PySem.boot_len (pma_cons (pm_v (pv 0)) pma_nil)))
      (pms_cons (pms_set (i := 4) scspread.nd rfl (Or.inl rfl) (pm_c .non pe_non (fun _ _ => rfl)))
      (pms_cons (pms_while (passes_of rfl) (pmt_cmp (op_neA rfl (hu65 hr)) om_ne (pm_v (pv 0)) (pm_v (pv 4)) (nomark _)) (pms_cons (pms_set (i := 4) scspread.nd rfl (Or.inl rfl) (pm_v (pv 0)))
      (pms_one (pms_for (passes_of rfl) rfl (pmi_range1 (by rfl) B.b_range (pma_cons (pm_v (pv 3)) pma_nil)) (pg_nm (pg_name (i := 5) scspread.nd rfl (Or.inl rfl))) (pms_one (pms_for (passes_of rfl) rfl (pmi_seq rfl (pm_call (Gnews H) rfl rfl rfl rfl rfl (hr.mono (by decide)) (by rfl) hx (pma_cons (pm_v (pv 0)) (pma_cons (pm_v (pv 5)) (pma_cons (pm_v (pv 1)) pma_nil))))) (pg_tp rfl rfl (pgs_more (pg_nm (pg_name (i := 6) scspread.nd rfl (Or.inl rfl))) (pgs_more (pg_nm (pg_name (i := 7) scspread.nd rfl (Or.inl rfl))) pgs_none))) (pms_cons (pms_aug (i := 2) scspread.nd rfl (Or.inl rfl) ip_addA im_add (pm_lst (pma_cons (pm_tup (pma_cons (pm_c (.str "show") pe_str (fun _ _ => rfl)) (pma_cons (pm_v (pv 5)) (pma_cons (pm_v (pv 6)) (pma_cons (pm_v (pv 7)) pma_nil))))) (pma_cons (pm_tup (pma_cons (pm_c (.str "come") pe_str (fun _ _ => rfl)) (pma_cons (pm_v (pv 6)) (pma_cons (pm_v (pv 7)) pma_nil)))) pma_nil))))
      (pms_one (pms_set (i := 0) scspread.nd rfl (Or.inl rfl) (pm_call (Gwith_card H) rfl rfl rfl rfl rfl (hr.mono (by decide)) (by rfl) hx (pma_cons (pm_v (pv 0)) (pma_cons (pm_v (pv 6)) (pma_cons (pm_v (pv 7)) pma_nil)))))))))))))
      (pms_one (pms_ret (pm_tup (pma_cons (pm_v (pv 2)) (pma_cons (pm_v (pv 0)) pma_nil)))))))))
theorem K_widened (B : Bl mg) (B2 : Bl2 mg) (D : Dfn K mg "widened" swidened ["web", "wish"]) (Gall_found : KM P w K mg base 3 "all_found" ["pockets"] M_all_found) (Gspread : KM P w K mg base 3 "spread" ["web", "allowed"] M_spread) : KM P w K mg base 4 "widened" ["web", "wish"] M_widened := fun h0 =>
  Dfn.keptM (N := Nwidened) (k := 3) (h0 := h0) D scwidened fun f cdv A ou s H E hr => by
    have tk := takes_of (X := cxOf (L2.CX P w) P w K mg base Nwidened "widened" (defScope swidened) f cdv A ou s H E) (E := E) rfl rfl rfl rfl
    have hx := passAt tk
    exact (pms_cons (pms_asg (pm_call (Gspread H) rfl rfl rfl rfl rfl (hr.mono (by decide)) (by rfl) hx (pma_cons (pm_v (pv 0)) (pma_cons (pm_call (Gall_found H) rfl rfl rfl rfl rfl (hr.mono (by decide)) (by rfl) hx (pma_cons (pm_v (pv 1)) pma_nil)) pma_nil))) (pg_tp rfl rfl (pgs_more (pg_nm (pg_name (i := 2) scwidened.nd rfl (Or.inl rfl))) (pgs_more (pg_nm (pg_name (i := 3) scwidened.nd rfl (Or.inl rfl))) pgs_none))))
      (pms_one (pms_ret (pm_v (pv 3)))))
theorem K_bar (B : Bl mg) (B2 : Bl2 mg) (D : Dfn K mg "bar" sbar ["web", "wish"]) (Gall_found : KM P w K mg base 3 "all_found" ["pockets"] M_all_found) (Gfirst_beyond : KM P w K mg base 1 "first_beyond" ["one", "other"] M_first_beyond) (Gwidened : KM P w K mg base 4 "widened" ["web", "wish"] M_widened) : KM P w K mg base 5 "bar" ["web", "wish"] M_bar := fun h0 =>
  Dfn.keptM (N := Nbar) (k := 4) (h0 := h0) D scbar fun f cdv A ou s H E hr => by
    have tk := takes_of (X := cxOf (L2.CX P w) P w K mg base Nbar "bar" (defScope sbar) f cdv A ou s H E) (E := E) rfl rfl rfl rfl
    have hx := passAt tk
    exact (pms_cons (pms_set (i := 2) scbar.nd rfl (Or.inl rfl) (pm_call (Gfirst_beyond H) rfl rfl rfl rfl rfl (hr.mono (by decide)) (by rfl) hx (pma_cons (pm_call (Gall_found H) rfl rfl rfl rfl rfl (hr.mono (by decide)) (by rfl) hx (pma_cons (pm_v (pv 0)) pma_nil)) (pma_cons (pm_call (Gall_found H) rfl rfl rfl rfl rfl (hr.mono (by decide)) (by rfl) hx (pma_cons (pm_v (pv 1)) pma_nil)) pma_nil))))
      (pms_cons (pms_if (pmt_cmp op_notN om_isn (pm_v (pv 2)) (pm_c .non pe_non (fun _ _ => rfl)) (nomark _)) (pms_one (pms_ret (pm_tup (pma_cons (pm_c (.str "found") pe_str (fun _ _ => rfl)) (pma_star rfl (pm_v (pv 2)) pma_nil))))) pms_nil)
      (pms_cons (pms_set (i := 3) scbar.nd rfl (Or.inl rfl) (pm_call (Gfirst_beyond H) rfl rfl rfl rfl rfl (hr.mono (by decide)) (by rfl) hx (pma_cons (pm_v (pv 1)) (pma_cons (pm_call (Gwidened H) rfl rfl rfl rfl rfl (hr.mono (by decide)) (by rfl) hx (pma_cons (pm_v (pv 0)) (pma_cons (pm_v (pv 1)) pma_nil))) pma_nil))))
      (pms_cons (pms_if (pmt_cmp op_notN om_isn (pm_v (pv 3)) (pm_c .non pe_non (fun _ _ => rfl)) (nomark _)) (pms_one (pms_ret (pm_tup (pma_cons (pm_c (.str "card") pe_str (fun _ _ => rfl)) (pma_star rfl (pm_v (pv 3)) pma_nil))))) pms_nil)
      (pms_one (pms_ret (pm_c .non pe_non (fun _ _ => rfl))))))))
theorem K_is_led (B : Bl mg) (B2 : Bl2 mg) (D : Dfn K mg "is_led" sis_led ["web", "wish", "turning"]) (Gpieces_among : KM P w K mg base 4 "pieces_among" ["pockets"] M_pieces_among) (Gbar : KM P w K mg base 5 "bar" ["web", "wish"] M_bar) : KM P w K mg base 6 "is_led" ["web", "wish", "turning"] M_is_led := fun h0 =>
  Dfn.keptM (N := Nis_led) (k := 5) (h0 := h0) D scis_led fun f cdv A ou s H E hr => by
    have tk := takes_of (X := cxOf (L2.CX P w) P w K mg base Nis_led "is_led" (defScope sis_led) f cdv A ou s H E) (E := E) rfl rfl rfl rfl
    have hx := passAt tk
    exact (pms_cons (pms_if (pmt_truth rfl (pm_v (pv 2)) (by intro _; rfl)) (pms_one (pms_ret (pm_cmp (op_eqA rfl (hu65 hr)) om_eq (pm_call (Gpieces_among H) rfl rfl rfl rfl rfl (hr.mono (by decide)) (by rfl) hx (pma_cons (pm_v (pv 0)) pma_nil)) (pm_call (Gpieces_among H) rfl rfl rfl rfl rfl (hr.mono (by decide)) (by rfl) hx (pma_cons (pm_v (pv 1)) pma_nil)) (nomark _)))) pms_nil)
      (pms_one (pms_ret (pm_cmp op_isN om_is (pm_call (Gbar H) rfl rfl rfl rfl rfl (hr.mono (by decide)) (by rfl) hx (pma_cons (pm_v (pv 0)) (pma_cons (pm_v (pv 1)) pma_nil))) (pm_c .non pe_non (fun _ _ => rfl)) (nomark _)))))
theorem K_leads (B : Bl mg) (B2 : Bl2 mg) (D : Dfn K mg "leads" sleads ["web", "wish", "turning"]) (Gcheck_webs : KM P w K mg base 7 "check_webs" ["one", "other"] M_check_webs) (Gis_led : KM P w K mg base 6 "is_led" ["web", "wish", "turning"] M_is_led) : KM P w K mg base 8 "leads" ["web", "wish", "turning"] M_leads := fun h0 =>
  Dfn.keptM (N := Nleads) (k := 7) (h0 := h0) D scleads fun f cdv A ou s H E hr => by
    have tk := takes_of (X := cxOf (L2.CX P w) P w K mg base Nleads "leads" (defScope sleads) f cdv A ou s H E) (E := E) rfl rfl rfl rfl
    have hx := passAt tk
    exact (pms_cons (pms_expr (pm_call (Gcheck_webs H) rfl rfl rfl rfl rfl (hr.mono (by decide)) (by rfl) hx (pma_cons (pm_v (pv 0)) (pma_cons (pm_v (pv 1)) pma_nil))))
      (pms_one (pms_ret (pm_call (Gis_led H) rfl rfl rfl rfl rfl (hr.mono (by decide)) (by rfl) hx (pma_cons (pm_v (pv 0)) (pma_cons (pm_v (pv 1)) (pma_cons (pm_v (pv 2)) pma_nil)))))))
theorem K_full (B : Bl mg) (B2 : Bl2 mg) (D : Dfn K mg "full" sfull ["web", "wish"]) (Gcheck_webs : KM P w K mg base 7 "check_webs" ["one", "other"] M_check_webs) (Gall_found : KM P w K mg base 3 "all_found" ["pockets"] M_all_found) (Gfirst_beyond : KM P w K mg base 1 "first_beyond" ["one", "other"] M_first_beyond) (Gwidened : KM P w K mg base 4 "widened" ["web", "wish"] M_widened) : KM P w K mg base 8 "full" ["web", "wish"] M_full := fun h0 =>
  Dfn.keptM (N := Nfull) (k := 7) (h0 := h0) D scfull fun f cdv A ou s H E hr => by
    have tk := takes_of (X := cxOf (L2.CX P w) P w K mg base Nfull "full" (defScope sfull) f cdv A ou s H E) (E := E) rfl rfl rfl rfl
    have hx := passAt tk
    exact (pms_cons (pms_expr (pm_call (Gcheck_webs H) rfl rfl rfl rfl rfl (hr.mono (by decide)) (by rfl) hx (pma_cons (pm_v (pv 0)) (pma_cons (pm_v (pv 1)) pma_nil))))
      (pms_cons (pms_if (pmt_cmp op_notN om_isn (pm_call (Gfirst_beyond H) rfl rfl rfl rfl rfl (hr.mono (by decide)) (by rfl) hx (pma_cons (pm_call (Gall_found H) rfl rfl rfl rfl rfl (hr.mono (by decide)) (by rfl) hx (pma_cons (pm_v (pv 0)) pma_nil)) (pma_cons (pm_call (Gall_found H) rfl rfl rfl rfl rfl (hr.mono (by decide)) (by rfl) hx (pma_cons (pm_v (pv 1)) pma_nil)) pma_nil))) (pm_c .non pe_non (fun _ _ => rfl)) (nomark _)) (pms_one (pms_ret (pm_c .non pe_non (fun _ _ => rfl)))) pms_nil)
      (pms_one (pms_ret (pm_call (Gwidened H) rfl rfl rfl rfl rfl (hr.mono (by decide)) (by rfl) hx (pma_cons (pm_v (pv 0)) (pma_cons (pm_v (pv 1)) pma_nil)))))))
theorem K_lack (B : Bl mg) (B2 : Bl2 mg) (D : Dfn K mg "lack" slack ["web", "wish"]) (Gcheck_webs : KM P w K mg base 7 "check_webs" ["one", "other"] M_check_webs) (Gbar : KM P w K mg base 5 "bar" ["web", "wish"] M_bar) : KM P w K mg base 8 "lack" ["web", "wish"] M_lack := fun h0 =>
  Dfn.keptM (N := Nlack) (k := 7) (h0 := h0) D sclack fun f cdv A ou s H E hr => by
    have tk := takes_of (X := cxOf (L2.CX P w) P w K mg base Nlack "lack" (defScope slack) f cdv A ou s H E) (E := E) rfl rfl rfl rfl
    have hx := passAt tk
    exact (pms_cons (pms_expr (pm_call (Gcheck_webs H) rfl rfl rfl rfl rfl (hr.mono (by decide)) (by rfl) hx (pma_cons (pm_v (pv 0)) (pma_cons (pm_v (pv 1)) pma_nil))))
      (pms_one (pms_ret (pm_call (Gbar H) rfl rfl rfl rfl rfl (hr.mono (by decide)) (by rfl) hx (pma_cons (pm_v (pv 0)) (pma_cons (pm_v (pv 1)) pma_nil))))))
theorem K__law_pot (B : Bl mg) (B2 : Bl2 mg) (D : Dfn K mg "_law_pot" s_law_pot ["script"]) : KM P w K mg base 1 "_law_pot" ["script"] M__law_pot := fun h0 =>
  Dfn.keptM (N := N_law_pot) (k := 0) (h0 := h0) D sc_law_pot fun f cdv A ou s H E hr => by
    have tk := takes_of (X := cxOf (L2.CX P w) P w K mg base N_law_pot "_law_pot" (defScope s_law_pot) f cdv A ou s H E) (E := E) rfl rfl rfl rfl
    have hx := passAt tk
    exact (pms_cons (pms_setLc (i := 1) (own := [("item", 2)]) (by rfl) sc_law_pot.nd (pmi_seq rfl (pm_slice rfl (pm_v (pv 0)) pmo_none (pmo_some (pm_c (.int 63) pe_int (fun _ _ => rfl))))) (blkOk_by (own := [("item", 2)]) (N := N_law_pot) (sc := defScope s_law_pot) (by decide +kernel)) (by decide) (fun _ _ _ _ _ => (pg_nm (pg_name (i := 2) sc_law_pot.nd rfl (Or.inl rfl)))) (fun _ _ _ _ _ => pts_none) (fun _ _ _ _ _ => (pm_callTy call_int1 cm_int (by rfl) B.b_int (by decide +kernel) (pma_cons (pm_v (pv 2)) pma_nil))) (by intro _; rfl) rfl rfl (sw_true rfl rfl rfl (by decide +kernel)))
      (pms_cons (pms_setLcM (i := 3) (own := [("item", 2)]) (by rfl) sc_law_pot.nd (pmi_seq rfl (pm_v (pv 1))) (blkOk_by (own := [("item", 2)]) (N := N_law_pot) (sc := defScope s_law_pot) (by decide +kernel)) (by decide) (fun _ _ _ _ _ => (pg_nm (pg_name (i := 2) sc_law_pot.nd rfl (Or.inl rfl)))) (fun _ _ _ _ _ => (pts_some (pmt_cmp op_ge (om_cmpI _) (pm_callB call_abs cm_abs (by rfl) B.b_abs (by decide +kernel) (pma_cons (pm_v (pv 2)) pma_nil)) (pm_pow (pm_c (.int 10) pe_int (fun _ _ => rfl)) (pm_c (.int 18) pe_int (fun _ _ => rfl))) (nomark _)))) (fun _ _ _ _ _ => (pm_callB call_abs cm_abs (by rfl) B.b_abs (by decide +kernel) (pma_cons (pm_v (pv 2)) pma_nil))) (by intro _; rfl) rfl rfl (sw_true rfl rfl rfl (by decide +kernel)))
      (pms_cons (pms_set (i := 4) sc_law_pot.nd rfl (Or.inl rfl) (pm_add rfl (pm_lc (own := [("item", 2)]) (by rfl) sc_law_pot.nd (pmi_seq rfl (pm_v (pv 1))) (blkOk_by (own := [("item", 2)]) (N := N_law_pot) (sc := defScope s_law_pot) (by decide +kernel)) (by decide) (fun _ _ _ _ _ => (pg_nm (pg_name (i := 2) sc_law_pot.nd rfl (Or.inl rfl)))) (fun _ _ _ _ _ => (pts_some (pmt_cmp (op_ltA rfl (hr.units0)) om_lt (pm_callB call_abs cm_abs (by rfl) B.b_abs (by decide +kernel) (pma_cons (pm_v (pv 2)) pma_nil)) (pm_pow (pm_c (.int 10) pe_int (fun _ _ => rfl)) (pm_c (.int 18) pe_int (fun _ _ => rfl))) (nomark _)))) (fun _ _ _ _ _ => (pm_mod (pm_callTy call_int1 cm_int (by rfl) B.b_int (by decide +kernel) (pma_cons (pm_v (pv 2)) pma_nil)) (pm_c (.int 1000000007) pe_int (fun _ _ => rfl))))) (pm_lst (pma_cons (pm_add rfl (pm_callB (call_lenA rfl) cm_len (by rfl) B.b_len PySem.boot_len (pma_cons (pm_v (pv 1)) pma_nil)) (pm_c (.int 1) pe_int (fun _ _ => rfl))) pma_nil))))
      (pms_one (pms_ret (pm_lstM (pma_cons (pm_v (pv 3)) (pma_cons (pm_v (pv 4)) (pma_cons (pm_c (.int 0) pe_int (fun _ _ => rfl)) (pma_cons (pm_mod (pm_callTy call_int1 cm_int (by rfl) B.b_int (by decide +kernel) (pma_cons (pm_callB (sumK rfl rfl) cm_sum (by rfl) B.b_sum (by decide +kernel) (pma_cons (pm_v (pv 4)) pma_nil)) pma_nil)) (pm_c (.int 999983) pe_int (fun _ _ => rfl))) pma_nil))))))))))
theorem K__law_draw (B : Bl mg) (B2 : Bl2 mg) (D : Dfn K mg "_law_draw" s_law_draw ["pot", "many"]) : KM P w K mg base 1 "_law_draw" ["pot", "many"] M__law_draw := fun h0 =>
  Dfn.keptM (N := N_law_draw) (k := 0) (h0 := h0) D sc_law_draw fun f cdv A ou s H E hr => by
    have tk := takes_of (X := cxOf (L2.CX P w) P w K mg base N_law_draw "_law_draw" (defScope s_law_draw) f cdv A ou s H E) (E := E) rfl rfl rfl rfl
    have hx := passAt tk
    exact (pms_cons (pms_set (i := 2) sc_law_draw.nd rfl (Or.inl rfl) (pm_ix rfl (hu65 hr) (pm_v (pv 0)) (pm_c (.int 2) pe_int (fun _ _ => rfl)) (fun _ _ => rfl) (fun _ _ => rfl)))
      (pms_cons (pms_put (hu65 hr) (pm_v (pv 0)) (pm_c (.int 2) pe_int (fun _ _ => rfl)) (pm_add rfl (pm_v (pv 2)) (pm_c (.int 1) pe_int (fun _ _ => rfl))))
      (pms_cons (pms_if (pmt_cmp op_gt (om_cmpI _) (pm_callB (call_lenA rfl) cm_len (by rfl) B.b_len PySem.boot_len (pma_cons (pm_ix rfl (hu65 hr) (pm_v (pv 0)) (pm_c (.int 0) pe_int (fun _ _ => rfl)) (fun _ _ => rfl) (fun _ _ => rfl)) pma_nil)) (pm_c (.int 0) pe_int (fun _ _ => rfl)) (nomark _)) (pms_cons (pms_set (i := 3) sc_law_draw.nd rfl (Or.inl rfl) (pm_ix rfl (hu65 hr) (pm_ix rfl (hu65 hr) (pm_v (pv 0)) (pm_c (.int 0) pe_int (fun _ _ => rfl)) (fun _ _ => rfl) (fun _ _ => rfl)) (pm_c (.int 0) pe_int (fun _ _ => rfl)) (fun _ _ => rfl) (fun _ _ => rfl)))
      (pms_cons (pms_put (hu65 hr) (pm_ix rfl (hu65 hr) (pm_v (pv 0)) (pm_c (.int 0) pe_int (fun _ _ => rfl)) (fun _ _ => rfl) (fun _ _ => rfl)) (pm_c (.int 0) pe_int (fun _ _ => rfl)) (pm_fdiv (pm_v (pv 3)) (pm_v (pv 1))))
      (pms_cons (pms_if (pmt_cmp (op_ltA rfl (hr.units0)) om_lt (pm_v (pv 3)) (pm_v (pv 1)) (nomark _)) (pms_one (pms_expr (pm_bm rfl PySem.F.plainAttrs_list PySem.F.slot_list_pop PySem.F.type_list_pop mt_popAt mm_popAt (pm_ix rfl (hu65 hr) (pm_v (pv 0)) (pm_c (.int 0) pe_int (fun _ _ => rfl)) (fun _ _ => rfl) (fun _ _ => rfl)) (pma_cons (pm_c (.int 0) pe_int (fun _ _ => rfl)) pma_nil)))) pms_nil)
      (pms_one (pms_ret (pm_mod (pm_callTy call_int1 cm_int (by rfl) B.b_int (by decide +kernel) (pma_cons (pm_v (pv 3)) pma_nil)) (pm_v (pv 1)))))))) pms_nil)
      (pms_cons (pms_set (i := 4) sc_law_draw.nd rfl (Or.inl rfl) (pm_add rfl (pm_add rfl (pm_mul rfl (pm_ix rfl (hu65 hr) (pm_ix rfl (hu65 hr) (pm_v (pv 0)) (pm_c (.int 1) pe_int (fun _ _ => rfl)) (fun _ _ => rfl) (fun _ _ => rfl)) (pm_mod (pm_callTy call_int1 cm_int (by rfl) B.b_int (by decide +kernel) (pma_cons (pm_v (pv 2)) pma_nil)) (pm_callB (call_lenA rfl) cm_len (by rfl) B.b_len PySem.boot_len (pma_cons (pm_ix rfl (hu65 hr) (pm_v (pv 0)) (pm_c (.int 1) pe_int (fun _ _ => rfl)) (fun _ _ => rfl) (fun _ _ => rfl)) pma_nil))) (fun _ _ => rfl) (fun _ _ => rfl)) (pm_c (.int 7919) pe_int (fun _ _ => rfl))) (pm_mul rfl (pm_c (.int 104729) pe_int (fun _ _ => rfl)) (pm_v (pv 2)))) (pm_mul rfl (pm_ix rfl (hu65 hr) (pm_v (pv 0)) (pm_c (.int 3) pe_int (fun _ _ => rfl)) (fun _ _ => rfl) (fun _ _ => rfl)) (pm_c (.int 31) pe_int (fun _ _ => rfl)))))
      (pms_cons (pms_set (i := 3) sc_law_draw.nd rfl (Or.inl rfl) (pm_mod (pm_callTy call_int1 cm_int (by rfl) B.b_int (by decide +kernel) (pma_cons (pm_add rfl (pm_mul rfl (pm_v (pv 4)) (pm_c (.int 48271) pe_int (fun _ _ => rfl))) (pm_c (.int 11) pe_int (fun _ _ => rfl))) pma_nil)) (pm_c (.int 2147483647) pe_int (fun _ _ => rfl))))
      (pms_cons (pms_set (i := 3) sc_law_draw.nd rfl (Or.inl rfl) (pm_mod (pm_callTy call_int1 cm_int (by rfl) B.b_int (by decide +kernel) (pma_cons (pm_mul rfl (pm_v (pv 3)) (pm_add rfl (pm_fdiv (pm_v (pv 3)) (pm_c (.int 1009) pe_int (fun _ _ => rfl))) (pm_c (.int 69621) pe_int (fun _ _ => rfl)))) pma_nil)) (pm_c (.int 2147483629) pe_int (fun _ _ => rfl))))
      (pms_cons (pms_set (i := 3) sc_law_draw.nd rfl (Or.inl rfl) (pm_mod (pm_callTy call_int1 cm_int (by rfl) B.b_int (by decide +kernel) (pma_cons (pm_add rfl (pm_mul rfl (pm_v (pv 3)) (pm_add rfl (pm_fdiv (pm_v (pv 3)) (pm_c (.int 2003) pe_int (fun _ _ => rfl))) (pm_c (.int 40692) pe_int (fun _ _ => rfl)))) (pm_v (pv 2))) pma_nil)) (pm_c (.int 2147483399) pe_int (fun _ _ => rfl))))
      (pms_one (pms_ret (pm_mod (pm_callTy call_int1 cm_int (by rfl) B.b_int (by decide +kernel) (pma_cons (pm_fdiv (pm_v (pv 3)) (pm_c (.int 64) pe_int (fun _ _ => rfl))) pma_nil)) (pm_v (pv 1))))))))))))
theorem K__law_pairs (B : Bl mg) (B2 : Bl2 mg) (D : Dfn K mg "_law_pairs" s_law_pairs ["many"]) : KM P w K mg base 1 "_law_pairs" ["many"] M__law_pairs := fun h0 =>
  Dfn.keptM (N := N_law_pairs) (k := 0) (h0 := h0) D sc_law_pairs fun f cdv A ou s H E hr => by
    have tk := takes_of (X := cxOf (L2.CX P w) P w K mg base N_law_pairs "_law_pairs" (defScope s_law_pairs) f cdv A ou s H E) (E := E) rfl rfl rfl rfl
    have hx := passAt tk
    exact (pms_cons (pms_set (i := 1) sc_law_pairs.nd rfl (Or.inl rfl) (pm_lstM pma_nil))
      (pms_cons (pms_for (passes_of rfl) rfl (pmi_range1 (by rfl) B.b_range (pma_cons (pm_v (pv 0)) pma_nil)) (pg_nm (pg_name (i := 2) sc_law_pairs.nd rfl (Or.inr rfl))) (pms_one (pms_expr (pm_bm rfl PySem.F.plainAttrs_list PySem.F.slot_list_extend PySem.F.type_list_extend mt_extend mm_ext (pm_v (pv 1)) (pma_cons (pm_lc (own := [("w", 3)]) (by rfl) sc_law_pairs.nd (pmi_range1 (by rfl) B.b_range (pma_cons (pm_v (pv 0)) pma_nil)) (blkOk_by (own := [("w", 3)]) (N := N_law_pairs) (sc := defScope s_law_pairs) (by decide +kernel)) (by decide) (fun _ _ _ _ _ => (pg_nm (pg_name (i := 3) sc_law_pairs.nd rfl (Or.inl rfl)))) (fun _ _ _ _ _ => (pts_some (pmt_cmp (op_neA rfl (hu65 hr)) om_ne (pm_v (pv 3)) (pm_v (pv 2)) (nomark _)))) (fun _ _ _ _ _ => (pm_tup (pma_cons (pm_v (pv 2)) (pma_cons (pm_v (pv 3)) pma_nil))))) pma_nil)))))
      (pms_one (pms_ret (pm_v (pv 1))))))
theorem K__law_web (B : Bl mg) (B2 : Bl2 mg) (D : Dfn K mg "_law_web" s_law_web ["cards", "many"]) : KM P w K mg base 1 "_law_web" ["cards", "many"] M__law_web := fun h0 =>
  Dfn.keptM (N := N_law_web) (k := 0) (h0 := h0) D sc_law_web fun f cdv A ou s H E hr => by
    have tk := takes_of (X := cxOf (L2.CX P w) P w K mg base N_law_web "_law_web" (defScope s_law_web) f cdv A ou s H E) (E := E) rfl rfl rfl rfl
    have hx := passAt tk
    exact (pms_one (pms_ret (pm_callTy (tupleK rfl) cm_tuple (by rfl) B.b_tuple (by decide +kernel) (pma_cons (pm_lc (own := [("u", 3)]) (by rfl) sc_law_web.nd (pmi_range1 (by rfl) B.b_range (pma_cons (pm_v (pv 1)) pma_nil)) (blkOk_by (own := [("u", 3)]) (N := N_law_web) (sc := defScope s_law_web) (by decide +kernel)) (by decide) (fun _ _ _ _ _ => (pg_nm (pg_name (i := 3) sc_law_web.nd rfl (Or.inr rfl)))) (fun _ _ _ _ _ => pts_none) (fun _ _ _ _ _ => (pm_callTy (tupleK rfl) cm_tuple (by rfl) B.b_tuple (by decide +kernel) (pma_cons (pm_lc (own := [("w", 2)]) (by rfl) sc_law_web.nd (pmi_range1 (by rfl) B.b_range (pma_cons (pm_v (pv 1)) pma_nil)) (blkOk_by (own := [("w", 2)]) (N := N_law_web) (by dsimp only [Cx.blk, compEnvC, relabel, cxOf, Cx.nox, envOfC, Env.kindOf]; first | rfl | decide +kernel)) (by decide) (fun _ _ _ _ _ => (pg_nm (pg_name (i := 2) sc_law_web.nd rfl (Or.inl rfl)))) (fun _ _ _ _ _ => (pts_some (pmt_cmp (op_inA rfl (hu65 hr)) (om_in false) (pm_tup (pma_cons (pm_v (pv 3)) (pma_cons (pm_v (pv 2)) pma_nil))) (pm_v (pv 0)) (by rfl)))) (fun _ _ _ _ _ => (pm_v (pv 2)))) pma_nil)))) pma_nil))))
theorem K__law_cards (B : Bl mg) (B2 : Bl2 mg) (D : Dfn K mg "_law_cards" s_law_cards ["web"]) : KM P w K mg base 1 "_law_cards" ["web"] M__law_cards := fun h0 =>
  Dfn.keptM (N := N_law_cards) (k := 0) (h0 := h0) D sc_law_cards fun f cdv A ou s H E hr => by
    have tk := takes_of (X := cxOf (L2.CX P w) P w K mg base N_law_cards "_law_cards" (defScope s_law_cards) f cdv A ou s H E) (E := E) rfl rfl rfl rfl
    have hx := passAt tk
    exact (pms_cons (pms_set (i := 1) sc_law_cards.nd rfl (Or.inl rfl) (pm_lstM pma_nil))
      (pms_cons (pms_for (passes_of rfl) rfl (pmi_range1 (by rfl) B.b_range (pma_cons (pm_callB (call_lenA rfl) cm_len (by rfl) B.b_len PySem.boot_len (pma_cons (pm_v (pv 0)) pma_nil)) pma_nil)) (pg_nm (pg_name (i := 2) sc_law_cards.nd rfl (Or.inr rfl))) (pms_one (pms_expr (pm_bm rfl PySem.F.plainAttrs_list PySem.F.slot_list_extend PySem.F.type_list_extend mt_extend mm_ext (pm_v (pv 1)) (pma_cons (pm_lc (own := [("w", 3)]) (by rfl) sc_law_cards.nd (pmi_seq rfl (pm_ix rfl (hu65 hr) (pm_v (pv 0)) (pm_v (pv 2)) (fun _ _ => rfl) (fun _ _ => rfl))) (blkOk_by (own := [("w", 3)]) (N := N_law_cards) (sc := defScope s_law_cards) (by decide +kernel)) (by decide) (fun _ _ _ _ _ => (pg_nm (pg_name (i := 3) sc_law_cards.nd rfl (Or.inl rfl)))) (fun _ _ _ _ _ => pts_none) (fun _ _ _ _ _ => (pm_tup (pma_cons (pm_v (pv 2)) (pma_cons (pm_v (pv 3)) pma_nil))))) pma_nil)))))
      (pms_one (pms_ret (pm_v (pv 1))))))
theorem K__law_drawn_web (B : Bl mg) (B2 : Bl2 mg) (D : Dfn K mg "_law_drawn_web" s_law_drawn_web ["hand", "many", "rare"]) (G_law_draw : KM P w K mg base 1 "_law_draw" ["pot", "many"] M__law_draw) (G_law_pairs : KM P w K mg base 1 "_law_pairs" ["many"] M__law_pairs) (G_law_web : KM P w K mg base 1 "_law_web" ["cards", "many"] M__law_web) : KM P w K mg base 2 "_law_drawn_web" ["hand", "many", "rare"] M__law_drawn_web := fun h0 =>
  Dfn.keptM (N := N_law_drawn_web) (k := 1) (h0 := h0) D sc_law_drawn_web fun f cdv A ou s H E hr => by
    have tk := takes_of (X := cxOf (L2.CX P w) P w K mg base N_law_drawn_web "_law_drawn_web" (defScope s_law_drawn_web) f cdv A ou s H E) (E := E) rfl rfl rfl rfl
    have hx := passAt tk
    exact (pms_one (pms_ret (pm_call (G_law_web H) rfl rfl rfl rfl rfl (hr.mono (by decide)) (by rfl) hx (pma_cons (pm_lc (own := [("pair", 3)]) (by rfl) sc_law_drawn_web.nd (pmi_seq rfl (pm_call (G_law_pairs H) rfl rfl rfl rfl rfl (hr.mono (by decide)) (by rfl) hx (pma_cons (pm_v (pv 1)) pma_nil))) (blkOk_by (own := [("pair", 3)]) (N := N_law_drawn_web) (sc := defScope s_law_drawn_web) (by decide +kernel)) (by decide) (fun _ _ _ _ _ => (pg_nm (pg_name (i := 3) sc_law_drawn_web.nd rfl (Or.inl rfl)))) (fun _ _ _ _ _ => (pts_some (pmt_cmp (op_eqA rfl (hu65 hr)) om_eq (pm_call (G_law_draw H) rfl rfl rfl rfl rfl (hr.mono (by decide)) (by rfl) passNo (pma_cons (pm_v (pv 0)) (pma_cons (pm_v (pv 2)) pma_nil))) (pm_c (.int 0) pe_int (fun _ _ => rfl)) (nomark _)))) (fun _ _ _ _ _ => (pm_v (pv 3)))) (pma_cons (pm_v (pv 1)) pma_nil)))))
theorem K__law_finds (B : Bl mg) (B2 : Bl2 mg) (D : Dfn K mg "_law_finds" s_law_finds ["web"]) : KM P w K mg base 1 "_law_finds" ["web"] M__law_finds := fun h0 =>
  Dfn.keptM (N := N_law_finds) (k := 0) (h0 := h0) D sc_law_finds fun f cdv A ou s H E hr => by
    have tk := takes_of (X := cxOf (L2.CX P w) P w K mg base N_law_finds "_law_finds" (defScope s_law_finds) f cdv A ou s H E) (E := E) rfl rfl rfl rfl
    have hx := passAt tk
    exact (pms_cons (pms_set (i := 1) sc_law_finds.nd rfl (Or.inl rfl) (pm_callB (call_lenA rfl) cm_len (by rfl) B.b_len PySem.boot_len (pma_cons (pm_v (pv 0)) pma_nil)))
      (pms_cons (pms_set (i := 2) sc_law_finds.nd rfl (Or.inr rfl) (pm_lc (own := [("u", 3)]) (by rfl) sc_law_finds.nd (pmi_range1 (by rfl) B.b_range (pma_cons (pm_v (pv 1)) pma_nil)) (blkOk_by (own := [("u", 3)]) (N := N_law_finds) (sc := defScope s_law_finds) (by decide +kernel)) (by decide) (fun _ _ _ _ _ => (pg_nm (pg_name (i := 3) sc_law_finds.nd rfl (Or.inl rfl)))) (fun _ _ _ _ _ => pts_none) (fun _ _ _ _ _ => (pm_lstM (pma_cons (pm_v (pv 3)) pma_nil)))))
      (pms_cons (pms_for (passes_of rfl) rfl (pmi_range1 (by rfl) B.b_range (pma_cons (pm_v (pv 1)) pma_nil)) (pg_nm (pg_name (i := 4) sc_law_finds.nd rfl (Or.inl rfl))) (pms_one (pms_for (passes_of rfl) rfl (pmi_range1 (by rfl) B.b_range (pma_cons (pm_v (pv 1)) pma_nil)) (pg_nm (pg_name (i := 3) sc_law_finds.nd rfl (Or.inr rfl))) (pms_one (pms_for (passes_of rfl) rfl (pmi_seq rfl (pm_callTy (listK rfl) cm_list (by rfl) B.b_list (by decide +kernel) (pma_cons (pm_ix rfl (hu65 hr) (pm_v (pv 2)) (pm_v (pv 3)) (fun _ _ => rfl) (fun _ _ => rfl)) pma_nil))) (pg_nm (pg_name (i := 5) sc_law_finds.nd rfl (Or.inl rfl))) (pms_one (pms_expr (pm_bm rfl PySem.F.plainAttrs_list PySem.F.slot_list_extend PySem.F.type_list_extend mt_extend mm_ext (pm_ix rfl (hu65 hr) (pm_v (pv 2)) (pm_v (pv 3)) (fun _ _ => rfl) (fun _ _ => rfl)) (pma_cons (pm_lc (own := [("x", 6)]) (by rfl) sc_law_finds.nd (pmi_seq rfl (pm_ix rfl (hu65 hr) (pm_v (pv 0)) (pm_v (pv 5)) (fun _ _ => rfl) (fun _ _ => rfl))) (blkOk_by (own := [("x", 6)]) (N := N_law_finds) (sc := defScope s_law_finds) (by decide +kernel)) (by decide) (fun _ _ _ _ _ => (pg_nm (pg_name (i := 6) sc_law_finds.nd rfl (Or.inl rfl)))) (fun _ _ _ _ _ => (pts_some (pmt_cmp (op_ninA rfl (hu65 hr)) (om_in true) (pm_v (pv 6)) (pm_ix rfl (hu65 hr) (pm_v (pv 2)) (pm_v (pv 3)) (fun _ _ => rfl) (fun _ _ => rfl)) (by rfl)))) (fun _ _ _ _ _ => (pm_v (pv 6)))) pma_nil)))))))))
      (pms_one (pms_ret (pm_callTy (tupleK rfl) cm_tuple (by rfl) B.b_tuple (by decide +kernel) (pma_cons (pm_lc (own := [("lot", 7)]) (by rfl) sc_law_finds.nd (pmi_seq rfl (pm_v (pv 2))) (blkOk_by (own := [("lot", 7)]) (N := N_law_finds) (sc := defScope s_law_finds) (by decide +kernel)) (by decide) (fun _ _ _ _ _ => (pg_nm (pg_name (i := 7) sc_law_finds.nd rfl (Or.inl rfl)))) (fun _ _ _ _ _ => pts_none) (fun _ _ _ _ _ => (pm_callTy (tupleK rfl) cm_tuple (by rfl) B.b_tuple (by decide +kernel) (pma_cons (pm_callB (call_sortedA rfl rfl (hu65 hr)) cm_sorted (by rfl) B.b_sorted (by decide +kernel) (pma_cons (pm_v (pv 7)) pma_nil)) pma_nil)))) pma_nil)))))))
theorem K__law_union (B : Bl mg) (B2 : Bl2 mg) (D : Dfn K mg "_law_union" s_law_union ["web", "letters"]) (G_law_web : KM P w K mg base 1 "_law_web" ["cards", "many"] M__law_web) (G_law_cards : KM P w K mg base 1 "_law_cards" ["web"] M__law_cards) : KM P w K mg base 2 "_law_union" ["web", "letters"] M__law_union := fun h0 =>
  Dfn.keptM (N := N_law_union) (k := 1) (h0 := h0) D sc_law_union fun f cdv A ou s H E hr => by
    have tk := takes_of (X := cxOf (L2.CX P w) P w K mg base N_law_union "_law_union" (defScope s_law_union) f cdv A ou s H E) (E := E) rfl rfl rfl rfl
    have hx := passAt tk
    exact (pms_cons (pms_set (i := 2) sc_law_union.nd rfl (Or.inl rfl) (pm_add rfl (pm_call (G_law_cards H) rfl rfl rfl rfl rfl (hr.mono (by decide)) (by rfl) hx (pma_cons (pm_v (pv 0)) pma_nil)) (pm_callTy (listK rfl) cm_list (by rfl) B.b_list (by decide +kernel) (pma_cons (pm_v (pv 1)) pma_nil))))
      (pms_one (pms_ret (pm_call (G_law_web H) rfl rfl rfl rfl rfl (hr.mono (by decide)) (by rfl) hx (pma_cons (pm_v (pv 2)) (pma_cons (pm_callB (call_lenA rfl) cm_len (by rfl) B.b_len PySem.boot_len (pma_cons (pm_v (pv 0)) pma_nil)) pma_nil))))))
theorem K__law_done (B : Bl mg) (B2 : Bl2 mg) (D : Dfn K mg "_law_done" s_law_done ["standing", "deed"]) : KM P w K mg base 1 "_law_done" ["standing", "deed"] M__law_done := fun h0 =>
  Dfn.keptM (N := N_law_done) (k := 0) (h0 := h0) D sc_law_done fun f cdv A ou s H E hr => by
    have tk := takes_of (X := cxOf (L2.CX P w) P w K mg base N_law_done "_law_done" (defScope s_law_done) f cdv A ou s H E) (E := E) rfl rfl rfl rfl
    have hx := passAt tk
    exact (pms_cons (pms_asg (pm_v (pv 0)) (pg_tp rfl rfl (pgs_more (pg_nm (pg_name (i := 2) sc_law_done.nd rfl (Or.inl rfl))) (pgs_more (pg_nm (pg_name (i := 3) sc_law_done.nd rfl (Or.inl rfl))) pgs_none))))
      (pms_cons (pms_setLc (i := 4) (own := [("pocket", 5)]) (by rfl) sc_law_done.nd (pmi_seq rfl (pm_v (pv 2))) (blkOk_by (own := [("pocket", 5)]) (N := N_law_done) (sc := defScope s_law_done) (by decide +kernel)) (by decide) (fun _ _ _ _ _ => (pg_nm (pg_name (i := 5) sc_law_done.nd rfl (Or.inl rfl)))) (fun _ _ _ _ _ => pts_none) (fun _ _ _ _ _ => (pm_callTy (listK rfl) cm_listM (by rfl) B.b_list (by decide +kernel) (pma_cons (pm_v (pv 5)) pma_nil))) (by intro _; rfl) rfl rfl (sw_true rfl rfl rfl (by decide +kernel)))
      (pms_cons (pms_set (i := 6) sc_law_done.nd rfl (Or.inl rfl) (pm_callTy (listK rfl) cm_listM (by rfl) B.b_list (by decide +kernel) (pma_cons (pm_v (pv 3)) pma_nil)))
      (pms_cons (pms_if (pmt_cmp (op_eqA rfl (hu65 hr)) om_eq (pm_ix rfl (hu65 hr) (pm_v (pv 1)) (pm_c (.int 0) pe_int (fun _ _ => rfl)) (fun _ _ => rfl) (fun _ _ => rfl)) (pm_c (.str "come") pe_str (fun _ _ => rfl)) (nomark _)) (pms_cons (pms_expr (pm_bm rfl PySem.F.plainAttrs_list PySem.F.slot_list_remove PySem.F.type_list_remove (mt_remD rfl (hu65 hr)) mm_rem (pm_v (pv 6)) (pma_cons (pm_slice rfl (pm_v (pv 1)) (pmo_some (pm_c (.int 1) pe_int (fun _ _ => rfl))) pmo_none) pma_nil)))
      (pms_one (pms_expr (pm_bm rfl PySem.F.plainAttrs_list PySem.F.slot_list_append PySem.F.type_list_append mt_append mm_app (pm_ix rfl (hu65 hr) (pm_v (pv 4)) (pm_ix rfl (hu65 hr) (pm_v (pv 1)) (pm_c (.int 1) pe_int (fun _ _ => rfl)) (fun _ _ => rfl) (fun _ _ => rfl)) (fun _ _ => rfl) (fun _ _ => rfl)) (pma_cons (pm_ix rfl (hu65 hr) (pm_v (pv 1)) (pm_c (.int 2) pe_int (fun _ _ => rfl)) (fun _ _ => rfl) (fun _ _ => rfl)) pma_nil))))) (pms_one (pms_if (pmt_cmp (op_eqA rfl (hu65 hr)) om_eq (pm_ix rfl (hu65 hr) (pm_v (pv 1)) (pm_c (.int 0) pe_int (fun _ _ => rfl)) (fun _ _ => rfl) (fun _ _ => rfl)) (pm_c (.str "turn") pe_str (fun _ _ => rfl)) (nomark _)) (pms_cons (pms_expr (pm_bm rfl PySem.F.plainAttrs_list PySem.F.slot_list_remove PySem.F.type_list_remove (mt_remD rfl (hu65 hr)) mm_rem (pm_ix rfl (hu65 hr) (pm_v (pv 4)) (pm_ix rfl (hu65 hr) (pm_v (pv 1)) (pm_c (.int 1) pe_int (fun _ _ => rfl)) (fun _ _ => rfl) (fun _ _ => rfl)) (fun _ _ => rfl) (fun _ _ => rfl)) (pma_cons (pm_ix rfl (hu65 hr) (pm_v (pv 1)) (pm_c (.int 2) pe_int (fun _ _ => rfl)) (fun _ _ => rfl) (fun _ _ => rfl)) pma_nil)))
      (pms_one (pms_expr (pm_bm rfl PySem.F.plainAttrs_list PySem.F.slot_list_append PySem.F.type_list_append mt_append mm_app (pm_v (pv 6)) (pma_cons (pm_tup (pma_cons (pm_ix rfl (hu65 hr) (pm_v (pv 1)) (pm_c (.int 2) pe_int (fun _ _ => rfl)) (fun _ _ => rfl) (fun _ _ => rfl)) (pma_cons (pm_ix rfl (hu65 hr) (pm_v (pv 1)) (pm_c (.int 1) pe_int (fun _ _ => rfl)) (fun _ _ => rfl) (fun _ _ => rfl)) pma_nil))) pma_nil))))) (pms_cons (pms_if (pmt_cmp (op_eqA rfl (hu65 hr)) om_eq (pm_ix rfl (hu65 hr) (pm_v (pv 1)) (pm_c (.int 0) pe_int (fun _ _ => rfl)) (fun _ _ => rfl) (fun _ _ => rfl)) (pm_c (.str "give") pe_str (fun _ _ => rfl)) (nomark _)) (pms_one (pms_expr (pm_bm rfl PySem.F.plainAttrs_list PySem.F.slot_list_remove PySem.F.type_list_remove (mt_remD rfl (hu65 hr)) mm_rem (pm_ix rfl (hu65 hr) (pm_v (pv 4)) (pm_ix rfl (hu65 hr) (pm_v (pv 1)) (pm_c (.int 1) pe_int (fun _ _ => rfl)) (fun _ _ => rfl) (fun _ _ => rfl)) (fun _ _ => rfl) (fun _ _ => rfl)) (pma_cons (pm_ix rfl (hu65 hr) (pm_v (pv 1)) (pm_c (.int 3) pe_int (fun _ _ => rfl)) (fun _ _ => rfl) (fun _ _ => rfl)) pma_nil)))) pms_nil)
      (pms_one (pms_expr (pm_bm rfl PySem.F.plainAttrs_list PySem.F.slot_list_append PySem.F.type_list_append mt_append mm_app (pm_v (pv 6)) (pma_cons (pm_slice rfl (pm_v (pv 1)) (pmo_some (pm_c (.int 2) pe_int (fun _ _ => rfl))) pmo_none) pma_nil))))))))
      (pms_one (pms_ret (pm_tup (pma_cons (pm_callTy (tupleK rfl) cm_tuple (by rfl) B.b_tuple (by decide +kernel) (pma_cons (pm_lc (own := [("pocket", 5)]) (by rfl) sc_law_done.nd (pmi_seq rfl (pm_v (pv 4))) (blkOk_by (own := [("pocket", 5)]) (N := N_law_done) (sc := defScope s_law_done) (by decide +kernel)) (by decide) (fun _ _ _ _ _ => (pg_nm (pg_name (i := 5) sc_law_done.nd rfl (Or.inl rfl)))) (fun _ _ _ _ _ => pts_none) (fun _ _ _ _ _ => (pm_callTy (tupleK rfl) cm_tuple (by rfl) B.b_tuple (by decide +kernel) (pma_cons (pm_sortSetOf rfl rfl rfl rfl (hu65 hr) (by rfl) B.b_sorted (by rfl) B.b_set (by decide +kernel) (by decide +kernel) (pm_v (pv 5))) pma_nil)))) pma_nil)) (pma_cons (pm_callTy (tupleK rfl) cm_tuple (by rfl) B.b_tuple (by decide +kernel) (pma_cons (pm_sortSetOf rfl rfl rfl rfl (hu65 hr) (by rfl) B.b_sorted (by rfl) B.b_set (by decide +kernel) (by decide +kernel) (pm_v (pv 6))) pma_nil)) pma_nil)))))))))
theorem K__law_deeds (B : Bl mg) (B2 : Bl2 mg) (D : Dfn K mg "_law_deeds" s_law_deeds ["standing", "turning"]) : KM P w K mg base 1 "_law_deeds" ["standing", "turning"] M__law_deeds := fun h0 =>
  Dfn.keptM (N := N_law_deeds) (k := 0) (h0 := h0) D sc_law_deeds fun f cdv A ou s H E hr => by
    have tk := takes_of (X := cxOf (L2.CX P w) P w K mg base N_law_deeds "_law_deeds" (defScope s_law_deeds) f cdv A ou s H E) (E := E) rfl rfl rfl rfl
    have hx := passAt tk
    exact (pms_cons (pms_asg (pm_v (pv 0)) (pg_tp rfl rfl (pgs_more (pg_nm (pg_name (i := 2) sc_law_deeds.nd rfl (Or.inl rfl))) (pgs_more (pg_nm (pg_name (i := 3) sc_law_deeds.nd rfl (Or.inl rfl))) pgs_none))))
      (pms_cons (pms_setLcM (i := 4) (own := [("letter", 5)]) (by rfl) sc_law_deeds.nd (pmi_seq rfl (pm_v (pv 3))) (blkOk_by (own := [("letter", 5)]) (N := N_law_deeds) (sc := defScope s_law_deeds) (by decide +kernel)) (by decide) (fun _ _ _ _ _ => (pg_nm (pg_name (i := 5) sc_law_deeds.nd rfl (Or.inl rfl)))) (fun _ _ _ _ _ => pts_none) (fun _ _ _ _ _ => (pm_add rfl (pm_tup (pma_cons (pm_c (.str "come") pe_str (fun _ _ => rfl)) pma_nil)) (pm_v (pv 5)))) (by intro _; rfl) rfl rfl (sw_true rfl rfl rfl (by decide +kernel)))
      (pms_cons (pms_for (passes_of rfl) rfl (pmi_range1 (by rfl) B.b_range (pma_cons (pm_callB (call_lenA rfl) cm_len (by rfl) B.b_len PySem.boot_len (pma_cons (pm_v (pv 2)) pma_nil)) pma_nil)) (pg_nm (pg_name (i := 6) sc_law_deeds.nd rfl (Or.inl rfl))) (pms_one (pms_for (passes_of rfl) rfl (pmi_seq rfl (pm_ix rfl (hu65 hr) (pm_v (pv 2)) (pm_v (pv 6)) (fun _ _ => rfl) (fun _ _ => rfl))) (pg_nm (pg_name (i := 7) sc_law_deeds.nd rfl (Or.inl rfl))) (pms_cons (pms_expr (pm_bm rfl PySem.F.plainAttrs_list PySem.F.slot_list_append PySem.F.type_list_append mt_append mm_app (pm_v (pv 4)) (pma_cons (pm_tup (pma_cons (pm_c (.str "show") pe_str (fun _ _ => rfl)) (pma_cons (pm_v (pv 6)) (pma_cons (pm_v (pv 7)) (pma_cons (pm_v (pv 6)) pma_nil))))) pma_nil)))
      (pms_cons (pms_for (passes_of rfl) rfl (pmi_seq rfl (pm_ix rfl (hu65 hr) (pm_v (pv 2)) (pm_v (pv 6)) (fun _ _ => rfl) (fun _ _ => rfl))) (pg_nm (pg_name (i := 8) sc_law_deeds.nd rfl (Or.inl rfl))) (pms_one (pms_if (pmt_cmp (op_neA rfl (hu65 hr)) om_ne (pm_v (pv 8)) (pm_v (pv 7)) (nomark _)) (pms_one (pms_expr (pm_bm rfl PySem.F.plainAttrs_list PySem.F.slot_list_extend PySem.F.type_list_extend mt_extend mm_ext (pm_v (pv 4)) (pma_cons (pm_lst (pma_cons (pm_tup (pma_cons (pm_c (.str "show") pe_str (fun _ _ => rfl)) (pma_cons (pm_v (pv 6)) (pma_cons (pm_v (pv 7)) (pma_cons (pm_v (pv 8)) pma_nil))))) (pma_cons (pm_tup (pma_cons (pm_c (.str "give") pe_str (fun _ _ => rfl)) (pma_cons (pm_v (pv 6)) (pma_cons (pm_v (pv 7)) (pma_cons (pm_v (pv 8)) pma_nil))))) pma_nil))) pma_nil)))) pms_nil)))
      (pms_one (pms_if (pmt_truth rfl (pm_v (pv 1)) (by intro _; rfl)) (pms_one (pms_expr (pm_bm rfl PySem.F.plainAttrs_list PySem.F.slot_list_append PySem.F.type_list_append mt_append mm_app (pm_v (pv 4)) (pma_cons (pm_tup (pma_cons (pm_c (.str "turn") pe_str (fun _ _ => rfl)) (pma_cons (pm_v (pv 6)) (pma_cons (pm_v (pv 7)) pma_nil)))) pma_nil)))) pms_nil)))))))
      (pms_one (pms_ret (pm_v (pv 4)))))))
theorem K__law_full (B : Bl mg) (B2 : Bl2 mg) (D : Dfn K mg "_law_full" s_law_full ["web", "wish"]) (G_law_web : KM P w K mg base 1 "_law_web" ["cards", "many"] M__law_web) (G_law_cards : KM P w K mg base 1 "_law_cards" ["web"] M__law_cards) (G_law_finds : KM P w K mg base 1 "_law_finds" ["web"] M__law_finds) : KM P w K mg base 2 "_law_full" ["web", "wish"] M__law_full := fun h0 =>
  Dfn.keptM (N := N_law_full) (k := 1) (h0 := h0) D sc_law_full fun f cdv A ou s H E hr => by
    have tk := takes_of (X := cxOf (L2.CX P w) P w K mg base N_law_full "_law_full" (defScope s_law_full) f cdv A ou s H E) (E := E) rfl rfl rfl rfl
    have hx := passAt tk
    exact (pms_cons (pms_set (i := 2) sc_law_full.nd rfl (Or.inr rfl) (pm_call (G_law_finds H) rfl rfl rfl rfl rfl (hr.mono (by decide)) (by rfl) hx (pma_cons (pm_v (pv 1)) pma_nil)))
      (pms_cons (pms_set (i := 3) sc_law_full.nd rfl (Or.inl rfl) (pm_call (G_law_finds H) rfl rfl rfl rfl rfl (hr.mono (by decide)) (by rfl) hx (pma_cons (pm_v (pv 0)) pma_nil)))
      (pms_cons (pms_for (passes_of rfl) rfl (pmi_range1 (by rfl) B.b_range (pma_cons (pm_callB (call_lenA rfl) cm_len (by rfl) B.b_len PySem.boot_len (pma_cons (pm_v (pv 0)) pma_nil)) pma_nil)) (pg_nm (pg_name (i := 4) sc_law_full.nd rfl (Or.inr rfl))) (pms_one (pms_if (pmt_not (pmt_truth rfl (pm_callB (allK rfl rfl) cm_all (by rfl) B.b_all (by decide +kernel) (pma_cons (pm_lc (own := [("w", 5)]) (by rfl) sc_law_full.nd (pmi_seq rfl (pm_ix rfl (hu65 hr) (pm_v (pv 3)) (pm_v (pv 4)) (fun _ _ => rfl) (fun _ _ => rfl))) (blkOk_by (own := [("w", 5)]) (N := N_law_full) (sc := defScope s_law_full) (by decide +kernel)) (by decide) (fun _ _ _ _ _ => (pg_nm (pg_name (i := 5) sc_law_full.nd rfl (Or.inl rfl)))) (fun _ _ _ _ _ => pts_none) (fun _ _ _ _ _ => (pm_cmp (op_inA rfl (hu65 hr)) (om_in false) (pm_v (pv 5)) (pm_ix rfl (hu65 hr) (pm_v (pv 2)) (pm_v (pv 4)) (fun _ _ => rfl) (fun _ _ => rfl)) (by rfl)))) pma_nil)) (by intro _; rfl))) (pms_one (pms_ret (pm_c .non pe_non (fun _ _ => rfl)))) pms_nil)))
      (pms_cons (pms_set (i := 6) sc_law_full.nd rfl (Or.inl rfl) (pm_call (G_law_cards H) rfl rfl rfl rfl rfl (hr.mono (by decide)) (by rfl) hx (pma_cons (pm_v (pv 0)) pma_nil)))
      (pms_cons (pms_set (i := 7) sc_law_full.nd rfl (Or.inl rfl) (pm_c (.bl true) pe_bl (fun _ _ => rfl)))
      (pms_cons (pms_while (passes_of rfl) (pmt_truth rfl (pm_v (pv 7)) (by intro _; rfl)) (pms_cons (pms_set (i := 7) sc_law_full.nd rfl (Or.inl rfl) (pm_c (.bl false) pe_bl (fun _ _ => rfl)))
      (pms_one (pms_for (passes_of rfl) rfl (pmi_seq rfl (pm_callTy (listK rfl) cm_list (by rfl) B.b_list (by decide +kernel) (pma_cons (pm_v (pv 6)) pma_nil))) (pg_tp rfl rfl (pgs_more (pg_nm (pg_name (i := 4) sc_law_full.nd rfl (Or.inr rfl))) (pgs_more (pg_nm (pg_name (i := 8) sc_law_full.nd rfl (Or.inl rfl))) pgs_none))) (pms_one (pms_for (passes_of rfl) rfl (pmi_seq rfl (pm_add rfl (pm_lst (pma_cons (pm_v (pv 4)) pma_nil)) (pm_lc (own := [("pair", 9)]) (by rfl) sc_law_full.nd (pmi_seq rfl (pm_v (pv 6))) (blkOk_by (own := [("pair", 9)]) (N := N_law_full) (sc := defScope s_law_full) (by decide +kernel)) (by decide) (fun _ _ _ _ _ => (pg_nm (pg_name (i := 9) sc_law_full.nd rfl (Or.inl rfl)))) (fun _ _ _ _ _ => (pts_some (pmt_cmp (op_eqA rfl (hu65 hr)) om_eq (pm_ix rfl (hu65 hr) (pm_v (pv 9)) (pm_c (.int 0) pe_int (fun _ _ => rfl)) (fun _ _ => rfl) (fun _ _ => rfl)) (pm_v (pv 4)) (nomark _)))) (fun _ _ _ _ _ => (pm_ix rfl (hu65 hr) (pm_v (pv 9)) (pm_c (.int 1) pe_int (fun _ _ => rfl)) (fun _ _ => rfl) (fun _ _ => rfl)))))) (pg_nm (pg_name (i := 5) sc_law_full.nd rfl (Or.inl rfl))) (pms_one (pms_if (pmt_w (pmw_and (pmt_cmp (op_neA rfl (hu65 hr)) om_ne (pm_v (pv 5)) (pm_v (pv 8)) (nomark _)) (pmw_and (pmt_cmp (op_ninA rfl (hu65 hr)) (om_in true) (pm_tup (pma_cons (pm_v (pv 8)) (pma_cons (pm_v (pv 5)) pma_nil))) (pm_v (pv 6)) (by rfl)) (pmw_and1 (pmt_cmp (op_inA rfl (hu65 hr)) (om_in false) (pm_v (pv 5)) (pm_ix rfl (hu65 hr) (pm_v (pv 2)) (pm_v (pv 8)) (fun _ _ => rfl) (fun _ _ => rfl)) (by rfl)))))) (pms_cons (pms_expr (pm_bm rfl PySem.F.plainAttrs_list PySem.F.slot_list_append PySem.F.type_list_append mt_append mm_app (pm_v (pv 6)) (pma_cons (pm_tup (pma_cons (pm_v (pv 8)) (pma_cons (pm_v (pv 5)) pma_nil))) pma_nil)))
      (pms_one (pms_set (i := 7) sc_law_full.nd rfl (Or.inl rfl) (pm_c (.bl true) pe_bl (fun _ _ => rfl))))) pms_nil))))))))
      (pms_one (pms_ret (pm_call (G_law_web H) rfl rfl rfl rfl rfl (hr.mono (by decide)) (by rfl) hx (pma_cons (pm_v (pv 6)) (pma_cons (pm_callB (call_lenA rfl) cm_len (by rfl) B.b_len PySem.boot_len (pma_cons (pm_v (pv 0)) pma_nil)) pma_nil)))))))))))
theorem K__law_lack (B : Bl mg) (B2 : Bl2 mg) (D : Dfn K mg "_law_lack" s_law_lack ["web", "wish"]) (G_law_finds : KM P w K mg base 1 "_law_finds" ["web"] M__law_finds) (G_law_full : KM P w K mg base 2 "_law_full" ["web", "wish"] M__law_full) : KM P w K mg base 3 "_law_lack" ["web", "wish"] M__law_lack := fun h0 =>
  Dfn.keptM (N := N_law_lack) (k := 2) (h0 := h0) D sc_law_lack fun f cdv A ou s H E hr => by
    have tk := takes_of (X := cxOf (L2.CX P w) P w K mg base N_law_lack "_law_lack" (defScope s_law_lack) f cdv A ou s H E) (E := E) rfl rfl rfl rfl
    have hx := passAt tk
    exact (pms_cons (pms_par (i := 2) (j := 3) rfl sc_law_lack.nd rfl rfl (by decide) rfl rfl (pma_cons (pm_call (G_law_finds H) rfl rfl rfl rfl rfl (hr.mono (by decide)) (by rfl) hx (pma_cons (pm_v (pv 0)) pma_nil)) (pma_cons (pm_call (G_law_finds H) rfl rfl rfl rfl rfl (hr.mono (by decide)) (by rfl) hx (pma_cons (pm_v (pv 1)) pma_nil)) pma_nil)) (by rfl))
      (pms_cons (pms_for (passes_of rfl) rfl (pmi_range1 (by rfl) B.b_range (pma_cons (pm_callB (call_lenA rfl) cm_len (by rfl) B.b_len PySem.boot_len (pma_cons (pm_v (pv 0)) pma_nil)) pma_nil)) (pg_nm (pg_name (i := 4) sc_law_lack.nd rfl (Or.inl rfl))) (pms_one (pms_for (passes_of rfl) rfl (pmi_seq rfl (pm_ix rfl (hu65 hr) (pm_v (pv 2)) (pm_v (pv 4)) (fun _ _ => rfl) (fun _ _ => rfl))) (pg_nm (pg_name (i := 5) sc_law_lack.nd rfl (Or.inl rfl))) (pms_one (pms_if (pmt_cmp (op_ninA rfl (hu65 hr)) (om_in true) (pm_v (pv 5)) (pm_ix rfl (hu65 hr) (pm_v (pv 3)) (pm_v (pv 4)) (fun _ _ => rfl) (fun _ _ => rfl)) (by rfl)) (pms_one (pms_ret (pm_tup (pma_cons (pm_c (.str "found") pe_str (fun _ _ => rfl)) (pma_cons (pm_v (pv 4)) (pma_cons (pm_v (pv 5)) pma_nil)))))) pms_nil)))))
      (pms_cons (pms_set (i := 6) sc_law_lack.nd rfl (Or.inl rfl) (pm_call (G_law_full H) rfl rfl rfl rfl rfl (hr.mono (by decide)) (by rfl) hx (pma_cons (pm_v (pv 0)) (pma_cons (pm_v (pv 1)) pma_nil))))
      (pms_cons (pms_for (passes_of rfl) rfl (pmi_range1 (by rfl) B.b_range (pma_cons (pm_callB (call_lenA rfl) cm_len (by rfl) B.b_len PySem.boot_len (pma_cons (pm_v (pv 0)) pma_nil)) pma_nil)) (pg_nm (pg_name (i := 4) sc_law_lack.nd rfl (Or.inl rfl))) (pms_one (pms_for (passes_of rfl) rfl (pmi_seq rfl (pm_ix rfl (hu65 hr) (pm_v (pv 1)) (pm_v (pv 4)) (fun _ _ => rfl) (fun _ _ => rfl))) (pg_nm (pg_name (i := 5) sc_law_lack.nd rfl (Or.inl rfl))) (pms_one (pms_if (pmt_cmp (op_ninA rfl (hu65 hr)) (om_in true) (pm_v (pv 5)) (pm_ix rfl (hu65 hr) (pm_v (pv 6)) (pm_v (pv 4)) (fun _ _ => rfl) (fun _ _ => rfl)) (by rfl)) (pms_one (pms_ret (pm_tup (pma_cons (pm_c (.str "card") pe_str (fun _ _ => rfl)) (pma_cons (pm_v (pv 4)) (pma_cons (pm_v (pv 5)) pma_nil)))))) pms_nil)))))
      (pms_one (pms_ret (pm_c .non pe_non (fun _ _ => rfl))))))))
theorem K__law_wish (B : Bl mg) (B2 : Bl2 mg) (D : Dfn K mg "_law_wish" s_law_wish ["hand", "web", "turning"]) (G_law_draw : KM P w K mg base 1 "_law_draw" ["pot", "many"] M__law_draw) (G_law_pairs : KM P w K mg base 1 "_law_pairs" ["many"] M__law_pairs) (G_law_web : KM P w K mg base 1 "_law_web" ["cards", "many"] M__law_web) (G_law_cards : KM P w K mg base 1 "_law_cards" ["web"] M__law_cards) (G_law_drawn_web : KM P w K mg base 2 "_law_drawn_web" ["hand", "many", "rare"] M__law_drawn_web) (G_law_union : KM P w K mg base 2 "_law_union" ["web", "letters"] M__law_union) (G_law_done : KM P w K mg base 1 "_law_done" ["standing", "deed"] M__law_done) (G_law_deeds : KM P w K mg base 1 "_law_deeds" ["standing", "turning"] M__law_deeds) : KM P w K mg base 3 "_law_wish" ["hand", "web", "turning"] M__law_wish := fun h0 =>
  Dfn.keptM (N := N_law_wish) (k := 2) (h0 := h0) D sc_law_wish fun f cdv A ou s H E hr => by
    have tk := takes_of (X := cxOf (L2.CX P w) P w K mg base N_law_wish "_law_wish" (defScope s_law_wish) f cdv A ou s H E) (E := E) rfl rfl rfl rfl
    have hx := passAt tk
    exact (pms_cons (pms_set (i := 3) sc_law_wish.nd rfl (Or.inl rfl) (pm_callB (call_lenA rfl) cm_len (by rfl) B.b_len PySem.boot_len (pma_cons (pm_v (pv 1)) pma_nil)))
      (pms_cons (pms_set (i := 4) sc_law_wish.nd rfl (Or.inl rfl) (pm_call (G_law_draw H) rfl rfl rfl rfl rfl (hr.mono (by decide)) (by rfl) hx (pma_cons (pm_v (pv 0)) (pma_cons (pm_c (.int 4) pe_int (fun _ _ => rfl)) pma_nil))))
      (pms_cons (pms_if (pmt_cmp (op_eqA rfl (hu65 hr)) om_eq (pm_v (pv 4)) (pm_c (.int 0) pe_int (fun _ _ => rfl)) (nomark _)) (pms_one (pms_ret (pm_call (G_law_drawn_web H) rfl rfl rfl rfl rfl (hr.mono (by decide)) (by rfl) hx (pma_cons (pm_v (pv 0)) (pma_cons (pm_v (pv 3)) (pma_cons (pm_add rfl (pm_c (.int 2) pe_int (fun _ _ => rfl)) (pm_call (G_law_draw H) rfl rfl rfl rfl rfl (hr.mono (by decide)) (by rfl) hx (pma_cons (pm_v (pv 0)) (pma_cons (pm_c (.int 3) pe_int (fun _ _ => rfl)) pma_nil)))) pma_nil)))))) pms_nil)
      (pms_cons (pms_set (i := 5) sc_law_wish.nd rfl (Or.inl rfl) (pm_tup (pma_cons (pm_v (pv 1)) (pma_cons (pm_tup pma_nil) pma_nil))))
      (pms_cons (pms_for (passes_of rfl) rfl (pmi_range1 (by rfl) B.b_range (pma_cons (pm_call (G_law_draw H) rfl rfl rfl rfl rfl (hr.mono (by decide)) (by rfl) hx (pma_cons (pm_v (pv 0)) (pma_cons (pm_mul rfl (pm_c (.int 6) pe_int (fun _ _ => rfl)) (pm_v (pv 3))) pma_nil))) pma_nil)) (pg_nm (pg_name (i := 6) sc_law_wish.nd rfl (Or.inl rfl))) (pms_cons (pms_set (i := 7) sc_law_wish.nd rfl (Or.inl rfl) (pm_call (G_law_deeds H) rfl rfl rfl rfl rfl (hr.mono (by decide)) (by rfl) hx (pma_cons (pm_v (pv 5)) (pma_cons (pm_v (pv 2)) pma_nil))))
      (pms_one (pms_if (pmt_cmp op_gt (om_cmpI _) (pm_callB (call_lenA rfl) cm_len (by rfl) B.b_len PySem.boot_len (pma_cons (pm_v (pv 7)) pma_nil)) (pm_c (.int 0) pe_int (fun _ _ => rfl)) (nomark _)) (pms_one (pms_set (i := 5) sc_law_wish.nd rfl (Or.inl rfl) (pm_call (G_law_done H) rfl rfl rfl rfl rfl (hr.mono (by decide)) (by rfl) hx (pma_cons (pm_v (pv 5)) (pma_cons (pm_ix rfl (hu65 hr) (pm_v (pv 7)) (pm_call (G_law_draw H) rfl rfl rfl rfl rfl (hr.mono (by decide)) (by rfl) hx (pma_cons (pm_v (pv 0)) (pma_cons (pm_callB (call_lenA rfl) cm_len (by rfl) B.b_len PySem.boot_len (pma_cons (pm_v (pv 7)) pma_nil)) pma_nil))) (fun _ _ => rfl) (fun _ _ => rfl)) pma_nil))))) pms_nil))))
      (pms_cons (pms_set (i := 8) sc_law_wish.nd rfl (Or.inl rfl) (pm_call (G_law_cards H) rfl rfl rfl rfl rfl (hr.mono (by decide)) (by rfl) hx (pma_cons (pm_call (G_law_union H) rfl rfl rfl rfl rfl (hr.mono (by decide)) (by rfl) hx (pma_cons (pm_ix rfl (hu65 hr) (pm_v (pv 5)) (pm_c (.int 0) pe_int (fun _ _ => rfl)) (fun _ _ => rfl) (fun _ _ => rfl)) (pma_cons (pm_ix rfl (hu65 hr) (pm_v (pv 5)) (pm_c (.int 1) pe_int (fun _ _ => rfl)) (fun _ _ => rfl) (fun _ _ => rfl)) pma_nil))) pma_nil)))
      (pms_cons (pms_if (pmt_cmp (op_eqA rfl (hu65 hr)) om_eq (pm_v (pv 4)) (pm_c (.int 1) pe_int (fun _ _ => rfl)) (nomark _)) (pms_cons (pms_set (i := 9) sc_law_wish.nd rfl (Or.inl rfl) (pm_call (G_law_pairs H) rfl rfl rfl rfl rfl (hr.mono (by decide)) (by rfl) hx (pma_cons (pm_v (pv 3)) pma_nil)))
      (pms_one (pms_if (pmt_cmp op_gt (om_cmpI _) (pm_callB (call_lenA rfl) cm_len (by rfl) B.b_len PySem.boot_len (pma_cons (pm_v (pv 9)) pma_nil)) (pm_c (.int 0) pe_int (fun _ _ => rfl)) (nomark _)) (pms_cons (pms_set (i := 10) sc_law_wish.nd rfl (Or.inr rfl) (pm_ix rfl (hu65 hr) (pm_v (pv 9)) (pm_call (G_law_draw H) rfl rfl rfl rfl rfl (hr.mono (by decide)) (by rfl) hx (pma_cons (pm_v (pv 0)) (pma_cons (pm_callB (call_lenA rfl) cm_len (by rfl) B.b_len PySem.boot_len (pma_cons (pm_v (pv 9)) pma_nil)) pma_nil))) (fun _ _ => rfl) (fun _ _ => rfl)))
      (pms_one (pms_set (i := 8) sc_law_wish.nd rfl (Or.inl rfl) (pm_add rfl (pm_lc (own := [("one", 11)]) (by rfl) sc_law_wish.nd (pmi_seq rfl (pm_v (pv 8))) (blkOk_by (own := [("one", 11)]) (N := N_law_wish) (sc := defScope s_law_wish) (by decide +kernel)) (by decide) (fun _ _ _ _ _ => (pg_nm (pg_name (i := 11) sc_law_wish.nd rfl (Or.inl rfl)))) (fun _ _ _ _ _ => (pts_some (pmt_cmp (op_neA rfl (hu65 hr)) om_ne (pm_v (pv 11)) (pm_v (pv 10)) (nomark _)))) (fun _ _ _ _ _ => (pm_v (pv 11)))) (pm_mul rfl (pm_lst (pma_cons (pm_v (pv 10)) pma_nil)) (pm_call (G_law_draw H) rfl rfl rfl rfl rfl (hr.mono (by decide)) (by rfl) hx (pma_cons (pm_v (pv 0)) (pma_cons (pm_c (.int 2) pe_int (fun _ _ => rfl)) pma_nil)))))))) pms_nil))) pms_nil)
      (pms_one (pms_ret (pm_call (G_law_web H) rfl rfl rfl rfl rfl (hr.mono (by decide)) (by rfl) hx (pma_cons (pm_v (pv 8)) (pma_cons (pm_v (pv 3)) pma_nil))))))))))))
theorem K__law_shown (B : Bl mg) (B2 : Bl2 mg) (D : Dfn K mg "_law_shown" s_law_shown ["hand", "web", "within"]) (G_law_draw : KM P w K mg base 1 "_law_draw" ["pot", "many"] M__law_draw) (G_law_web : KM P w K mg base 1 "_law_web" ["cards", "many"] M__law_web) (G_law_cards : KM P w K mg base 1 "_law_cards" ["web"] M__law_cards) : KM P w K mg base 2 "_law_shown" ["hand", "web", "within"] M__law_shown := fun h0 =>
  Dfn.keptM (N := N_law_shown) (k := 1) (h0 := h0) D sc_law_shown fun f cdv A ou s H E hr => by
    have tk := takes_of (X := cxOf (L2.CX P w) P w K mg base N_law_shown "_law_shown" (defScope s_law_shown) f cdv A ou s H E) (E := E) rfl rfl rfl rfl
    have hx := passAt tk
    exact (pms_cons (pms_set (i := 3) sc_law_shown.nd rfl (Or.inl rfl) (pm_call (G_law_cards H) rfl rfl rfl rfl rfl (hr.mono (by decide)) (by rfl) hx (pma_cons (pm_v (pv 1)) pma_nil)))
      (pms_cons (pms_for (passes_of rfl) rfl (pmi_range1 (by rfl) B.b_range (pma_cons (pm_c (.int 100) pe_int (fun _ _ => rfl)) pma_nil)) (pg_nm (pg_name (i := 4) sc_law_shown.nd rfl (Or.inl rfl))) (pms_cons (pms_set (i := 5) sc_law_shown.nd rfl (Or.inl rfl) (pm_lstM pma_nil))
      (pms_cons (pms_for (passes_of rfl) rfl (pmi_seq rfl (pm_v (pv 3))) (pg_tp rfl rfl (pgs_more (pg_nm (pg_name (i := 6) sc_law_shown.nd rfl (Or.inr rfl))) (pgs_more (pg_nm (pg_name (i := 7) sc_law_shown.nd rfl (Or.inl rfl))) pgs_none))) (pms_one (pms_for (passes_of rfl) rfl (pmi_seq rfl (pm_add rfl (pm_lst (pma_cons (pm_v (pv 6)) pma_nil)) (pm_lc (own := [("pair", 9)]) (by rfl) sc_law_shown.nd (pmi_seq rfl (pm_v (pv 3))) (blkOk_by (own := [("pair", 9)]) (N := N_law_shown) (sc := defScope s_law_shown) (by decide +kernel)) (by decide) (fun _ _ _ _ _ => (pg_nm (pg_name (i := 9) sc_law_shown.nd rfl (Or.inl rfl)))) (fun _ _ _ _ _ => (pts_some (pmt_cmp (op_eqA rfl (hu65 hr)) om_eq (pm_ix rfl (hu65 hr) (pm_v (pv 9)) (pm_c (.int 0) pe_int (fun _ _ => rfl)) (fun _ _ => rfl) (fun _ _ => rfl)) (pm_v (pv 6)) (nomark _)))) (fun _ _ _ _ _ => (pm_ix rfl (hu65 hr) (pm_v (pv 9)) (pm_c (.int 1) pe_int (fun _ _ => rfl)) (fun _ _ => rfl) (fun _ _ => rfl)))))) (pg_nm (pg_name (i := 8) sc_law_shown.nd rfl (Or.inl rfl))) (pms_one (pms_if (pmt_w (pmw_and (pmt_cmp (op_neA rfl (hu65 hr)) om_ne (pm_v (pv 8)) (pm_v (pv 7)) (nomark _)) (pmw_and (pmt_cmp (op_ninA rfl (hu65 hr)) (om_in true) (pm_tup (pma_cons (pm_v (pv 7)) (pma_cons (pm_v (pv 8)) pma_nil))) (pm_v (pv 3)) (by rfl)) (pmw_and1 (pmt_cmp (op_inA rfl (hu65 hr)) (om_in false) (pm_v (pv 8)) (pm_ix rfl (hu65 hr) (pm_v (pv 2)) (pm_v (pv 7)) (fun _ _ => rfl) (fun _ _ => rfl)) (by rfl)))))) (pms_one (pms_expr (pm_bm rfl PySem.F.plainAttrs_list PySem.F.slot_list_append PySem.F.type_list_append mt_append mm_app (pm_v (pv 5)) (pma_cons (pm_tup (pma_cons (pm_v (pv 7)) (pma_cons (pm_v (pv 8)) pma_nil))) pma_nil)))) pms_nil)))))
      (pms_one (pms_if (pmt_cmp op_gt (om_cmpI _) (pm_callB (call_lenA rfl) cm_len (by rfl) B.b_len PySem.boot_len (pma_cons (pm_v (pv 5)) pma_nil)) (pm_c (.int 0) pe_int (fun _ _ => rfl)) (nomark _)) (pms_one (pms_expr (pm_bm rfl PySem.F.plainAttrs_list PySem.F.slot_list_append PySem.F.type_list_append mt_append mm_app (pm_v (pv 3)) (pma_cons (pm_ix rfl (hu65 hr) (pm_v (pv 5)) (pm_call (G_law_draw H) rfl rfl rfl rfl rfl (hr.mono (by decide)) (by rfl) hx (pma_cons (pm_v (pv 0)) (pma_cons (pm_callB (call_lenA rfl) cm_len (by rfl) B.b_len PySem.boot_len (pma_cons (pm_v (pv 5)) pma_nil)) pma_nil))) (fun _ _ => rfl) (fun _ _ => rfl)) pma_nil)))) pms_nil)))))
      (pms_one (pms_ret (pm_call (G_law_web H) rfl rfl rfl rfl rfl (hr.mono (by decide)) (by rfl) hx (pma_cons (pm_v (pv 3)) (pma_cons (pm_callB (call_lenA rfl) cm_len (by rfl) B.b_len PySem.boot_len (pma_cons (pm_v (pv 1)) pma_nil)) pma_nil)))))))
theorem K_law (B : Bl mg) (B2 : Bl2 mg) {fa : Addr} {fd : FuncData} (F : Fun K "law" "law" slaw fa fd) (b : Binds K fd ["script"] []) (gm : mg "law" = some (.ref fa)) (Gfinds : KM P w K mg base 7 "finds" ["web"] M_finds) (Gleads : KM P w K mg base 8 "leads" ["web", "wish", "turning"] M_leads) (Gfull : KM P w K mg base 8 "full" ["web", "wish"] M_full) (Glack : KM P w K mg base 8 "lack" ["web", "wish"] M_lack) (G_law_pot : KM P w K mg base 1 "_law_pot" ["script"] M__law_pot) (G_law_draw : KM P w K mg base 1 "_law_draw" ["pot", "many"] M__law_draw) (G_law_drawn_web : KM P w K mg base 2 "_law_drawn_web" ["hand", "many", "rare"] M__law_drawn_web) (G_law_finds : KM P w K mg base 1 "_law_finds" ["web"] M__law_finds) (G_law_full : KM P w K mg base 2 "_law_full" ["web", "wish"] M__law_full) (G_law_lack : KM P w K mg base 3 "_law_lack" ["web", "wish"] M__law_lack) (G_law_wish : KM P w K mg base 3 "_law_wish" ["hand", "web", "turning"] M__law_wish) (G_law_shown : KM P w K mg base 2 "_law_shown" ["hand", "web", "within"] M__law_shown) : FnOk P w K mg base (L2.CX P w) 9 fa fd ["script"] (spM ⟨P, w, K, mg, none, H0⟩ M_law) :=
  Fun.okM (N := Nlaw) (k := 8) F b gm sclaw fun f cdv A ou s H E hr => by
    have tk := takes_of (X := cxOf (L2.CX P w) P w K mg base Nlaw "law" (defScope slaw) f cdv A ou s H E) (E := E) rfl rfl rfl rfl
    have hx := passAt tk
    exact (pms_cons (pms_set (i := 1) sclaw.nd rfl (Or.inl rfl) (pm_call (G_law_pot H) rfl rfl rfl rfl rfl (hr.mono (by decide)) (by rfl) hx (pma_cons (pm_v (pv 0)) pma_nil)))
      (pms_cons (pms_for (passes_of rfl) rfl (pmi_range1 (by rfl) B.b_range (pma_cons (pm_c (.int 3) pe_int (fun _ _ => rfl)) pma_nil)) (pg_nm (pg_name (i := 2) sclaw.nd rfl (Or.inl rfl))) (pms_cons (pms_set (i := 3) sclaw.nd rfl (Or.inl rfl) (pm_add rfl (pm_c (.int 1) pe_int (fun _ _ => rfl)) (pm_call (G_law_draw H) rfl rfl rfl rfl rfl (hr.mono (by decide)) (by rfl) hx (pma_cons (pm_v (pv 1)) (pma_cons (pm_if (pmt_cmp (op_eqA rfl (hu65 hr)) om_eq (pm_call (G_law_draw H) rfl rfl rfl rfl rfl (hr.mono (by decide)) (by rfl) hx (pma_cons (pm_v (pv 1)) (pma_cons (pm_c (.int 4) pe_int (fun _ _ => rfl)) pma_nil))) (pm_c (.int 0) pe_int (fun _ _ => rfl)) (nomark _)) (pm_c (.int 9) pe_int (fun _ _ => rfl)) (pm_c (.int 5) pe_int (fun _ _ => rfl))) pma_nil)))))
      (pms_cons (pms_set (i := 4) sclaw.nd rfl (Or.inl rfl) (pm_call (G_law_drawn_web H) rfl rfl rfl rfl rfl (hr.mono (by decide)) (by rfl) hx (pma_cons (pm_v (pv 1)) (pma_cons (pm_v (pv 3)) (pma_cons (pm_add rfl (pm_c (.int 2) pe_int (fun _ _ => rfl)) (pm_call (G_law_draw H) rfl rfl rfl rfl rfl (hr.mono (by decide)) (by rfl) hx (pma_cons (pm_v (pv 1)) (pma_cons (pm_c (.int 3) pe_int (fun _ _ => rfl)) pma_nil)))) pma_nil)))))
      (pms_cons (pms_set (i := 5) sclaw.nd rfl (Or.inl rfl) (pm_call (G_law_wish H) rfl rfl rfl rfl rfl (hr.mono (by decide)) (by rfl) hx (pma_cons (pm_v (pv 1)) (pma_cons (pm_v (pv 4)) (pma_cons (pm_c (.bl false) pe_bl (fun _ _ => rfl)) pma_nil)))))
      (pms_cons (pms_set (i := 6) sclaw.nd rfl (Or.inl rfl) (pm_call (Gfull H) rfl rfl rfl rfl rfl (hr.mono (by decide)) (by rfl) hx (pma_cons (pm_v (pv 4)) (pma_cons (pm_v (pv 5)) pma_nil))))
      (pms_cons (pms_if (pmt_w (pmw_or (pmt_cmp (op_neA rfl (hu65 hr)) om_ne (pm_v (pv 6)) (pm_call (G_law_full H) rfl rfl rfl rfl rfl (hr.mono (by decide)) (by rfl) hx (pma_cons (pm_v (pv 4)) (pma_cons (pm_v (pv 5)) pma_nil))) (nomark _)) (pmw_or1 (pmt_cmp (op_neA rfl (hu65 hr)) om_ne (pm_call (Glack H) rfl rfl rfl rfl rfl (hr.mono (by decide)) (by rfl) hx (pma_cons (pm_v (pv 4)) (pma_cons (pm_v (pv 5)) pma_nil))) (pm_call (G_law_lack H) rfl rfl rfl rfl rfl (hr.mono (by decide)) (by rfl) hx (pma_cons (pm_v (pv 4)) (pma_cons (pm_v (pv 5)) pma_nil))) (nomark _))))) (pms_one (pms_ret (pm_c (.bl false) pe_bl (fun _ _ => rfl)))) pms_nil)
      (pms_one (pms_if (pmt_cmp op_notN om_isn (pm_v (pv 6)) (pm_c .non pe_non (fun _ _ => rfl)) (nomark _)) (pms_cons (pms_asg (pm_tup (pma_cons (pm_call (G_law_finds H) rfl rfl rfl rfl rfl (hr.mono (by decide)) (by rfl) hx (pma_cons (pm_v (pv 6)) pma_nil)) (pma_cons (pm_call (G_law_finds H) rfl rfl rfl rfl rfl (hr.mono (by decide)) (by rfl) hx (pma_cons (pm_v (pv 5)) pma_nil)) (pma_cons (pm_call (G_law_finds H) rfl rfl rfl rfl rfl (hr.mono (by decide)) (by rfl) hx (pma_cons (pm_v (pv 4)) pma_nil)) pma_nil)))) (pg_tp rfl rfl (pgs_more (pg_nm (pg_name (i := 7) sclaw.nd rfl (Or.inr rfl))) (pgs_more (pg_nm (pg_name (i := 8) sclaw.nd rfl (Or.inr rfl))) (pgs_more (pg_nm (pg_name (i := 9) sclaw.nd rfl (Or.inl rfl))) pgs_none)))))
      (pms_cons (pms_for (passes_of rfl) rfl (pmi_range1 (by rfl) B.b_range (pma_cons (pm_v (pv 3)) pma_nil)) (pg_nm (pg_name (i := 10) sclaw.nd rfl (Or.inr rfl))) (pms_one (pms_if (pmt_w (pmw_or (pmt_not (pmt_truth rfl (pm_callB (allK rfl rfl) cm_all (by rfl) B.b_all (by decide +kernel) (pma_cons (pm_lc (own := [("w", 11)]) (by rfl) sclaw.nd (pmi_seq rfl (pm_ix rfl (hu65 hr) (pm_v (pv 7)) (pm_v (pv 10)) (fun _ _ => rfl) (fun _ _ => rfl))) (blkOk_by (own := [("w", 11)]) (N := Nlaw) (sc := defScope slaw) (by decide +kernel)) (by decide) (fun _ _ _ _ _ => (pg_nm (pg_name (i := 11) sclaw.nd rfl (Or.inl rfl)))) (fun _ _ _ _ _ => pts_none) (fun _ _ _ _ _ => (pm_cmp (op_inA rfl (hu65 hr)) (om_in false) (pm_v (pv 11)) (pm_ix rfl (hu65 hr) (pm_v (pv 8)) (pm_v (pv 10)) (fun _ _ => rfl) (fun _ _ => rfl)) (by rfl)))) pma_nil)) (by intro _; rfl))) (pmw_or1 (pmt_not (pmt_truth rfl (pm_callB (allK rfl rfl) cm_all (by rfl) B.b_all (by decide +kernel) (pma_cons (pm_lc (own := [("w", 11)]) (by rfl) sclaw.nd (pmi_seq rfl (pm_ix rfl (hu65 hr) (pm_v (pv 9)) (pm_v (pv 10)) (fun _ _ => rfl) (fun _ _ => rfl))) (blkOk_by (own := [("w", 11)]) (N := Nlaw) (sc := defScope slaw) (by decide +kernel)) (by decide) (fun _ _ _ _ _ => (pg_nm (pg_name (i := 11) sclaw.nd rfl (Or.inl rfl)))) (fun _ _ _ _ _ => pts_none) (fun _ _ _ _ _ => (pm_cmp (op_inA rfl (hu65 hr)) (om_in false) (pm_v (pv 11)) (pm_ix rfl (hu65 hr) (pm_v (pv 7)) (pm_v (pv 10)) (fun _ _ => rfl) (fun _ _ => rfl)) (by rfl)))) pma_nil)) (by intro _; rfl)))))) (pms_one (pms_ret (pm_c (.bl false) pe_bl (fun _ _ => rfl)))) pms_nil)))
      (pms_cons (pms_if (pmt_w (pmw_and (pmt_cmp (op_ltA rfl (hr.units0)) om_lt (pm_v (pv 3)) (pm_c (.int 6) pe_int (fun _ _ => rfl)) (nomark _)) (pmw_and1 (pmt_cmp (op_neA rfl (hu65 hr)) om_ne (pm_call (G_law_shown H) rfl rfl rfl rfl rfl (hr.mono (by decide)) (by rfl) hx (pma_cons (pm_v (pv 1)) (pma_cons (pm_v (pv 4)) (pma_cons (pm_v (pv 8)) pma_nil)))) (pm_v (pv 6)) (nomark _))))) (pms_one (pms_ret (pm_c (.bl false) pe_bl (fun _ _ => rfl)))) pms_nil)
      (pms_cons (pms_if (pmt_w (pmw_or (pmt_cmp (op_neA rfl (hu65 hr)) om_ne (pm_call (Gfull H) rfl rfl rfl rfl rfl (hr.mono (by decide)) (by rfl) hx (pma_cons (pm_v (pv 6)) (pma_cons (pm_v (pv 5)) pma_nil))) (pm_v (pv 6)) (nomark _)) (pmw_or1 (pmt_cmp (op_neA rfl (hu65 hr)) om_ne (pm_call (Gfinds H) rfl rfl rfl rfl rfl (hr.mono (by decide)) (by rfl) hx (pma_cons (pm_v (pv 6)) pma_nil)) (pm_v (pv 7)) (nomark _))))) (pms_one (pms_ret (pm_c (.bl false) pe_bl (fun _ _ => rfl)))) pms_nil)
      (pms_one (pms_if (pmt_cmp op_isN om_is (pm_call (Glack H) rfl rfl rfl rfl rfl (hr.mono (by decide)) (by rfl) hx (pma_cons (pm_v (pv 4)) (pma_cons (pm_v (pv 5)) pma_nil))) (pm_c .non pe_non (fun _ _ => rfl)) (nomark _)) (pms_cons (pms_set (i := 12) sclaw.nd rfl (Or.inl rfl) (pm_call (Gfull H) rfl rfl rfl rfl rfl (hr.mono (by decide)) (by rfl) hx (pma_cons (pm_v (pv 5)) (pma_cons (pm_v (pv 5)) pma_nil))))
      (pms_one (pms_if (pmt_w (pmw_or (pmt_cmp op_notBl om_notB (pm_call (Gleads H) rfl rfl rfl rfl rfl (hr.mono (by decide)) (by rfl) hx (pma_cons (pm_v (pv 4)) (pma_cons (pm_v (pv 12)) (pma_cons (pm_c (.bl false) pe_bl (fun _ _ => rfl)) pma_nil)))) (pm_c (.bl true) pe_bl (fun _ _ => rfl)) (nomark _)) (pmw_or1 (pmt_cmp (op_neA rfl (hu65 hr)) om_ne (pm_call (Gfull H) rfl rfl rfl rfl rfl (hr.mono (by decide)) (by rfl) hx (pma_cons (pm_v (pv 4)) (pma_cons (pm_v (pv 12)) pma_nil))) (pm_v (pv 6)) (nomark _))))) (pms_one (pms_ret (pm_c (.bl false) pe_bl (fun _ _ => rfl)))) pms_nil))) pms_nil)))))) pms_nil))))))))
      (pms_one (pms_ret (pm_c (.bl true) pe_bl (fun _ _ => rfl))))))
end
end Lw

set_option maxHeartbeats 4000000
/-! reckoning with mirrors: what a statement, a loop comes to -/
namespace Pl
open PySem PySem.Spec PyProof.Rows L2 Hn
structure Kt where
  nx : Env → Sto → Prop
  rt : D → Sto → Prop := fun _ _ => False
  bk : Env → Sto → Prop := fun _ _ => False
  ct : Env → Sto → Prop := fun _ _ => False
  er : Er → Sto → Prop := fun _ _ => False
def O.wp (o : O) (K : Kt) : Prop := match o with
  | .nx ρ st => K.nx ρ st
  | .rt d st => K.rt d st
  | .bk ρ st => K.bk ρ st
  | .ct ρ st => K.ct ρ st
  | .er e _ st => K.er e st
  | .no => False
@[simp] theorem wp_nx {ρ : Env} {st : Sto} {K : Kt} : (O.nx ρ st).wp K = K.nx ρ st := rfl
@[simp] theorem wp_rt {d : D} {st : Sto} {K : Kt} : (O.rt d st).wp K = K.rt d st := rfl
@[simp] theorem wp_bk {ρ : Env} {st : Sto} {K : Kt} : (O.bk ρ st).wp K = K.bk ρ st := rfl
@[simp] theorem wp_ct {ρ : Env} {st : Sto} {K : Kt} : (O.ct ρ st).wp K = K.ct ρ st := rfl
@[simp] theorem wp_er {e : Er} {ρ : Env} {st : Sto} {K : Kt} : (O.er e ρ st).wp K = K.er e st := rfl
@[simp] theorem wp_no {K : Kt} : O.no.wp K = False := rfl
@[simp] theorem post_okR {α : Type} {a : α} {st : Sto} {P : α → Sto → Prop} {B : Er → Sto → Prop} : (R.ok a st).post P B = P a st := rfl
@[simp] theorem post_erR {α : Type} {e : Er} {st : Sto} {P : α → Sto → Prop} {B : Er → Sto → Prop} : (R.er e st : R α).post P B = B e st := rfl
theorem wp_mono {o : O} {K K' : Kt} (h : o.wp K) (n : ∀ ρ st, K.nx ρ st → K'.nx ρ st) (r : ∀ d st, K.rt d st → K'.rt d st) (b : ∀ ρ st, K.bk ρ st → K'.bk ρ st) (c : ∀ ρ st, K.ct ρ st → K'.ct ρ st) (e : ∀ x st, K.er x st → K'.er x st) : o.wp K' := by
  cases o with
  | nx => exact n _ _ h
  | rt => exact r _ _ h
  | bk => exact b _ _ h
  | ct => exact c _ _ h
  | er => exact e _ _ h
  | no => exact h
theorem wp_seq {a b : Env → Sto → O} {ρ : Env} {st : Sto} {K : Kt} (h : (a ρ st).wp { K with nx := fun ρ st => (b ρ st).wp K }) : (mSeq a b ρ st).wp K := by
  unfold mSeq
  cases e : a ρ st with
  | _ => rw [e] at h; exact h
theorem wp_of {α : Type} {r : R α} {ρ : Env} {k : α → Sto → O} {K : Kt} (h : r.post (fun a st => (k a st).wp K) K.er) : (O.of r ρ k).wp K := by
  cases r with
  | ok a st => exact h
  | er e st => exact h
  | no => exact h
theorem post_bindI {α β : Type} {r : R α} {f : α → Sto → R β} {P : β → Sto → Prop} {B : Er → Sto → Prop} (h : r.post (fun a st => (f a st).post P B) B) : (r.bind f).post P B := by
  cases r with
  | ok a st => exact h
  | er e st => exact h
  | no => exact h
theorem post_eq {α : Type} {r : R α} {a : α} {st : Sto} (h : r.post (fun x s => x = a ∧ s = st) (fun _ _ => False)) : r = .ok a st := by
  cases r with
  | ok x s => obtain ⟨rfl, rfl⟩ := h; rfl
  | er e st => exact h.elim
  | no => exact h.elim
theorem post_ex {α : Type} {r : R α} {P : α → Sto → Prop} (h : r.post P (fun _ _ => False)) : ∃ a st, r = .ok a st ∧ P a st := by
  cases r with
  | ok x s => exact ⟨x, s, rfl, h⟩
  | er e st => exact h.elim
  | no => exact h.elim
theorem wp_ex {o : O} {N : Env → Sto → Prop} (h : o.wp { nx := N }) : ∃ ρ st, o = .nx ρ st ∧ N ρ st := by
  cases o with
  | nx ρ st => exact ⟨ρ, st, rfl, h⟩
  | _ => exact h.elim
/-- a walk step by step -/
theorem for_go {it : Wk} {p : Pat} {b : Env → Sto → O} {K : Kt} (Inv : Nat → Env → Sto → Prop)
    (step : ∀ (i : Nat) (d : D) (ρ : Env) (st : Sto), it.items[i]? = some d → Inv i ρ st → it.stay st ∧ ∃ ρ1, p.set d ρ = some ρ1 ∧ (b ρ1 st).wp { nx := Inv (i + 1), rt := K.rt, bk := K.nx, ct := Inv (i + 1), er := K.er })
    (fin : ∀ ρ st, Inv it.items.length ρ st → it.stay st ∧ K.nx ρ st) : ∀ (n i : Nat) (ρ : Env) (st : Sto), n = it.items.length - i → i ≤ it.items.length → Inv i ρ st → (forGo it p b (it.items.drop i) ρ st).wp K
  | 0, i, ρ, st, hn, hi, h => by
    have e : i = it.items.length := by omega
    subst e
    rw [List.drop_length]
    unfold forGo
    obtain ⟨h1, h2⟩ := fin ρ st h
    rw [if_pos h1]
    exact h2
  | n + 1, i, ρ, st, hn, hi, h => by
    have hl : i < it.items.length := by omega
    rw [List.drop_eq_getElem_cons hl]
    unfold forGo
    obtain ⟨h1, ρ1, e1, h2⟩ := step i it.items[i] ρ st (List.getElem?_eq_getElem hl) h
    rw [if_pos h1, e1]
    simp only [ofOptO_some]
    cases e : b ρ1 st with
    | nx ρ2 st2 => rw [e] at h2; exact for_go Inv step fin n (i + 1) ρ2 st2 (by omega) hl h2
    | ct ρ2 st2 => rw [e] at h2; exact for_go Inv step fin n (i + 1) ρ2 st2 (by omega) hl h2
    | bk ρ2 st2 => rw [e] at h2; exact h2
    | rt d st2 => rw [e] at h2; exact h2
    | er x ρ2 st2 => rw [e] at h2; exact h2
    | no => rw [e] at h2; exact h2
theorem wp_for {mi : Env → Sto → R Wk} {p : Pat} {b : Env → Sto → O} {K : Kt} {ρ : Env} {st st1 : Sto} {it : Wk} (e : mi ρ st = .ok it st1) (Inv : Nat → Env → Sto → Prop) (h0 : Inv 0 ρ st1)
    (step : ∀ (i : Nat) (d : D) (ρ : Env) (st : Sto), it.items[i]? = some d → Inv i ρ st → it.stay st ∧ ∃ ρ1, p.set d ρ = some ρ1 ∧ (b ρ1 st).wp { nx := Inv (i + 1), rt := K.rt, bk := K.nx, ct := Inv (i + 1), er := K.er })
    (fin : ∀ ρ st, Inv it.items.length ρ st → it.stay st ∧ K.nx ρ st) : (mFor mi p b ρ st).wp K := by
  unfold mFor
  rw [e]
  have := for_go Inv step fin it.items.length 0 ρ st1 (by omega) (by omega) h0
  rw [List.drop_zero] at this
  exact this
theorem wp_while {t : Env → Sto → R Bool} {b : Env → Sto → O} {K : Kt} {ρ : Env} {st : Sto} (Inv : Nat → Env → Sto → Prop) (k : Nat) (h0 : Inv k ρ st)
    (step : ∀ (k : Nat) (ρ : Env) (st : Sto), Inv k ρ st → (t ρ st).post (fun c st1 => if c = true then (b ρ st1).wp { nx := fun ρ' st' => ∃ k', k' < k ∧ Inv k' ρ' st', rt := K.rt, bk := K.nx, ct := fun ρ' st' => ∃ k', k' < k ∧ Inv k' ρ' st', er := K.er } else K.nx ρ st1) K.er) :
    (mWhile t b ρ st).wp K := by
  have key : ∀ (k : Nat) (ρ : Env) (st : Sto), Inv k ρ st → ∃ n, (whileN t b n ρ st).wp K := by
    intro k
    induction k using Nat.strongRecOn with
    | _ k ih =>
      intro ρ st h
      have hs := step k ρ st h
      cases e : t ρ st with
      | no => rw [e] at hs; exact hs.elim
      | er x st1 => rw [e] at hs; refine ⟨1, ?_⟩; unfold whileN; rw [e]; exact hs
      | ok c st1 =>
        rw [e] at hs
        cases c with
        | false => refine ⟨1, ?_⟩; unfold whileN; rw [e]; exact hs
        | true =>
          simp only [post_okR, if_true] at hs
          cases e2 : b ρ st1 with
          | nx ρ2 st2 =>
            rw [e2] at hs
            obtain ⟨k', hk, h'⟩ := hs
            obtain ⟨n, hn⟩ := ih k' hk ρ2 st2 h'
            refine ⟨n + 1, ?_⟩
            unfold whileN
            rw [e]
            simp only [O.of_ok, if_true]
            rw [e2]
            exact hn
          | ct ρ2 st2 =>
            rw [e2] at hs
            obtain ⟨k', hk, h'⟩ := hs
            obtain ⟨n, hn⟩ := ih k' hk ρ2 st2 h'
            refine ⟨n + 1, ?_⟩
            unfold whileN
            rw [e]
            simp only [O.of_ok, if_true]
            rw [e2]
            exact hn
          | bk ρ2 st2 => rw [e2] at hs; refine ⟨1, ?_⟩; unfold whileN; rw [e]; simp only [O.of_ok, if_true]; rw [e2]; exact hs
          | rt d st2 => rw [e2] at hs; refine ⟨1, ?_⟩; unfold whileN; rw [e]; simp only [O.of_ok, if_true]; rw [e2]; exact hs
          | er x ρ2 st2 => rw [e2] at hs; refine ⟨1, ?_⟩; unfold whileN; rw [e]; simp only [O.of_ok, if_true]; rw [e2]; exact hs
          | no => rw [e2] at hs; exact hs.elim
  obtain ⟨n, hn⟩ := key k ρ st h0
  have e := mWhile_eq (o := whileN t b n ρ st) n rfl (fun z => by rw [z] at hn; exact hn)
  rw [e]
  exact hn
/-- a comprehension that changes nothing -/
theorem comp_pure {it : Wk} {p : Pat} {t : Env → Sto → R Bool} {m : Env → Sto → R D} {ρ : Env} {st : Sto} (c : D → Bool) (f : D → D) (hs : it.stay st) : ∀ (ds acc : List D), (acc.length + ds.length ≤ lim) →
    (∀ d ∈ ds, ∃ ρ1, p.set d ρ = some ρ1 ∧ t ρ1 st = .ok (c d) st ∧ (c d = true → m ρ1 st = .ok (f d) st)) → compGo it p t m ρ ds st acc = .ok (acc ++ (ds.filter c).map f) st
  | [], acc, _, _ => by
    unfold compGo
    rw [if_pos hs]
    simp
  | d :: ds, acc, hl, h => by
    unfold compGo
    obtain ⟨ρ1, e1, e2, e3⟩ := h d List.mem_cons_self
    rw [if_pos hs, e1]
    simp only [ofOpt_some, e2, R.ner_ok]
    have hl2 : acc.length + ds.length + 1 ≤ lim := by rw [List.length_cons] at hl; omega
    cases hc : c d with
    | true =>
      simp only [if_true, e3 hc, R.ner_ok]
      unfold guardR
      rw [if_pos (by omega), comp_pure c f hs ds (acc ++ [f d]) (by rw [List.length_append]; simp; omega) fun d' hd => h d' (List.mem_cons_of_mem _ hd)]
      simp [List.filter_cons, hc]
    | false =>
      simp only [Bool.false_eq_true, if_false]
      rw [comp_pure c f hs ds acc (by omega) fun d' hd => h d' (List.mem_cons_of_mem _ hd)]
      simp [List.filter_cons, hc]
theorem mComp_pure {mi : Env → Sto → R Wk} {vs : List Nat} {p : Pat} {t : Env → Sto → R Bool} {m : Env → Sto → R D} {ρ : Env} {st st1 : Sto} {it : Wk} (c : D → Bool) (f : D → D) (e : mi ρ st = .ok it st1) (hs : it.stay st1) (hl : it.items.length ≤ lim)
    (h : ∀ d ∈ it.items, ∃ ρ1, p.set d (wipeD ρ vs) = some ρ1 ∧ t ρ1 st1 = .ok (c d) st1 ∧ (c d = true → m ρ1 st1 = .ok (f d) st1)) : mComp mi vs p t m ρ st = .ok (.lst ((it.items.filter c).map f)) st1 := by
  unfold mComp
  rw [e]
  simp only [R.ok_bind]
  rw [comp_pure c f hs it.items [] (by simpa using hl) h]
  rfl
@[simp] theorem gcs {st : Sto} {d : D} : gc st (.ok d st) = .ok d st := gc_same
@[simp] theorem gces {st : Sto} {e : Er} : gc st (.er e st) = .er e st := gc_er_same
theorem gc_post {st : Sto} {r : R D} {P : D → Sto → Prop} {B : Er → Sto → Prop} (h : r.post (fun d st' => (∃ x, st' = st ++ x ∧ ClD st.length d) ∧ P d st) (fun e st' => (∃ x, st' = st ++ x ∧ ClDs st.length (e.fs.map (·.2))) ∧ B e st)) : (gc st r).post P B := by
  cases r with
  | ok d st' => obtain ⟨⟨x, rfl, c⟩, q⟩ := h; rw [gc_app c]; exact q
  | er e st' => obtain ⟨⟨x, rfl, c⟩, q⟩ := h; rw [gc_er_app c]; exact q
  | no => exact h.elim
theorem toR_post {o : O} {P : D → Sto → Prop} {B : Er → Sto → Prop} (h : o.wp { nx := fun _ st => P .non st, rt := P, er := B }) : (toR o).post P B := by
  cases o with
  | nx => exact h
  | rt => exact h
  | er => exact h
  | _ => exact h.elim
theorem mDef_eq {k n : Nat} {m : Env → Sto → O} {ds : List D} {st : Sto} (h : ds.length = k) : mDef k n m ds st = gc st (toR (m (ds.map some ++ List.replicate (n - k) none) st)) := by
  unfold mDef
  rw [if_pos h]
theorem seq_nx {a b : Env → Sto → O} {ρ ρ1 : Env} {st st1 : Sto} (e : a ρ st = .nx ρ1 st1) : mSeq a b ρ st = b ρ1 st1 := by
  unfold mSeq
  rw [e]
theorem seq_rt {a b : Env → Sto → O} {ρ : Env} {st st1 : Sto} {d : D} (e : a ρ st = .rt d st1) : mSeq a b ρ st = .rt d st1 := by
  unfold mSeq
  rw [e]
theorem ifS_t {t : Env → Sto → R Bool} {a b : Env → Sto → O} {ρ : Env} {st st1 : Sto} (e : t ρ st = .ok true st1) : mIfS t a b ρ st = a ρ st1 := by
  unfold mIfS
  rw [e]
  rfl
theorem ifS_f {t : Env → Sto → R Bool} {a b : Env → Sto → O} {ρ : Env} {st st1 : Sto} (e : t ρ st = .ok false st1) : mIfS t a b ρ st = b ρ st1 := by
  unfold mIfS
  rw [e]
  rfl
theorem or_ok {a b : Env → Sto → R Bool} {ρ : Env} {st st1 st2 : Sto} {x y : Bool} (e : a ρ st = .ok x st1) (e2 : x = false → b ρ st1 = .ok y st2) (e3 : x = true → y = true ∧ st2 = st1) : mOr a b ρ st = .ok y st2 := by
  unfold mOr
  rw [e]
  cases x with
  | true => obtain ⟨rfl, rfl⟩ := e3 rfl; rfl
  | false => exact e2 rfl
theorem or_f {a b : Env → Sto → R Bool} {ρ : Env} {st st1 : Sto} (e : a ρ st = .ok false st1) : mOr a b ρ st = b ρ st1 := by
  unfold mOr
  rw [e]
  rfl
theorem or_t {a b : Env → Sto → R Bool} {ρ : Env} {st st1 : Sto} (e : a ρ st = .ok true st1) : mOr a b ρ st = .ok true st1 := by
  unfold mOr
  rw [e]
  rfl
theorem and_t {a b : Env → Sto → R Bool} {ρ : Env} {st st1 : Sto} (e : a ρ st = .ok true st1) : mAnd a b ρ st = b ρ st1 := by
  unfold mAnd
  rw [e]
  rfl
theorem and_f {a b : Env → Sto → R Bool} {ρ : Env} {st st1 : Sto} (e : a ρ st = .ok false st1) : mAnd a b ρ st = .ok false st1 := by
  unfold mAnd
  rw [e]
  rfl
theorem not_ok {a : Env → Sto → R Bool} {ρ : Env} {st st1 : Sto} {b : Bool} (e : a ρ st = .ok b st1) : mNot a ρ st = .ok (!b) st1 := by
  unfold mNot
  rw [e]
  rfl
theorem andV_t {a b : Env → Sto → R D} {ρ : Env} {st st1 : Sto} (e : a ρ st = .ok (.bl true) st1) : mAndV a b ρ st = b ρ st1 := by
  unfold mAndV
  rw [e]
  rfl
theorem andV_f {a b : Env → Sto → R D} {ρ : Env} {st st1 : Sto} (e : a ρ st = .ok (.bl false) st1) : mAndV a b ρ st = .ok (.bl false) st1 := by
  unfold mAndV
  rw [e]
  rfl
theorem orV_t {a b : Env → Sto → R D} {ρ : Env} {st st1 : Sto} (e : a ρ st = .ok (.bl true) st1) : mOrV a b ρ st = .ok (.bl true) st1 := by
  unfold mOrV
  rw [e]
  rfl
theorem orV_f {a b : Env → Sto → R D} {ρ : Env} {st st1 : Sto} (e : a ρ st = .ok (.bl false) st1) : mOrV a b ρ st = b ρ st1 := by
  unfold mOrV
  rw [e]
  rfl
theorem notV_ok {a : Env → Sto → R D} {ρ : Env} {st st1 : Sto} {b : Bool} (e : a ρ st = .ok (.bl b) st1) : mNotV a ρ st = .ok (.bl (!b)) st1 := by
  unfold mNotV
  rw [e]
  rfl
theorem tst_ok {m : Env → Sto → R D} {ρ : Env} {st st1 : Sto} {b : Bool} (e : m ρ st = .ok (.bl b) st1) : mTst m ρ st = .ok b st1 := by
  unfold mTst
  rw [e]
  rfl
theorem tru_ok {m : Env → Sto → R D} {ρ : Env} {st st1 : Sto} {d : D} {b : Bool} (e : m ρ st = .ok d st1) (e2 : truD st1 d = some b) : mTru m ρ st = .ok b st1 := by
  unfold mTru
  rw [e]
  simp only [R.ok_bind, e2, ofOpt_some]
theorem tru_bl {m : Env → Sto → R D} {ρ : Env} {st st1 : Sto} {b : Bool} (e : m ρ st = .ok (.bl b) st1) : mTru m ρ st = .ok b st1 := tru_ok e rfl
theorem ret_ok {m : Env → Sto → R D} {ρ : Env} {st st1 : Sto} {d : D} (e : m ρ st = .ok d st1) : mRet m ρ st = .rt d st1 := by
  unfold mRet
  rw [e]
  rfl
theorem set_ok {m : Env → Sto → R D} {ρ : Env} {st st1 : Sto} {d : D} {i : Nat} (e : m ρ st = .ok d st1) : mSet i m ρ st = .nx (ρ.set i (some d)) st1 := by
  unfold mSet
  rw [e]
  rfl
theorem expr_ok {m : Env → Sto → R D} {ρ : Env} {st st1 : Sto} {d : D} (e : m ρ st = .ok d st1) : mExpr m ρ st = .nx ρ st1 := by
  unfold mExpr
  rw [e]
  rfl
theorem call_ok {f : List D → Sto → R D} {ms : Env → Sto → R (List D)} {ρ : Env} {st st1 : Sto} {ds : List D} (e : ms ρ st = .ok ds st1) : mCall f ms ρ st = f ds st1 := by
  unfold mCall
  rw [e]
  rfl
theorem cons_ok {m : Env → Sto → R D} {ms : Env → Sto → R (List D)} {ρ : Env} {st st1 st2 : Sto} {d : D} {ds : List D} (e : m ρ st = .ok d st1) (e2 : ms ρ st1 = .ok ds st2) : mCons m ms ρ st = .ok (d :: ds) st2 := by
  unfold mCons
  rw [e]
  simp only [R.ok_bind, e2]
theorem nil_ok {ρ : Env} {st : Sto} : mNil ρ st = .ok [] st := rfl
theorem one_ok {m : Env → Sto → R D} {ρ : Env} {st st1 : Sto} {d : D} (e : m ρ st = .ok d st1) : mCons m mNil ρ st = .ok [d] st1 := cons_ok e rfl
theorem bin_ok {f : D → D → Sto → R D} {a b : Env → Sto → R D} {ρ : Env} {st st1 st2 : Sto} {x y : D} (e : a ρ st = .ok x st1) (e2 : b ρ st1 = .ok y st2) : mBin f a b ρ st = f x y st2 := by
  unfold mBin
  rw [e]
  simp only [R.ok_bind, e2]
theorem chain_t {f h : D → D → Sto → R D} {a b c : Env → Sto → R D} {ρ : Env} {st st1 st2 st3 st4 : Sto} {x y z : D} (e : a ρ st = .ok x st1) (e2 : b ρ st1 = .ok y st2) (e3 : f x y st2 = .ok (.bl true) st3) (e4 : c ρ st3 = .ok z st4) : mChain f h a b c ρ st = h y z st4 := by
  unfold mChain
  rw [e]
  simp only [R.ok_bind, e2, e3, blOf, if_true, e4]
/-- a def's answer by its body's outcome -/
theorem def_rt {k n : Nat} {m : Env → Sto → O} {ds : List D} {st : Sto} {d : D} (h : ds.length = k) (e : m (ds.map some ++ List.replicate (n - k) none) st = .rt d st) : mDef k n m ds st = .ok d st := by
  rw [mDef_eq h, e]
  exact gcs
theorem def_nx {k n : Nat} {m : Env → Sto → O} {ds : List D} {st : Sto} {ρ : Env} (h : ds.length = k) (e : m (ds.map some ++ List.replicate (n - k) none) st = .nx ρ st) : mDef k n m ds st = .ok .non st := by
  rw [mDef_eq h, e]
  exact gcs
theorem def_rtA {k n : Nat} {m : Env → Sto → O} {ds : List D} {st x : Sto} {d : D} (h : ds.length = k) (e : m (ds.map some ++ List.replicate (n - k) none) st = .rt d (st ++ x)) (c : ClD st.length d) : mDef k n m ds st = .ok d st := by
  rw [mDef_eq h, e]
  exact gc_app c
/-- by what it promises -/
theorem def_wp {k n : Nat} {m : Env → Sto → O} {ds : List D} {st : Sto} {P : D → Sto → Prop} (h : ds.length = k) (e : (m (ds.map some ++ List.replicate (n - k) none) st).wp { nx := fun _ s => (∃ x, s = st ++ x) ∧ P .non st, rt := fun d s => (∃ x, s = st ++ x) ∧ ClD st.length d ∧ P d st }) : ∃ d, mDef k n m ds st = .ok d st ∧ P d st := by
  rw [mDef_eq h]
  revert e
  cases m (ds.map some ++ List.replicate (n - k) none) st with
  | nx ρ s => rintro ⟨⟨x, rfl⟩, p⟩; exact ⟨_, gc_app True.intro, p⟩
  | rt d s => rintro ⟨⟨x, rfl⟩, c, p⟩; exact ⟨_, gc_app c, p⟩
  | er x ρ s => exact fun z => z.elim
  | bk => exact fun z => z.elim
  | ct => exact fun z => z.elim
  | no => exact fun z => z.elim
theorem pat_nm {i : Nat} {d : D} {ρ : Env} : (Pat.nm i).set d ρ = some (ρ.set i (some d)) := rfl
@[simp] theorem guardR_pos {α : Type} {c : Prop} [Decidable c] {r : R α} (h : c) : guardR c r = r := by unfold guardR; rw [if_pos h]
end Pl

set_option maxHeartbeats 4000000
/-! data on the heap as the library tells them, kept; tuples only -/
namespace Hn
open PySem PySem.Spec PyProof.Rows L2 EF
open PySem.W (Frag keepIn)
section
variable {K : Frag} {H H' : Hp}
theorem seqL_same' {a : Addr} {xs : List V} (e : Same H H') (h : SqL K H a xs) : SqL K H' a xs := by
  rcases h with (h | ⟨o, h⟩) | h
  · exact .inl (.inl (e _ _ h))
  · exact .inl (.inr ⟨o, e _ _ h⟩)
  · exact .inr h
mutual
theorem dp_same (s : Same H H') : ∀ {x : V} {d : PyData}, Dp K H x d → Dp K H' x d
  | _, _, .non => .non
  | _, _, .bl b => .bl b
  | _, _, .int i => .int i
  | _, _, .str x => .str x
  | _, _, .lst h k => .lst (seqL_same' s h) (dps_same s k)
  | _, _, .tup h k => .tup (s.seqT h) (dps_same s k)
theorem dps_same (s : Same H H') : ∀ {xs : List V} {ds : List PyData}, DpAll K H xs ds → DpAll K H' xs ds
  | _, _, .nil => .nil
  | _, _, .cons h k => .cons (dp_same s h) (dps_same s k)
end
theorem dps_len : ∀ {xs : List V} {ds : List PyData}, DpAll K H xs ds → xs.length = ds.length
  | _, _, .nil => rfl
  | _, _, .cons _ k => by rw [List.length_cons, List.length_cons, dps_len k]
theorem dps_get : ∀ {xs : List V} {ds : List PyData} {i : Nat} {x : V}, DpAll K H xs ds → xs[i]? = some x → ∃ d, ds[i]? = some d ∧ Dp K H x d
  | _, _, i, x, .nil, e => by cases e
  | _, _, 0, x, .cons h _, e => by
    cases e
    exact ⟨_, rfl, h⟩
  | _, _, i + 1, x, .cons _ k, e => dps_get (i := i) k e
theorem dps_of : ∀ {xs : List V} {ds : List PyData}, xs.length = ds.length → (∀ (i : Nat) (x : V) (d : PyData), xs[i]? = some x → ds[i]? = some d → Dp K H x d) → DpAll K H xs ds
  | [], [], _, _ => .nil
  | x :: xs, d :: ds, l, h => .cons (h 0 x d rfl rfl) (dps_of (by simpa using l) fun i x' d' e1 e2 => h (i + 1) x' d' e1 e2)
theorem tyT {a : Addr} {xs : List V} (h : SqT K H a xs) : TyX K H (.ref a) (.type "tuple") := by
  rcases h with (h | ⟨o, h⟩) | ⟨o, its, n, h, c, _⟩
  · exact .base (.tup h)
  · exact .fTuple h
  · exact .kTuple h c
end
/-- no list, no dict, not too deep, not too long -/
def Sml : Nat → PyData → Prop
  | 0, _ => False
  | n + 1, .tuple ds => ds.length ≤ 100 ∧ ∀ d ∈ ds, Sml n d
  | _ + 1, .list _ => False
  | _ + 1, .dict _ => False
  | _ + 1, _ => True
def spIsD (K : Frag) (n : Nat) : Sp := fun vs H Q _ => ∃ (x y : V) (d : PyData), vs = [x, y] ∧ Dp K H x d ∧ Dp K H y d ∧ Sml n d ∧ ∀ H', Same H H' → Q (.bl true) H'
/-- rows of ints as a datum -/
def rowD (r : List Int) : PyData := .tuple (r.map .int)
def gridD (rows : List (List Int)) : PyData := .tuple (rows.map rowD)
theorem sml_row {r : List Int} (h : r.length ≤ 100) (n : Nat) : Sml (n + 2) (rowD r) := ⟨by rw [List.length_map]; exact h, fun d hd => by
  obtain ⟨i, _, rfl⟩ := List.mem_map.mp hd
  trivial⟩
theorem sml_grid {rows : List (List Int)} (h : rows.length ≤ 100) (k : ∀ r ∈ rows, r.length ≤ 100) (n : Nat) : Sml (n + 3) (gridD rows) := ⟨by rw [List.length_map]; exact h, fun d hd => by
  obtain ⟨r, hr, rfl⟩ := List.mem_map.mp hd
  exact sml_row (k r hr) n⟩
end Hn

set_option maxHeartbeats 4000000
/-! lists of classes: pieces and knots -/
namespace Hn
open PySem PySem.Spec PyProof.Rows L2 EF
open PySem.W (Frag keepIn)
theorem ext_sorted {α : Type} {r : α → α → Prop} (as : ∀ a b, r a b → r b a → a = b) : ∀ {l m : List α}, l.Nodup → m.Nodup → l.Pairwise r → m.Pairwise r → (∀ x, x ∈ l ↔ x ∈ m) → l = m
  | [], [], _, _, _, _, _ => rfl
  | [], y :: m, _, _, _, _, h => absurd ((h y).mpr List.mem_cons_self) List.not_mem_nil
  | x :: l, [], _, _, _, _, h => absurd ((h x).mp List.mem_cons_self) List.not_mem_nil
  | x :: l, y :: m, n1, n2, p1, p2, h => by
    have q1 := List.pairwise_cons.mp p1
    have q2 := List.pairwise_cons.mp p2
    have d1 := List.nodup_cons.mp n1
    have d2 := List.nodup_cons.mp n2
    have e : x = y := by
      rcases List.mem_cons.mp ((h x).mp List.mem_cons_self) with z | z
      · exact z
      · rcases List.mem_cons.mp ((h y).mpr List.mem_cons_self) with z2 | z2
        · exact z2.symm
        · exact as x y (q1.1 y z2) (q2.1 x z)
    subst e
    rw [ext_sorted as d1.2 d2.2 q1.2 q2.2 fun z => ?_]
    constructor
    · intro hz
      rcases List.mem_cons.mp ((h z).mp (List.mem_cons_of_mem _ hz)) with y | y
      · exact absurd (y ▸ hz) d1.1
      · exact y
    · intro hz
      rcases List.mem_cons.mp ((h z).mpr (List.mem_cons_of_mem _ hz)) with y | y
      · exact absurd (y ▸ hz) d2.1
      · exact y
theorem asc_nodup {l : List Int} (h : l.Pairwise (· < ·)) : l.Nodup := h.imp fun z => Int.ne_of_lt z
theorem asc_ext {l m : List Int} (h : l.Pairwise (· < ·)) (k : m.Pairwise (· < ·)) (e : ∀ x, x ∈ l ↔ x ∈ m) : l = m := ext_sorted (fun a b h1 h2 => by omega) (asc_nodup h) (asc_nodup k) h k e
/-- k is the class of u, ascending -/
def IsCls (R : Int → Int → Prop) (u : Int) (k : List Int) : Prop := k.Pairwise (· < ·) ∧ ∀ w, w ∈ k ↔ R u w
theorem IsCls.uniq {R : Int → Int → Prop} {u : Int} {k k' : List Int} (a : IsCls R u k) (b : IsCls R u k') : k = k' := asc_ext a.1 b.1 fun w => (a.2 w).trans (b.2 w).symm
theorem lst_antisymm (q r : List Int) (h : ¬ r < q) (k : ¬ q < r) : q = r := List.le_antisymm (List.not_lt.mp h) (List.not_lt.mp k)
/-- the list of all classes of the n people, in its order -/
structure ClassList (n : Nat) (R : Int → Int → Prop) (ks : List (List Int)) : Prop where
  srt : ks.Pairwise fun q r => ¬ r < q
  nd : ks.Nodup
  cls : ∀ k ∈ ks, ∃ u : Nat, u < n ∧ IsCls R u k
  all : ∀ u : Nat, u < n → ∃ k, k ∈ ks ∧ IsCls R u k
section
variable {n : Nat} {R R' : Int → Int → Prop} {ks ks' : List (List Int)}
theorem ClassList.ext (a : ClassList n R ks) (b : ClassList n R ks') : ks = ks' :=
  ext_sorted (r := fun q r => ¬ r < q) (fun q r h1 h2 => lst_antisymm q r h1 h2) a.nd b.nd a.srt b.srt fun k => ⟨fun h => by
    obtain ⟨u, hu, c⟩ := a.cls k h
    obtain ⟨k', h', c'⟩ := b.all u hu
    rw [c.uniq c']
    exact h', fun h => by
    obtain ⟨u, hu, c⟩ := b.cls k h
    obtain ⟨k', h', c'⟩ := a.all u hu
    rw [c.uniq c']
    exact h'⟩
theorem ClassList.congr (a : ClassList n R ks) (h : ∀ (u : Nat) (w : Int), u < n → (R u w ↔ R' u w)) : ClassList n R' ks :=
  ⟨a.srt, a.nd, fun k hk => by
    obtain ⟨u, hu, c⟩ := a.cls k hk
    exact ⟨u, hu, c.1, fun w => (c.2 w).trans (h u w hu)⟩, fun u hu => by
    obtain ⟨k, hk, c⟩ := a.all u hu
    exact ⟨k, hk, c.1, fun w => (c.2 w).trans (h u w hu)⟩⟩
end
theorem Reach.trans {rows : List (List Int)} {u v w : Int} (a : Reach rows u v) (b : Reach rows v w) : Reach rows u w := by
  induction b with
  | refl => exact a
  | step _ hw ih => exact .step ih hw
theorem Reach.head {rows : List (List Int)} {u v w : Int} (h : v ∈ rowAt rows u) (b : Reach rows v w) : Reach rows u w := (Reach.step .refl h).trans b
/-- they find one another -/
def Mutual (rows : List (List Int)) (u w : Int) : Prop := Reach rows u w ∧ Reach rows w u
/-- they hang together by cards, whichever way -/
inductive Joined (rows : List (List Int)) (u : Int) : Int → Prop
  | refl : Joined rows u u
  | fwd {v w : Int} : Joined rows u v → w ∈ rowAt rows v → Joined rows u w
  | bwd {v w : Int} : Joined rows u v → 0 ≤ w → w < (rows.length : Int) → v ∈ rowAt rows w → Joined rows u w
section
variable {rows : List (List Int)} {u v w : Int}
theorem Joined.range (h : InRange rows) (hu : 0 ≤ u ∧ u < (rows.length : Int)) (r : Joined rows u v) : 0 ≤ v ∧ v < (rows.length : Int) := by
  cases r with
  | refl => exact hu
  | fwd _ hw => exact row_range h hw
  | bwd _ h1 h2 _ => exact ⟨h1, h2⟩
theorem Joined.trans (a : Joined rows u v) (b : Joined rows v w) : Joined rows u w := by
  induction b with
  | refl => exact a
  | fwd _ hw ih => exact .fwd ih hw
  | bwd _ h1 h2 hw ih => exact .bwd ih h1 h2 hw
theorem Joined.symm (h : InRange rows) (hu : 0 ≤ u ∧ u < (rows.length : Int)) (r : Joined rows u v) : Joined rows v u := by
  induction r with
  | refl => exact .refl
  | fwd a hw ih =>
    have z := a.range h hu
    exact (Joined.bwd .refl z.1 z.2 hw).trans ih
  | bwd a h1 h2 hw ih => exact (Joined.fwd .refl hw).trans ih
theorem Reach.joined (a : Reach rows u v) : Joined rows u v := by
  induction a with
  | refl => exact .refl
  | step _ hw ih => exact .fwd ih hw
end
/-- the number of classes: each has a least one -/
theorem ClassList.heads {n : Nat} {R : Int → Int → Prop} {ks : List (List Int)} (a : ClassList n R ks) (sy : ∀ (u v : Nat), u < n → v < n → R u v → ∀ w, R u w ↔ R v w) (rf : ∀ u : Nat, u < n → R u u) (rg : ∀ (u : Nat) (w : Int), u < n → R u w → 0 ≤ w ∧ w < (n : Int))
    {p : Nat → Bool} (hp : ∀ u : Nat, u < n → (p u = true ↔ ∀ w : Nat, w < n → R u w → u ≤ w)) : ks.length = ((List.range n).filter p).length := by
  have hd : ∀ k ∈ ks, ∃ u : Nat, u < n ∧ IsCls R u k ∧ k.headD 0 = (u : Int) ∧ p u = true := fun k hk => by
    obtain ⟨v, hv, c⟩ := a.cls k hk
    cases k with
    | nil => exact absurd ((c.2 v).mpr (rf v hv)) List.not_mem_nil
    | cons x r =>
      have rx := (c.2 x).mp List.mem_cons_self
      have gx := rg v x hv rx
      obtain ⟨m, rfl⟩ : ∃ m : Nat, x = (m : Int) := ⟨x.toNat, by omega⟩
      have hm : m < n := by omega
      have e := sy v m hv hm rx
      refine ⟨m, hm, ⟨c.1, fun w => (c.2 w).trans (e w)⟩, rfl, (hp m hm).mpr fun w hw rw' => ?_⟩
      have mem := (c.2 w).mpr ((e w).mpr rw')
      rcases List.mem_cons.mp mem with z | z
      · omega
      · have := (List.pairwise_cons.mp c.1).1 w z
        omega
  have nd1 : (ks.map fun k => (k.headD 0).toNat).Nodup := by
    refine List.pairwise_map.mpr (a.nd.imp_of_mem fun {k k'} hk hk' ne e => ne ?_)
    obtain ⟨u, hu, c, h1, _⟩ := hd k hk
    obtain ⟨u', hu', c', h1', _⟩ := hd k' hk'
    rw [h1, h1'] at e
    have : u = u' := by omega
    subst this
    exact c.uniq c'
  have nd2 : ((List.range n).filter p).Nodup := List.Pairwise.filter _ List.nodup_range
  have pm : (ks.map fun k => (k.headD 0).toNat).Perm ((List.range n).filter p) := by
    refine (List.perm_ext_iff_of_nodup nd1 nd2).mpr fun u => ?_
    rw [List.mem_map, List.mem_filter, List.mem_range]
    constructor
    · rintro ⟨k, hk, rfl⟩
      obtain ⟨u, hu, c, h1, h2⟩ := hd k hk
      rw [h1]
      exact ⟨hu, h2⟩
    · rintro ⟨hu, pu⟩
      obtain ⟨k, hk, c⟩ := a.all u hu
      obtain ⟨u', hu', c', h1', h2'⟩ := hd k hk
      refine ⟨k, hk, ?_⟩
      have r1 : R u u' := (c.2 u').mp ((c'.2 u').mpr (rf u' hu'))
      have r2 : R u' u := (c'.2 u).mp ((c.2 u).mpr (rf u hu))
      have l1 := (hp u hu).mp pu u' hu' r1
      have l2 := (hp u' hu').mp h2' u hu r2
      rw [h1']
      show (u' : Int).toNat = u
      omega
  rw [← pm.length_eq, List.length_map]
end Hn

set_option maxHeartbeats 4000000
/-! webs as data -/
namespace Pl
open PySem PySem.Spec PyProof.Rows L2 Hn
def rowsL (rows : List (List Int)) : List D := rows.map rowD'
def webD (rows : List (List Int)) : D := .tup (rowsL rows)
@[simp] theorem rowsL_len {rows : List (List Int)} : (rowsL rows).length = rows.length := List.length_map _
theorem set_mid (xs ys : List C) (c c' : C) : (xs ++ c :: ys).set xs.length c' = xs ++ c' :: ys := by
  rw [List.set_append_right _ _ (Nat.le_refl _), Nat.sub_self]
  rfl
theorem get_mid (xs ys : List C) (c : C) : (xs ++ c :: ys)[xs.length]? = some c := by
  rw [List.getElem?_append_right (Nat.le_refl _), Nat.sub_self]
  rfl
theorem atI_in {α : Type} {xs : List α} {i : Int} (h0 : 0 ≤ i) (h1 : i < (xs.length : Int)) : ∃ x, atI xs i = some x ∧ xs[i.toNat]? = some x := by
  have hl : i.toNat < xs.length := by omega
  refine ⟨xs[i.toNat], ?_, List.getElem?_eq_getElem hl⟩
  unfold atI ixN
  rw [if_pos h0, if_pos h1]
  exact List.getElem?_eq_getElem hl
theorem atI_map {α β : Type} (f : α → β) (xs : List α) (i : Int) : atI (xs.map f) i = (atI xs i).map f := by
  unfold atI
  rw [List.length_map]
  cases ixN xs.length i with
  | none => rfl
  | some j => simp
theorem rowAt_at {rows : List (List Int)} {i : Int} (h0 : 0 ≤ i) (h1 : i < (rows.length : Int)) : atI rows i = some (rowAt rows i) := by
  obtain ⟨x, e1, e2⟩ := atI_in h0 h1
  rw [e1]
  unfold rowAt
  rw [List.getD_eq_getElem?_getD, e2]
  rfl
/-- a row of lists that are walked and indexed -/
structure Pk (st : Sto) (d : D) (rows : List (List Int)) : Prop where
  len : ∀ x, lenD [d] (st ++ x) = .ok (.int rows.length) (st ++ x)
  ix : ∀ (v : Int), 0 ≤ v → v < (rows.length : Int) → ∃ e it, it.items = (rowAt rows v).map D.int ∧ ∀ x, ixD d (.int v) (st ++ x) = .ok e (st ++ x) ∧ itrOf (st ++ x) e = some it ∧ it.stay (st ++ x)
theorem webD_ix {rows : List (List Int)} {v : Int} (h0 : 0 ≤ v) (h1 : v < (rows.length : Int)) (st : Sto) : ixD (webD rows) (.int v) st = .ok (rowD' (rowAt rows v)) st := by
  unfold webD rowsL
  rw [ixD_tup, atI_map, rowAt_at h0 h1]
  rfl
theorem Pk.web {st : Sto} {rows : List (List Int)} : Pk st (webD rows) rows := ⟨fun x => by
  unfold webD
  rw [lenD_tup, rowsL_len], fun v h0 h1 => ⟨rowD' (rowAt rows v), ⟨(rowAt rows v).map D.int, none⟩, rfl, fun x => ⟨webD_ix h0 h1 _, rfl, True.intro⟩⟩⟩
def encD (kvs : List (Int × Int)) : List (Key × D) := kvs.map fun p => (Sum.inl p.1, D.int p.2)
theorem encD_get (k : Int) : ∀ kvs : List (Int × Int), getK (encD kvs) (Sum.inl k) = (dist kvs k).map D.int
  | [] => rfl
  | (a, b) :: kvs => by
    have ih := encD_get k kvs
    unfold getK encD at ih ⊢
    unfold dist
    rw [List.map_cons, List.find?_cons]
    by_cases h : a = k
    · subst h
      simp
    · have e : (decide ((Sum.inl a : Key) = Sum.inl k)) = false := by simp [h]
      rw [e]
      simp only [h, if_false, Ne.symm h] at ih ⊢
      first | exact ih | simpa [h] using ih
theorem encD_put {kvs : List (Int × Int)} {w d : Int} (h : dist kvs w = none) : putK' (encD kvs) (Sum.inl w) (D.int d) = encD (kvs ++ [(w, d)]) := by
  unfold putK'
  rw [if_neg]
  · unfold encD; simp
  · intro z
    obtain ⟨⟨k, v⟩, h1, h2⟩ := List.any_eq_true.mp z
    obtain ⟨⟨a, b⟩, h3, h4⟩ := List.mem_map.mp h1
    cases h4
    have h5 : a = w := by simpa using h2
    have : w ∈ kvs.map (·.1) := List.mem_map.mpr ⟨_, h3, h5⟩
    obtain ⟨d', e⟩ := dist_mem.mp this
    rw [h] at e
    cases e
theorem cl_ints {n : Nat} : ∀ ns : List Int, ClDs n (ns.map D.int)
  | [] => True.intro
  | _ :: ns => ⟨True.intro, cl_ints ns⟩
theorem cl_row {n : Nat} {r : List Int} : ClD n (rowD' r) := cl_ints r
theorem cl_rows {n : Nat} : ∀ rows : List (List Int), ClDs n (rowsL rows)
  | [] => True.intro
  | _ :: ns => ⟨cl_row, cl_rows ns⟩
theorem cl_web {n : Nat} {rows : List (List Int)} : ClD n (webD rows) := cl_rows rows
theorem lim_of {n : Nat} (h : n ≤ 1000000) : n ≤ lim := Nat.le_trans h (by decide)
theorem lim_rng {lo : Int} {n : Nat} {src : Option (Nat × List D)} (h : n ≤ 1000000) : (Wk.items ⟨rngD lo n, src⟩).length ≤ lim := by
  have e : (Wk.items ⟨rngD lo n, src⟩).length = n := rngD_len
  rw [e]
  exact lim_of h
theorem b62_of {n : Nat} (h : n ≤ 1000000) : -b62 ≤ (n : Int) ∧ (n : Int) < b62 := by
  have h1 : (1000000 : Int) < b62 := by decide
  have h2 : -b62 ≤ 0 := by decide
  omega
theorem rng_ok {n : Nat} {st : Sto} (h : n ≤ 1000000) : rng1R [.int (n : Int)] st = .ok ⟨rngD 0 n, none⟩ st := by
  have e : rng1R [.int (n : Int)] st = guardR (-b62 ≤ (n : Int) ∧ (n : Int) < b62) (.ok ⟨rngD 0 (n : Int).toNat, none⟩ st) := rngR_one
  rw [e, guardR_pos (b62_of h), Int.toNat_natCast]
theorem itA_ok {f : List D → Sto → R Wk} {ms : Env → Sto → R (List D)} {ρ : Env} {st st1 : Sto} {ds : List D} {r : R Wk} (e : ms ρ st = .ok ds st1) (e2 : f ds st1 = r) : mItA f ms ρ st = r := by
  unfold mItA
  rw [e]
  exact e2
end Pl

set_option maxHeartbeats 4000000
/-! comparing webs, rows, numbers; all, any -/
namespace Pl
open PySem PySem.Spec PyProof.Rows L2 Hn
theorem eqv_row (a b : List Int) : PyData.eqv (rowD a) (rowD b) = decide (a = b) := by
  show PyData.eqvAll (a.map PyData.int) (b.map PyData.int) = _
  exact PySem.W.ked_eqvAll a b
theorem depth_row (r : List Int) : (rowD r).depth = 1 := by
  show PyData.depthAll (r.map PyData.int) + 1 = 1
  rw [PySem.W.depth_ints]
theorem lay_ints : ∀ r : List Int, PyData.canLayAll0 (r.map PyData.int) = true
  | [] => rfl
  | x :: r => lay_ints r
theorem shaped_ints (r : List Int) : SeqAt.shaped (.list (r.map PyData.int)) = true ∧ SeqAt.shaped (.tuple (r.map PyData.int)) = true := by
  constructor
  · unfold SeqAt.shaped
    show (PyData.canLayAll0 (r.map PyData.int) && decide (PyData.depthAll (r.map PyData.int) + 1 ≤ 64)) = true
    rw [lay_ints, PySem.W.depth_ints]
    rfl
  · unfold SeqAt.shaped
    show (PyData.canLayAll0 (r.map PyData.int) && decide (PyData.depthAll (r.map PyData.int) + 1 ≤ 64)) = true
    rw [lay_ints, PySem.W.depth_ints]
    rfl
theorem lay_rows : ∀ rs : List (List Int), PyData.canLayAll0 (rs.map rowD) = true
  | [] => rfl
  | r :: rs => by
    show (PyData.canLay0 (rowD r) && PyData.canLayAll0 (rs.map rowD)) = true
    rw [lay_rows rs, Bool.and_true]
    exact lay_ints r
theorem depth_rows : ∀ rs : List (List Int), PyData.depthAll (rs.map rowD) ≤ 1
  | [] => Nat.zero_le _
  | r :: rs => by
    show max (rowD r).depth (PyData.depthAll (rs.map rowD)) ≤ 1
    rw [depth_row]
    have := depth_rows rs
    omega
theorem shaped_rows (rs : List (List Int)) : SeqAt.shaped (.list (rs.map rowD)) = true ∧ SeqAt.shaped (.tuple (rs.map rowD)) = true := by
  have h := depth_rows rs
  constructor
  · unfold SeqAt.shaped
    show (PyData.canLayAll0 (rs.map rowD) && decide (PyData.depthAll (rs.map rowD) + 1 ≤ 64)) = true
    rw [lay_rows, decide_eq_true (by omega)]
    rfl
  · unfold SeqAt.shaped
    show (PyData.canLayAll0 (rs.map rowD) && decide (PyData.depthAll (rs.map rowD) + 1 ≤ 64)) = true
    rw [lay_rows, decide_eq_true (by omega)]
    rfl
theorem any_row (k : List Int) : ∀ rs : List (List Int), ((rs.map rowD).any fun z => PyData.eqv z (rowD k)) = decide (k ∈ rs)
  | [] => (decide_eq_false List.not_mem_nil).symm
  | r :: rs => by
    rw [List.map_cons, List.any_cons, any_row k rs, eqv_row, Bool.eq_iff_iff, Bool.or_eq_true, decide_eq_true_iff, decide_eq_true_iff, decide_eq_true_iff, List.mem_cons, eq_comm]
theorem eqv_grid : ∀ a b : List (List Int), PyData.eqvAll (a.map rowD) (b.map rowD) = decide (a = b)
  | [], [] => rfl
  | [], y :: b => rfl
  | x :: a, [] => rfl
  | x :: a, y :: b => by
    show (PyData.eqv (rowD x) (rowD y) && PyData.eqvAll (a.map rowD) (b.map rowD)) = _
    rw [eqv_grid a b, eqv_row, Bool.eq_iff_iff, Bool.and_eq_true, decide_eq_true_iff, decide_eq_true_iff, decide_eq_true_iff, List.cons.injEq]
theorem eqv_int (a b : Int) : PyData.eqv (.int a) (.int b) = decide (a = b) := rfl
theorem any_int (k : Int) : ∀ ns : List Int, ((ns.map PyData.int).any fun z => PyData.eqv z (.int k)) = decide (k ∈ ns)
  | [] => (decide_eq_false List.not_mem_nil).symm
  | r :: rs => by
    rw [List.map_cons, List.any_cons, any_int k rs, eqv_int, Bool.eq_iff_iff, Bool.or_eq_true, decide_eq_true_iff, decide_eq_true_iff, decide_eq_true_iff, List.mem_cons, eq_comm]
@[simp] theorem toPs_ints : ∀ ns : List Int, toPs (ns.map D.int) = some (ns.map PyData.int)
  | [] => rfl
  | n :: ns => by
    rw [List.map_cons]
    unfold toPs
    rw [toPs_ints ns]
    rfl
@[simp] theorem toP_row (r : List Int) : toP (rowD' r) = some (rowD r) := by
  unfold rowD' toP
  rw [toPs_ints]
  rfl
@[simp] theorem toPs_rows : ∀ rs : List (List Int), toPs (rs.map rowD') = some (rs.map rowD)
  | [] => rfl
  | n :: ns => by
    rw [List.map_cons]
    unfold toPs
    rw [toPs_rows ns, toP_row]
    rfl
theorem toP_web (rs : List (List Int)) : toP (webD rs) = some (gridD rs) := by
  unfold webD rowsL toP
  rw [toPs_rows]
  rfl
theorem toQ_row {st : Sto} (r : List Int) : toQ st (rowD' r) = some (rowD r) := toP_row r
theorem toQ_web {st : Sto} (rs : List (List Int)) : toQ st (webD rs) = some (gridD rs) := toP_web rs
theorem shaped_row (r : List Int) : SeqAt.shaped (rowD r) = true := (shaped_ints r).2
theorem eqD_web {a b : List (List Int)} {st : Sto} : eqD (webD a) (webD b) st = .ok (.bl (decide (a = b))) st := by
  unfold eqD
  rw [toQ_web, toQ_web]
  simp only [ofOpt_some]
  rw [guardR_pos ⟨(shaped_rows a).2, (shaped_rows b).2⟩]
  show R.ok (D.bl (PyData.eqvAll (a.map rowD) (b.map rowD))) st = _
  rw [eqv_grid]
theorem neD_web {a b : List (List Int)} {st : Sto} : neD (webD a) (webD b) st = .ok (.bl (!decide (a = b))) st := by
  unfold neD
  rw [toQ_web, toQ_web]
  simp only [ofOpt_some]
  rw [guardR_pos ⟨(shaped_rows a).2, (shaped_rows b).2⟩]
  show R.ok (D.bl (!PyData.eqvAll (a.map rowD) (b.map rowD))) st = _
  rw [eqv_grid]
theorem neD_webN {a : List (List Int)} {st : Sto} : neD (webD a) .non st = .ok (.bl true) st := by
  unfold neD
  rw [toQ_web]
  simp only [ofOpt_some, show toQ st D.non = some PyData.none from rfl]
  rw [guardR_pos ⟨(shaped_rows a).2, rfl⟩]
  rfl
theorem eqD_row {a b : List Int} {st : Sto} : eqD (rowD' a) (rowD' b) st = .ok (.bl (decide (a = b))) st := by
  unfold eqD
  rw [toQ_row, toQ_row]
  simp only [ofOpt_some]
  rw [guardR_pos ⟨shaped_row a, shaped_row b⟩, eqv_row]
theorem neD_row {a b : List Int} {st : Sto} : neD (rowD' a) (rowD' b) st = .ok (.bl (!decide (a = b))) st := by
  unfold neD
  rw [toQ_row, toQ_row]
  simp only [ofOpt_some]
  rw [guardR_pos ⟨shaped_row a, shaped_row b⟩, eqv_row]
theorem eqD_int {a b : Int} {st : Sto} : eqD (.int a) (.int b) st = .ok (.bl (decide (a = b))) st := by
  unfold eqD
  simp only [ofOpt_some, show ∀ i : Int, toQ st (.int i) = some (PyData.int i) from fun _ => rfl]
  rw [guardR_pos ⟨rfl, rfl⟩, eqv_int]
theorem neD_int {a b : Int} {st : Sto} : neD (.int a) (.int b) st = .ok (.bl (!decide (a = b))) st := by
  unfold neD
  simp only [ofOpt_some, show ∀ i : Int, toQ st (.int i) = some (PyData.int i) from fun _ => rfl]
  rw [guardR_pos ⟨rfl, rfl⟩, eqv_int]
theorem inD_row {neg : Bool} {w : Int} {r : List Int} {st : Sto} : inD neg (.int w) (rowD' r) st = .ok (.bl (decide (w ∈ r) ^^ neg)) st := by
  unfold inD rowD'
  simp only [isDct, show ∀ i : Int, toQ st (.int i) = some (PyData.int i) from fun _ => rfl, ofOpt_some, toPs_ints]
  rw [guardR_pos ⟨rfl, (shaped_ints r).2⟩, any_int]
theorem inD_lst {neg : Bool} {w : Int} {r : List Int} {st : Sto} : inD neg (.int w) (.lst (r.map D.int)) st = .ok (.bl (decide (w ∈ r) ^^ neg)) st := by
  unfold inD
  simp only [isDct, show ∀ i : Int, toQ st (.int i) = some (PyData.int i) from fun _ => rfl, ofOpt_some, toPs_ints, itemsL_lst]
  rw [guardR_pos ⟨rfl, (shaped_ints r).1⟩, any_int]
theorem inD_loc {neg : Bool} {w : Int} {r : List Int} {n : Nat} {st : Sto} (h : st[n]? = some (.lst (r.map D.int))) : inD neg (.int w) (.loc n) st = .ok (.bl (decide (w ∈ r) ^^ neg)) st := by
  unfold inD
  simp only [isDct, h, show ∀ i : Int, toQ st (.int i) = some (PyData.int i) from fun _ => rfl, ofOpt_some, toPs_ints, itemsL_loc h]
  rw [guardR_pos ⟨rfl, (shaped_ints r).1⟩, any_int]
theorem inD_rows {neg : Bool} {w : List Int} {rs : List (List Int)} {st : Sto} : inD neg (rowD' w) (.lst (rs.map rowD')) st = .ok (.bl (decide (w ∈ rs) ^^ neg)) st := by
  unfold inD
  simp only [isDct, toQ_row, ofOpt_some, toPs_rows, itemsL_lst]
  rw [guardR_pos ⟨shaped_row w, (shaped_rows rs).1⟩, any_row]
theorem inD_web {neg : Bool} {w : List Int} {rs : List (List Int)} {st : Sto} : inD neg (rowD' w) (webD rs) st = .ok (.bl (decide (w ∈ rs) ^^ neg)) st := by
  unfold inD webD rowsL
  simp only [isDct, toQ_row, ofOpt_some, toPs_rows]
  rw [guardR_pos ⟨shaped_row w, (shaped_rows rs).2⟩, any_row]
theorem inD_rowsLoc {neg : Bool} {w : List Int} {rs : List (List Int)} {n : Nat} {st : Sto} (h : st[n]? = some (.lst (rs.map rowD'))) : inD neg (rowD' w) (.loc n) st = .ok (.bl (decide (w ∈ rs) ^^ neg)) st := by
  unfold inD
  simp only [isDct, h, toQ_row, ofOpt_some, toPs_rows, itemsL_loc h]
  rw [guardR_pos ⟨shaped_row w, (shaped_rows rs).1⟩, any_row]
/-! ### all, any -/
theorem comp_map {mi : Env → Sto → R Wk} {vs : List Nat} {p : Pat} {m : Env → Sto → R D} {ρ : Env} {st st1 : Sto} {it : Wk} (f : D → D) (e : mi ρ st = .ok it st1) (hs : it.stay st1) (hl : it.items.length ≤ lim)
    (h : ∀ d ∈ it.items, ∃ ρ1, p.set d (wipeD ρ vs) = some ρ1 ∧ m ρ1 st1 = .ok (f d) st1) : mComp mi vs p mYes m ρ st = .ok (.lst (it.items.map f)) st1 := by
  have := mComp_pure (t := mYes) (fun _ => true) f e hs hl fun d hd => by
    obtain ⟨ρ1, h1, h2⟩ := h d hd
    exact ⟨ρ1, h1, rfl, fun _ => h2⟩
  rw [this, List.filter_eq_self.mpr fun _ _ => rfl]
theorem all_comp {mi : Env → Sto → R Wk} {vs : List Nat} {p : Pat} {m : Env → Sto → R D} {ρ : Env} {st st1 : Sto} {it : Wk} (f : D → Bool) (e : mi ρ st = .ok it st1) (hs : it.stay st1) (hl : it.items.length ≤ lim)
    (h : ∀ d ∈ it.items, ∃ ρ1, p.set d (wipeD ρ vs) = some ρ1 ∧ m ρ1 st1 = .ok (.bl (f d)) st1) : mCall allD (mCons (mComp mi vs p mYes m) mNil) ρ st = .ok (.bl (it.items.all f)) st1 := by
  simp only [mCall, mCons, mNil]
  rw [comp_map (fun d => .bl (f d)) e hs hl h]
  simp only [R.ok_bind, allD_lst]
  rw [show it.items.map (fun d => D.bl (f d)) = (it.items.map f).map D.bl by rw [List.map_map]; rfl, bls_map]
  simp only [ofOpt_some, List.all_map]
  rfl
theorem any_comp {mi : Env → Sto → R Wk} {vs : List Nat} {p : Pat} {m : Env → Sto → R D} {ρ : Env} {st st1 : Sto} {it : Wk} (f : D → Bool) (e : mi ρ st = .ok it st1) (hs : it.stay st1) (hl : it.items.length ≤ lim)
    (h : ∀ d ∈ it.items, ∃ ρ1, p.set d (wipeD ρ vs) = some ρ1 ∧ m ρ1 st1 = .ok (.bl (f d)) st1) : mCall anyD (mCons (mComp mi vs p mYes m) mNil) ρ st = .ok (.bl (it.items.any f)) st1 := by
  simp only [mCall, mCons, mNil]
  rw [comp_map (fun d => .bl (f d)) e hs hl h]
  simp only [R.ok_bind, anyD_lst]
  rw [show it.items.map (fun d => D.bl (f d)) = (it.items.map f).map D.bl by rw [List.map_map]; rfl, bls_map]
  simp only [ofOpt_some, List.any_map]
  rfl
theorem itm_row {m : Env → Sto → R D} {ρ : Env} {st st1 : Sto} {r : List Int} (e : m ρ st = .ok (rowD' r) st1) : mIt m ρ st = .ok ⟨r.map D.int, none⟩ st1 := by
  unfold mIt
  rw [e]
  rfl
theorem itm_web {m : Env → Sto → R D} {ρ : Env} {st st1 : Sto} {r : List (List Int)} (e : m ρ st = .ok (webD r) st1) : mIt m ρ st = .ok ⟨r.map rowD', none⟩ st1 := by
  unfold mIt
  rw [e]
  rfl
theorem itm_lst {m : Env → Sto → R D} {ρ : Env} {st st1 : Sto} {r : List D} (e : m ρ st = .ok (.lst r) st1) : mIt m ρ st = .ok ⟨r, none⟩ st1 := by
  unfold mIt
  rw [e]
  rfl
theorem itm_loc {m : Env → Sto → R D} {ρ : Env} {st st1 : Sto} {n : Nat} {r : List D} (e : m ρ st = .ok (.loc n) st1) (h : st1[n]? = some (.lst r)) : mIt m ρ st = .ok ⟨r, some (n, r)⟩ st1 := by
  unfold mIt
  rw [e]
  simp only [R.ok_bind, itrOf_loc h, ofOpt_some]
/-- for i in range(n) -/
theorem wp_rng {ms : Env → Sto → R (List D)} {p : Pat} {b : Env → Sto → O} {K : Kt} {ρ : Env} {st st1 : Sto} (n : Nat) (e : ms ρ st = .ok [.int (n : Int)] st1) (hn : n ≤ 1000000) (Inv : Nat → Env → Sto → Prop) (h0 : Inv 0 ρ st1)
    (step : ∀ (i : Nat) (ρ : Env) (st : Sto), i < n → Inv i ρ st → ∃ ρ1, p.set (.int (i : Int)) ρ = some ρ1 ∧ (b ρ1 st).wp { nx := Inv (i + 1), rt := K.rt, bk := K.nx, ct := Inv (i + 1), er := K.er })
    (fin : ∀ ρ st, Inv n ρ st → K.nx ρ st) : (mFor (mItA rng1R ms) p b ρ st).wp K := by
  have hm : mItA rng1R ms ρ st = .ok ⟨rngD 0 n, none⟩ st1 := itA_ok e (rng_ok hn)
  have key := for_go (it := ⟨rngD 0 n, none⟩) (p := p) (b := b) (K := K) Inv (fun i d ρ st hd h => ⟨True.intro, by
    obtain ⟨hi, hdd⟩ := rngD_at hd
    rw [hdd, Int.zero_add]
    exact step i ρ st hi h⟩) (fun ρ st h => ⟨True.intro, fin ρ st (by
    have e2 : (Wk.items ⟨rngD 0 n, none⟩).length = n := rngD_len
    rw [e2] at h
    exact h)⟩) n 0 ρ st1 (by
    have e2 : (Wk.items ⟨rngD 0 n, none⟩).length = n := rngD_len
    omega) (Nat.zero_le _) h0
  rw [List.drop_zero] at key
  unfold mFor
  rw [hm]
  exact key
theorem tup2 {u w : Int} {ms : Env → Sto → R (List D)} {ρ : Env} {st st1 : Sto} (e : ms ρ st = .ok [.int u, .int w] st1) : mTup ms ρ st = .ok (rowD' [u, w]) st1 := by
  unfold mTup
  rw [e]
  simp only [R.ok_bind]
  rw [guardR_pos (lim_of (by show 2 ≤ 1000000; decide))]
  rfl
/-! ### webs -/
structure IsWeb (rows : List (List Int)) : Prop where
  pos : 1 ≤ rows.length
  few : rows.length ≤ 9
  up : ∀ u : Nat, u < rows.length → (rowAt rows (u : Nat)).Pairwise (· < ·)
  rng : ∀ u : Nat, u < rows.length → ∀ w ∈ rowAt rows (u : Nat), 0 ≤ w ∧ w < (rows.length : Int) ∧ w ≠ (u : Int)
theorem rowAt_nat {rows : List (List Int)} {u : Nat} (h : u < rows.length) : rowAt rows (u : Nat) = rows[u] := by
  unfold rowAt
  rw [Int.toNat_natCast, List.getD_eq_getElem?_getD, List.getElem?_eq_getElem h]
  rfl
theorem IsWeb.inr {rows : List (List Int)} (h : IsWeb rows) : InRange rows := fun r hr w hw => by
  obtain ⟨i, hi, rfl⟩ := List.getElem_of_mem hr
  have := h.rng i hi w (by rw [rowAt_nat hi]; exact hw)
  exact ⟨this.1, this.2.1⟩
theorem IsWeb.row {rows : List (List Int)} (h : IsWeb rows) {u : Nat} (hu : u < rows.length) : (rowAt rows (u : Nat)).length ≤ 9 := by
  have := few_below (n := rows.length) (asc_nodup (h.up u hu)) fun w hw => ⟨(h.rng u hu w hw).1, (h.rng u hu w hw).2.1⟩
  have := h.few
  omega
end Pl

set_option maxHeartbeats 4000000
/-! searches; comprehensions with two fors; slices; rows with one more -/
namespace Pl
open PySem PySem.Spec PyProof.Rows L2 Hn
/-- a walk that goes on or answers, and changes no store -/
theorem for_find {it : Wk} {p : Pat} {b : Env → Sto → O} {st : Sto} (f : D → Option D) (Φ : Env → Prop) (hs : it.stay st) : ∀ (ds : List D), (∀ d ∈ ds, ∀ ρ, Φ ρ → ∃ ρ1, p.set d ρ = some ρ1 ∧ match f d with
    | some r => b ρ1 st = .rt r st
    | none => ∃ ρ2, b ρ1 st = .nx ρ2 st ∧ Φ ρ2) → ∀ ρ, Φ ρ → match ds.findSome? f with
    | some r => forGo it p b ds ρ st = .rt r st
    | none => ∃ ρ', forGo it p b ds ρ st = .nx ρ' st ∧ Φ ρ'
  | [], h, ρ, k => by
    simp only [List.findSome?_nil]
    refine ⟨ρ, ?_, k⟩
    unfold forGo
    rw [if_pos hs]
  | d :: ds, h, ρ, k => by
    obtain ⟨ρ1, e1, h1⟩ := h d List.mem_cons_self ρ k
    rw [List.findSome?_cons]
    unfold forGo
    rw [if_pos hs, e1]
    simp only [ofOptO_some]
    cases e : f d with
    | some r =>
      rw [e] at h1
      simp only at h1 ⊢
      rw [h1]
    | none =>
      rw [e] at h1
      obtain ⟨ρ2, e2, k2⟩ := h1
      simp only
      rw [e2]
      exact for_find f Φ hs ds (fun d hd => h d (List.mem_cons_of_mem _ hd)) ρ2 k2
theorem mFor_find {mi : Env → Sto → R Wk} {p : Pat} {b : Env → Sto → O} {ρ : Env} {st st1 : Sto} {it : Wk} (f : D → Option D) (Φ : Env → Prop) (e : mi ρ st = .ok it st1) (hs : it.stay st1) (k : Φ ρ) (h : ∀ d ∈ it.items, ∀ ρ, Φ ρ → ∃ ρ1, p.set d ρ = some ρ1 ∧ match f d with
    | some r => b ρ1 st1 = .rt r st1
    | none => ∃ ρ2, b ρ1 st1 = .nx ρ2 st1 ∧ Φ ρ2) : match it.items.findSome? f with
    | some r => mFor mi p b ρ st = .rt r st1
    | none => ∃ ρ', mFor mi p b ρ st = .nx ρ' st1 ∧ Φ ρ' := by
  have z := for_find f Φ hs it.items h ρ k
  unfold mFor
  rw [e]
  exact z
theorem comp2_pure {it : Wk} {p : Pat} {t : Env → Sto → R Bool} {mi1 : Env → Sto → R Wk} {vs1 : List Nat} {p1 : Pat} {t1 : Env → Sto → R Bool} {m : Env → Sto → R D} {ρ : Env} {st : Sto} (gf : D → List D) (B : Nat) (hs : it.stay st) : ∀ (ds acc : List D), acc.length + B * ds.length ≤ lim →
    (∀ d ∈ ds, (gf d).length ≤ B ∧ ∃ ρ1 it1, p.set d ρ = some ρ1 ∧ t ρ1 st = .ok true st ∧ mi1 ρ1 st = .ok it1 st ∧ ∀ acc : List D, acc.length + B ≤ lim → compGo it1 p1 t1 m (wipeD ρ1 vs1) it1.items st acc = .ok (acc ++ gf d) st) →
    comp2Go it p t mi1 vs1 p1 t1 m ρ ds st acc = .ok (acc ++ ds.flatMap gf) st
  | [], acc, _, _ => by
    unfold comp2Go
    rw [if_pos hs]
    simp
  | d :: ds, acc, hl, h => by
    obtain ⟨hB, ρ1, it1, e1, e2, e3, e4⟩ := h d List.mem_cons_self
    have hm : B * (d :: ds).length = B * ds.length + B := by rw [List.length_cons, Nat.mul_succ]
    unfold comp2Go
    rw [if_pos hs, e1]
    simp only [ofOpt_some, e2, R.ner_ok, if_true, e3]
    rw [e4 acc (by omega)]
    simp only [R.ner_ok]
    rw [comp2_pure gf B hs ds (acc ++ gf d) (by rw [List.length_append]; omega) fun d' hd => h d' (List.mem_cons_of_mem _ hd)]
    simp
theorem mComp2_pure {mi : Env → Sto → R Wk} {vs : List Nat} {p : Pat} {t : Env → Sto → R Bool} {mi1 : Env → Sto → R Wk} {vs1 : List Nat} {p1 : Pat} {t1 : Env → Sto → R Bool} {m : Env → Sto → R D} {ρ : Env} {st st1 : Sto} {it : Wk} (gf : D → List D) (B : Nat) (e : mi ρ st = .ok it st1) (hs : it.stay st1) (hl : B * it.items.length ≤ lim)
    (h : ∀ d ∈ it.items, (gf d).length ≤ B ∧ ∃ ρ1 it1, p.set d (wipeD ρ vs) = some ρ1 ∧ t ρ1 st1 = .ok true st1 ∧ mi1 ρ1 st1 = .ok it1 st1 ∧ ∀ acc : List D, acc.length + B ≤ lim → compGo it1 p1 t1 m (wipeD ρ1 vs1) it1.items st1 acc = .ok (acc ++ gf d) st1) :
    mComp2 mi vs p t mi1 vs1 p1 t1 m ρ st = .ok (.lst (it.items.flatMap gf)) st1 := by
  unfold mComp2
  rw [e]
  simp only [R.ok_bind]
  rw [comp2_pure gf B hs it.items [] (by simpa using hl) h]
  rfl
theorem cut_take (xs : List D) (u : Nat) (h : u ≤ xs.length) : cutD xs none (some (u : Int)) = xs.take u := by
  unfold cutD
  rw [HT.sIx_none, HT.sIx_nat, List.drop_zero, Nat.min_eq_left h, Nat.sub_zero]
theorem cut_drop (xs : List D) (u : Nat) (h : u ≤ xs.length) : cutD xs (some (u : Int)) none = xs.drop u := by
  unfold cutD
  rw [HT.sIx_none, HT.sIx_nat, Nat.min_eq_left h]
  exact List.take_of_length_le (by rw [List.length_drop]; exact Nat.le_refl _)
/-- a row with w -/
def plus (r : List Int) (w : Int) : List Int := if w ∈ r then r else sortZ (r ++ [w])
theorem mem_plus {r : List Int} {w x : Int} : x ∈ plus r w ↔ x ∈ r ∨ x = w := by
  unfold plus
  split
  · rename_i h
    exact ⟨.inl, fun z => z.elim id fun e => by rw [e]; exact h⟩
  · rw [(sortZ_perm _).mem_iff, List.mem_append, List.mem_singleton]
theorem plus_up {r : List Int} {w : Int} (h : r.Pairwise (· < ·)) : (plus r w).Pairwise (· < ·) := by
  unfold plus
  split
  · exact h
  · rename_i hw
    have nd : (sortZ (r ++ [w])).Nodup := (sortZ_perm _).nodup_iff.mpr (by
      rw [List.nodup_append]
      exact ⟨asc_nodup h, by simp, fun a ha b hb e => hw (by rw [← List.mem_singleton.mp hb, ← e]; exact ha)⟩)
    exact ((sortZ_le _).and nd).imp fun {a b} h => Int.lt_iff_le_and_ne.mpr h
def withC (rows : List (List Int)) (v w : Int) : List (List Int) := rows.set v.toNat (plus (rowAt rows v) w)
@[simp] theorem withC_len {rows : List (List Int)} {v w : Int} : (withC rows v w).length = rows.length := List.length_set ..
theorem withC_at {rows : List (List Int)} {v w x : Int} (hv : 0 ≤ v ∧ v < (rows.length : Int)) (hx : 0 ≤ x) : rowAt (withC rows v w) x = if x = v then plus (rowAt rows v) w else rowAt rows x := by
  unfold withC
  by_cases e : x = v
  · subst e
    rw [if_pos rfl]
    show (rows.set x.toNat (plus (rowAt rows x) w)).getD x.toNat [] = _
    rw [List.getD_eq_getElem?_getD, List.getElem?_set_self (by omega)]
    rfl
  · rw [if_neg e]
    show (rows.set v.toNat _).getD x.toNat [] = rows.getD x.toNat []
    rw [List.getD_eq_getElem?_getD, List.getD_eq_getElem?_getD, List.getElem?_set_ne (by omega)]
theorem withC_mem {rows : List (List Int)} {v w x y : Int} (hv : 0 ≤ v ∧ v < (rows.length : Int)) (hx : 0 ≤ x) : y ∈ rowAt (withC rows v w) x ↔ y ∈ rowAt rows x ∨ (x = v ∧ y = w) := by
  rw [withC_at hv hx]
  by_cases e : x = v
  · subst e
    rw [if_pos rfl, mem_plus]
    exact ⟨fun h => h.imp id fun z => ⟨rfl, z⟩, fun h => h.imp id fun z => z.2⟩
  · rw [if_neg e]
    exact ⟨.inl, fun h => h.elim id fun z => absurd z.1 e⟩
theorem IsWeb.withC {rows : List (List Int)} {v w : Int} (h : IsWeb rows) (hv : 0 ≤ v ∧ v < (rows.length : Int)) (hw : 0 ≤ w ∧ w < (rows.length : Int)) (ne : w ≠ v) : IsWeb (withC rows v w) := by
  refine ⟨by rw [withC_len]; exact h.pos, by rw [withC_len]; exact h.few, fun u hu => ?_, fun u hu x hx => ?_⟩
  · rw [withC_len] at hu
    rw [withC_at hv (by omega)]
    split
    · rename_i e
      have : v = ((v.toNat : Nat) : Int) := by omega
      rw [this]
      exact plus_up (h.up _ (by omega))
    · exact h.up u hu
  · rw [withC_len] at hu ⊢
    rcases (withC_mem hv (by omega)).mp hx with z | ⟨z1, z2⟩
    · exact h.rng u hu x z
    · subst z2
      exact ⟨hw.1, hw.2, by rw [z1]; exact ne⟩
/-- one web's cards are the other's, too -/
def Sub (a b : List (List Int)) : Prop := a.length = b.length ∧ ∀ u : Nat, u < a.length → ∀ w ∈ rowAt a (u : Nat), w ∈ rowAt b (u : Nat)
theorem Sub.refl {a : List (List Int)} : Sub a a := ⟨rfl, fun _ _ _ h => h⟩
theorem Sub.trans {a b c : List (List Int)} (x : Sub a b) (y : Sub b c) : Sub a c := ⟨x.1.trans y.1, fun u hu w hw => y.2 u (by rw [← x.1]; exact hu) w (x.2 u hu w hw)⟩
theorem web_ext {a b : List (List Int)} (ha : IsWeb a) (hb : IsWeb b) (x : Sub a b) (y : Sub b a) : a = b := by
  refine List.ext_getElem x.1 fun i h1 h2 => ?_
  rw [← rowAt_nat h1, ← rowAt_nat h2]
  exact asc_ext (ha.up i h1) (hb.up i h2) fun w => ⟨x.2 i h1 w, y.2 i h2 w⟩
theorem sub_with {a : List (List Int)} {v w : Int} (hv : 0 ≤ v ∧ v < (a.length : Int)) : Sub a (withC a v w) := ⟨withC_len.symm, fun u hu x hx => (withC_mem hv (by omega)).mpr (.inl hx)⟩
theorem countP_lt {α : Type} {p q : α → Bool} {x : α} : ∀ {l : List α}, (∀ y ∈ l, p y = true → q y = true) → x ∈ l → q x = true → p x = false → l.countP p < l.countP q
  | [], _, hx, _, _ => by cases hx
  | y :: l, h, hx, hq, hp => by
    have le : l.countP p ≤ l.countP q := List.countP_mono_left fun z hz => h z (List.mem_cons_of_mem _ hz)
    rw [List.countP_cons, List.countP_cons]
    rcases List.mem_cons.mp hx with z | z
    · subst z
      rw [hq, hp]
      simp only [Bool.false_eq_true, if_false, if_true]
      omega
    · have ih := countP_lt (fun z hz => h z (List.mem_cons_of_mem _ hz)) z hq hp
      have hy := h y List.mem_cons_self
      cases e : p y with
      | false => simp only [Bool.false_eq_true, if_false]; split <;> omega
      | true => rw [hy e]; simp only [if_true]; omega
def cells (n : Nat) : List (Nat × Nat) := (List.range n).flatMap fun v => (List.range n).map fun w => (v, w)
theorem mem_cells {n v w : Nat} : (v, w) ∈ cells n ↔ v < n ∧ w < n := by
  unfold cells
  simp only [List.mem_flatMap, List.mem_map, List.mem_range, Prod.mk.injEq]
  constructor
  · rintro ⟨a, h1, b, h2, rfl, rfl⟩
    exact ⟨h1, h2⟩
  · rintro ⟨h1, h2⟩
    exact ⟨v, h1, w, h2, rfl, rfl⟩
def cnt (W : List (List Int)) : Nat := (cells W.length).countP fun p => decide ((p.2 : Int) ∈ rowAt W (p.1 : Nat))
theorem len_cells (n : Nat) : (cells n).length = n * n := by
  unfold cells
  rw [List.length_flatMap]
  simp [List.map_const', List.sum_replicate_nat]
theorem cnt_le {W : List (List Int)} (h : W.length ≤ 9) : cnt W ≤ 81 := by
  have h1 : cnt W ≤ (cells W.length).length := List.countP_le_length
  rw [len_cells] at h1
  have : W.length * W.length ≤ 9 * 9 := Nat.mul_le_mul h h
  omega
theorem cnt_lt {a b : List (List Int)} (ha : IsWeb a) (hb : IsWeb b) (x : Sub a b) (ne : a ≠ b) : cnt a < cnt b := by
  have : ∃ u : Nat, u < a.length ∧ ∃ w ∈ rowAt b (u : Nat), w ∉ rowAt a (u : Nat) := by
    by_cases z : ∃ u : Nat, u < a.length ∧ ∃ w ∈ rowAt b (u : Nat), w ∉ rowAt a (u : Nat)
    · exact z
    · refine absurd (web_ext ha hb x ⟨x.1.symm, fun u hu w hw => ?_⟩) ne
      by_cases q : w ∈ rowAt a (u : Nat)
      · exact q
      · exact absurd ⟨u, by rw [x.1]; exact hu, w, hw, q⟩ z
  obtain ⟨u, hu, w, hw, nw⟩ := this
  have hr := hb.rng u (by rw [← x.1]; exact hu) w hw
  unfold cnt
  rw [← x.1]
  have e : ((w.toNat : Nat) : Int) = w := by omega
  refine countP_lt (x := (u, w.toNat)) (fun y hy h => ?_) (mem_cells.mpr ⟨hu, by have := x.1; omega⟩) ?_ ?_
  · obtain ⟨h1, h2⟩ := mem_cells.mp (show (y.1, y.2) ∈ cells a.length from hy)
    exact decide_eq_true (x.2 y.1 h1 _ (of_decide_eq_true h))
  · simp only [e]
    exact decide_eq_true hw
  · simp only [e]
    exact decide_eq_false nw
theorem cnt_mono {a b : List (List Int)} (x : Sub a b) : cnt a ≤ cnt b := by
  unfold cnt
  rw [← x.1]
  refine List.countP_mono_left fun y hy h => ?_
  obtain ⟨h1, h2⟩ := mem_cells.mp (show (y.1, y.2) ∈ cells a.length from hy)
  exact decide_eq_true (x.2 y.1 h1 _ (of_decide_eq_true h))
end Pl

set_option maxHeartbeats 4000000
/-! a web widened within what is let -/
namespace Pl
open PySem PySem.Spec PyProof.Rows L2 Hn
inductive Clo (rows fs : List (List Int)) : Int → Int → Prop
  | base {v w : Int} : 0 ≤ v → w ∈ rowAt rows v → Clo rows fs v w
  | step {u v w : Int} : Clo rows fs u v → Clo rows fs u w → w ≠ v → w ∈ rowAt fs v → Clo rows fs v w
  | own {u v : Int} : Clo rows fs u v → u ≠ v → u ∈ rowAt fs v → Clo rows fs v u
open Classical in
noncomputable def widOf (rows fs : List (List Int)) : List (List Int) := (List.range rows.length).map fun (v : Nat) => ((List.range rows.length).filter fun (w : Nat) => decide (Clo rows fs (v : Nat) (w : Nat))).map fun (w : Nat) => (w : Int)
section
variable {rows fs W : List (List Int)}
theorem rowAt_out {rows : List (List Int)} {v : Int} (h : (rows.length : Int) ≤ v) : rowAt rows v = [] := by
  unfold rowAt
  rw [List.getD_eq_getElem?_getD, List.getElem?_eq_none_iff.mpr (by omega)]
  rfl
theorem Clo.rng (h : IsWeb rows) (hf : InRange fs) (hl : fs.length = rows.length) {v w : Int} (c : Clo rows fs v w) : (0 ≤ v ∧ v < (rows.length : Int)) ∧ (0 ≤ w ∧ w < (rows.length : Int)) ∧ w ≠ v := by
  induction c with
  | base h0 hw =>
    rename_i v w
    by_cases hv : v < (rows.length : Int)
    · have e : ((v.toNat : Nat) : Int) = v := by omega
      have := h.rng v.toNat (by omega) w (by rw [e]; exact hw)
      rw [e] at this
      exact ⟨⟨h0, hv⟩, ⟨this.1, this.2.1⟩, this.2.2⟩
    · rw [rowAt_out (by omega)] at hw
      cases hw
  | step c1 c2 ne hm ih1 ih2 =>
    have := row_range hf hm
    rw [hl] at this
    exact ⟨ih1.2.1, this, ne⟩
  | own c1 ne hm ih1 =>
    have := row_range hf hm
    rw [hl] at this
    exact ⟨ih1.2.1, this, ne⟩
@[simp] theorem widOf_len : (widOf rows fs).length = rows.length := by unfold widOf; rw [List.length_map, List.length_range]
theorem widOf_mem (h : IsWeb rows) (hf : InRange fs) (hl : fs.length = rows.length) {v : Nat} (hv : v < rows.length) (w : Int) : w ∈ rowAt (widOf rows fs) (v : Nat) ↔ Clo rows fs (v : Nat) w := by
  unfold rowAt widOf
  rw [Int.toNat_natCast, List.getD_eq_getElem?_getD, List.getElem?_map, List.getElem?_range hv]
  simp only [Option.map_some, Option.getD_some, List.mem_map, List.mem_filter, List.mem_range, decide_eq_true_eq]
  constructor
  · rintro ⟨a, ⟨_, c⟩, rfl⟩
    exact c
  · intro c
    have := (c.rng h hf hl).2.1
    refine ⟨w.toNat, ⟨by omega, ?_⟩, by omega⟩
    rw [show ((w.toNat : Nat) : Int) = w by omega]
    exact c
theorem widOf_web (h : IsWeb rows) (hf : InRange fs) (hl : fs.length = rows.length) : IsWeb (widOf rows fs) := by
  refine ⟨by rw [widOf_len]; exact h.pos, by rw [widOf_len]; exact h.few, fun u hu => ?_, fun u hu w hw => ?_⟩
  · rw [widOf_len] at hu
    unfold rowAt widOf
    rw [Int.toNat_natCast, List.getD_eq_getElem?_getD, List.getElem?_map, List.getElem?_range hu]
    simp only [Option.map_some, Option.getD_some]
    rw [List.pairwise_map]
    exact (List.Pairwise.filter _ List.pairwise_lt_range).imp fun h => by exact_mod_cast h
  · rw [widOf_len] at hu ⊢
    have := ((widOf_mem h hf hl hu w).mp hw).rng h hf hl
    exact ⟨this.2.1.1, this.2.1.2, this.2.2⟩
theorem widOf_sub (h : IsWeb rows) (hf : InRange fs) (hl : fs.length = rows.length) : Sub rows (widOf rows fs) := ⟨widOf_len.symm, fun u hu w hw => (widOf_mem h hf hl hu w).mpr (.base (by omega) hw)⟩
/-- nobody has anything more to show -/
def ClosedW (W fs : List (List Int)) : Prop := ∀ u v : Nat, u < W.length → v < W.length → ∀ w : Int, (v : Int) ∈ rowAt W (u : Nat) → (w ∈ rowAt W (u : Nat) ∨ w = (u : Int)) → w ≠ (v : Int) → w ∈ rowAt fs (v : Nat) → w ∈ rowAt W (v : Nat)
theorem Clo.least (h : IsWeb rows) (hf : InRange fs) (hl : fs.length = rows.length) (s : Sub rows W) (c : ClosedW W fs) {v w : Int} (k : Clo rows fs v w) : w ∈ rowAt W v := by
  induction k with
  | base h0 hw =>
    rename_i v w
    by_cases hv : v < (rows.length : Int)
    · have e : ((v.toNat : Nat) : Int) = v := by omega
      have := s.2 v.toNat (by omega) w (by rw [e]; exact hw)
      rw [e] at this
      exact this
    · rw [rowAt_out (by omega)] at hw
      cases hw
  | step c1 c2 ne hm ih1 ih2 =>
    rename_i u v w
    have r1 := c1.rng h hf hl
    have e1 : ((u.toNat : Nat) : Int) = u := by omega
    have e2 : ((v.toNat : Nat) : Int) = v := by omega
    have hn := s.1
    have := c u.toNat v.toNat (by omega) (by omega) w (by rw [e1, e2]; exact ih1) (by rw [e1]; exact .inl ih2) (by rw [e2]; exact ne) (by rw [e2]; exact hm)
    rw [e2] at this
    exact this
  | own c1 ne hm ih1 =>
    rename_i u v
    have r1 := c1.rng h hf hl
    have e1 : ((u.toNat : Nat) : Int) = u := by omega
    have e2 : ((v.toNat : Nat) : Int) = v := by omega
    have hn := s.1
    have := c u.toNat v.toNat (by omega) (by omega) u (by rw [e1, e2]; exact ih1) (.inr e1.symm) (by rw [e2]; exact ne) (by rw [e2]; exact hm)
    rw [e2] at this
    exact this
theorem wid_eq (h : IsWeb rows) (hf : InRange fs) (hl : fs.length = rows.length) (hW : IsWeb W) (s : Sub rows W) (c : ClosedW W fs) (k : ∀ u : Nat, u < rows.length → ∀ w ∈ rowAt W (u : Nat), Clo rows fs (u : Nat) w) : W = widOf rows fs := by
  refine web_ext hW (widOf_web h hf hl) ⟨by rw [widOf_len]; exact s.1.symm, fun u hu w hw => ?_⟩ ⟨by rw [widOf_len]; exact s.1, fun u hu w hw => ?_⟩
  · rw [← s.1] at hu
    exact (widOf_mem h hf hl hu w).mpr (k u hu w hw)
  · rw [widOf_len] at hu
    exact ((widOf_mem h hf hl hu w).mp hw).least h hf hl s c
theorem widOf_closed (h : IsWeb rows) (hf : InRange fs) (hl : fs.length = rows.length) : ClosedW (widOf rows fs) fs := fun u v hu hv w h1 h2 ne hm => by
  rw [widOf_len] at hu hv
  refine (widOf_mem h hf hl hv w).mpr ?_
  rcases h2 with z | z
  · exact .step ((widOf_mem h hf hl hu _).mp h1) ((widOf_mem h hf hl hu _).mp z) ne hm
  · subst z
    exact .own ((widOf_mem h hf hl hu _).mp h1) ne hm
end
end Pl
namespace Pl
open PySem PySem.Spec PyProof.Rows L2 Hn
/-- a comprehension that changes the store -/
theorem comp_inv {it : Wk} {p : Pat} {t : Env → Sto → R Bool} {m : Env → Sto → R D} {ρ : Env} (Inv : Nat → Sto → List D → Prop)
    (step : ∀ (i : Nat) (d : D) (st : Sto) (acc : List D), it.items[i]? = some d → Inv i st acc → it.stay st ∧ acc.length ≤ lim ∧ ∃ ρ1, p.set d ρ = some ρ1 ∧ ∃ c st1, t ρ1 st = .ok c st1 ∧ (c = true → ∃ x st2, m ρ1 st1 = .ok x st2 ∧ Inv (i + 1) st2 (acc ++ [x])) ∧ (c = false → Inv (i + 1) st1 acc))
    (fin : ∀ st acc, Inv it.items.length st acc → it.stay st) : ∀ (n i : Nat) (st : Sto) (acc : List D), n = it.items.length - i → i ≤ it.items.length → Inv i st acc → ∃ st' acc', compGo it p t m ρ (it.items.drop i) st acc = .ok acc' st' ∧ Inv it.items.length st' acc'
  | 0, i, st, acc, hn, hi, h => by
    have e : i = it.items.length := by omega
    subst e
    rw [List.drop_length]
    unfold compGo
    rw [if_pos (fin st acc h)]
    exact ⟨st, acc, rfl, h⟩
  | n + 1, i, st, acc, hn, hi, h => by
    have hl : i < it.items.length := by omega
    rw [List.drop_eq_getElem_cons hl]
    unfold compGo
    obtain ⟨h1, h2, ρ1, e1, c, st1, e2, h3, h4⟩ := step i it.items[i] st acc (List.getElem?_eq_getElem hl) h
    rw [if_pos h1, e1]
    simp only [ofOpt_some, e2, R.ner_ok]
    cases c with
    | true =>
      obtain ⟨x, st2, e3, h5⟩ := h3 rfl
      simp only [if_true, e3, R.ner_ok]
      rw [guardR_pos h2]
      exact comp_inv Inv step fin n (i + 1) st2 _ (by omega) hl h5
    | false =>
      simp only [Bool.false_eq_true, if_false]
      exact comp_inv Inv step fin n (i + 1) st1 acc (by omega) hl (h4 rfl)
theorem mComp_inv {mi : Env → Sto → R Wk} {vs : List Nat} {p : Pat} {t : Env → Sto → R Bool} {m : Env → Sto → R D} {ρ : Env} {st st1 : Sto} {it : Wk} (e : mi ρ st = .ok it st1) (Inv : Nat → Sto → List D → Prop) (h0 : Inv 0 st1 [])
    (step : ∀ (i : Nat) (d : D) (st : Sto) (acc : List D), it.items[i]? = some d → Inv i st acc → it.stay st ∧ acc.length ≤ lim ∧ ∃ ρ1, p.set d (wipeD ρ vs) = some ρ1 ∧ ∃ c st1, t ρ1 st = .ok c st1 ∧ (c = true → ∃ x st2, m ρ1 st1 = .ok x st2 ∧ Inv (i + 1) st2 (acc ++ [x])) ∧ (c = false → Inv (i + 1) st1 acc))
    (fin : ∀ st acc, Inv it.items.length st acc → it.stay st) : ∃ st' acc, mComp mi vs p t m ρ st = .ok (.lst acc) st' ∧ Inv it.items.length st' acc := by
  obtain ⟨st', acc, e2, h⟩ := comp_inv (t := t) (m := m) Inv step fin it.items.length 0 st1 [] (by omega) (Nat.zero_le _) h0
  refine ⟨st', acc, ?_, h⟩
  unfold mComp
  rw [e]
  simp only [R.ok_bind]
  rw [List.drop_zero] at e2
  rw [e2]
  rfl
end Pl

set_option maxHeartbeats 4000000
/-! _law_pot, _law_draw -/
namespace Pl
open PySem PySem.Spec PyProof.Rows L2 Hn
/-- the drawing pot at p, its great numbers at g -/
structure Pot (st : Sto) (p g : Nat) : Prop where
  ne : p ≠ g
  is : ∃ (gs ss : List Int) (t c : Int), st[p]? = some (.lst [.loc g, .lst (ss.map D.int), .int t, .int c]) ∧ st[g]? = some (.lst (gs.map D.int)) ∧ gs.length ≤ 63 ∧ (∀ x ∈ gs, 0 ≤ x) ∧ 0 < ss.length
theorem Pot.lt {st : Sto} {p g : Nat} (h : Pot st p g) : p < st.length ∧ g < st.length := by
  obtain ⟨gs, ss, t, c, h1, h2, _⟩ := h.is
  exact ⟨(List.getElem?_eq_some_iff.mp h1).1, (List.getElem?_eq_some_iff.mp h2).1⟩
/-- all that stood stands, but the pot's two lists -/
structure Keep (p g : Nat) (st st' : Sto) : Prop where
  le : st.length ≤ st'.length
  at_ : ∀ i : Nat, i < st.length → i ≠ p → i ≠ g → st'[i]? = st[i]?
theorem Keep.refl {p g : Nat} {st : Sto} : Keep p g st st := ⟨Nat.le_refl _, fun _ _ _ _ => rfl⟩
theorem Keep.trans {p g : Nat} {a b c : Sto} (x : Keep p g a b) (y : Keep p g b c) : Keep p g a c := ⟨Nat.le_trans x.le y.le, fun i h n1 n2 => (y.at_ i (Nat.lt_of_lt_of_le h x.le) n1 n2).trans (x.at_ i h n1 n2)⟩
theorem Keep.app {p g : Nat} {st x : Sto} : Keep p g st (st ++ x) := ⟨by rw [List.length_append]; omega, fun i h _ _ => List.getElem?_append_left h⟩
theorem Pot.app {st x : Sto} {p g : Nat} (h : Pot st p g) : Pot (st ++ x) p g := by
  obtain ⟨l1, l2⟩ := h.lt
  obtain ⟨gs, ss, t, c, h1, h2, r⟩ := h.is
  exact ⟨h.ne, gs, ss, t, c, by rw [List.getElem?_append_left l1]; exact h1, by rw [List.getElem?_append_left l2]; exact h2, r⟩
theorem Keep.get {p g : Nat} {st st' : Sto} (k : Keep p g st st') {i : Nat} {c : C} (h : st[i]? = some c) (n1 : i ≠ p) (n2 : i ≠ g) : st'[i]? = some c := by
  rw [k.at_ i (List.getElem?_eq_some_iff.mp h).1 n1 n2]
  exact h
/-- what is dropped behind a call leaves the pot -/
theorem gc_keep {p g : Nat} {st st' : Sto} {d : D} (hp : Pot st p g) (k : Keep p g st st') (h : Pot st' p g) : ∃ st2, gc st (.ok d st') = .ok d st2 ∧ Keep p g st st2 ∧ Pot st2 p g := by
  unfold gc
  simp only
  split
  · refine ⟨_, rfl, ⟨by rw [List.length_take]; have := k.le; omega, fun i hi n1 n2 => ?_⟩, h.ne, ?_⟩
    · rw [List.getElem?_take, if_pos hi]
      exact k.at_ i hi n1 n2
    · obtain ⟨l1, l2⟩ := hp.lt
      obtain ⟨gs, ss, t, c, h1, h2, r⟩ := h.is
      exact ⟨gs, ss, t, c, by rw [List.getElem?_take, if_pos l1]; exact h1, by rw [List.getElem?_take, if_pos l2]; exact h2, r⟩
  · exact ⟨st', rfl, k, h⟩
theorem def_keep {k n : Nat} {m : Env → Sto → O} {ds : List D} {st : Sto} {p g : Nat} {P : D → Prop} (hp : Pot st p g) (h : ds.length = k) (e : (m (ds.map some ++ List.replicate (n - k) none) st).wp { nx := fun _ s => Keep p g st s ∧ Pot s p g ∧ P .non, rt := fun d s => Keep p g st s ∧ Pot s p g ∧ P d }) :
    ∃ d st', mDef k n m ds st = .ok d st' ∧ Keep p g st st' ∧ Pot st' p g ∧ P d := by
  rw [mDef_eq h]
  revert e
  cases m (ds.map some ++ List.replicate (n - k) none) st with
  | nx ρ s => rintro ⟨h1, h2, h3⟩; obtain ⟨st2, e, r1, r2⟩ := gc_keep (d := .non) hp h1 h2; exact ⟨_, _, e, r1, r2, h3⟩
  | rt d s => rintro ⟨h1, h2, h3⟩; obtain ⟨st2, e, r1, r2⟩ := gc_keep (d := d) hp h1 h2; exact ⟨_, _, e, r1, r2, h3⟩
  | er x ρ s => exact fun z => z.elim
  | bk => exact fun z => z.elim
  | ct => exact fun z => z.elim
  | no => exact fun z => z.elim
theorem mCompM_pure {mi : Env → Sto → R Wk} {vs : List Nat} {p : Pat} {t : Env → Sto → R Bool} {m : Env → Sto → R D} {ρ : Env} {st st1 : Sto} {it : Wk} (c : D → Bool) (f : D → D) (e : mi ρ st = .ok it st1) (hs : it.stay st1) (hl : it.items.length ≤ lim)
    (h : ∀ d ∈ it.items, ∃ ρ1, p.set d (wipeD ρ vs) = some ρ1 ∧ t ρ1 st1 = .ok (c d) st1 ∧ (c d = true → m ρ1 st1 = .ok (f d) st1)) : mCompM mi vs p t m ρ st = .ok (.loc st1.length) (st1 ++ [.lst ((it.items.filter c).map f)]) := by
  unfold mCompM
  rw [e]
  simp only [R.ok_bind]
  rw [comp_pure c f hs it.items [] (by simpa using hl) h]
  rfl
theorem ints_fm (c : Int → Bool) (f : Int → Int) (cd : D → Bool) (fd : D → D) (h1 : ∀ i, cd (.int i) = c i) (h2 : ∀ i, fd (.int i) = .int (f i)) : ∀ ns : List Int, ((ns.map D.int).filter cd).map fd = ((ns.filter c).map f).map D.int
  | [] => rfl
  | n :: ns => by
    have ih := ints_fm c f cd fd h1 h2 ns
    rw [List.map_cons, List.filter_cons, List.filter_cons, h1]
    cases c n with
    | true => simp only [if_true, List.map_cons, h2, ih]
    | false => simp only [Bool.false_eq_true, if_false, ih]
def absZ (i : Int) : Int := if i < 0 then -i else i
theorem S_pot {ns : List Int} (hl : ns.length ≤ 63) : ∃ st p g, M__law_pot [.rol (ns.map D.int)] [] = .ok (.loc p) st ∧ Pot st p g := by
  unfold M__law_pot
  have lm : ∀ l : List Int, l.length ≤ 63 → (l.map D.int).length ≤ lim := fun l h => by rw [List.length_map]; exact lim_of (by omega)
  -- cells
  have c1 : mComp (mIt (mSl (mV 0) mNoPart (mPart (mC (.int 63))))) [2] (.nm 2) mYes (mCall intD (mCons (mV 2) mNil)) [some (.rol (ns.map D.int)), none, none, none, none] [] = .ok (.lst (ns.map D.int)) [] := by
    have hmi : mIt (mSl (mV 0) mNoPart (mPart (mC (.int 63)))) [some (.rol (ns.map D.int)), none, none, none, none] [] = .ok ⟨ns.map D.int, none⟩ [] := by
      refine itm_lst ?_
      simp only [mSl, mV, mNoPart, mPart, mC, List.getElem?_cons_zero, R.ok_bind, intOf, slD_rol]
      congr 2
      unfold cutD
      rw [HT.sIx_none, show (63 : Int) = ((63 : Nat) : Int) from rfl, HT.sIx_nat, List.drop_zero, Nat.sub_zero]
      exact List.take_of_length_le (by rw [List.length_map]; omega)
    rw [comp_map (fun d => d) hmi True.intro (lm ns hl) (fun d hd => by
      obtain ⟨i, _, rfl⟩ := List.mem_map.mp hd
      exact ⟨_, rfl, rfl⟩)]
    simp
  have hp18 : ∀ (ρ : Env) (st : Sto), mBin powD (mC (.int 10)) (mC (.int 18)) ρ st = .ok (.int ((10 : Int) ^ (18 : Int).toNat)) st := fun ρ st => by
    simp only [mBin, mC, R.ok_bind, powD]
    rw [guardR_pos (by decide)]
  generalize hT : (10 : Int) ^ (18 : Int).toNat = T at hp18
  have hit : ∀ (x : Option D) (y z : Option D) (st : Sto), mIt (mV 1) [some (.rol (ns.map D.int)), some (.lst (ns.map D.int)), x, y, z] st = .ok ⟨ns.map D.int, none⟩ st := fun x y z st => itm_lst rfl
  have c2 : mCompM (mIt (mV 1)) [2] (.nm 2) (mTst (mBin (cmpI fun i j => decide (j ≤ i)) (mCall absD (mCons (mV 2) mNil)) (mBin powD (mC (.int 10)) (mC (.int 18))))) (mCall absD (mCons (mV 2) mNil)) [some (.rol (ns.map D.int)), some (.lst (ns.map D.int)), none, none, none] []
      = .ok (.loc 0) [.lst (((ns.filter fun i => decide (T ≤ absZ i)).map absZ).map D.int)] := by
    rw [mCompM_pure (fun d => match d with | .int i => decide (T ≤ absZ i) | _ => false) (fun d => match d with | .int i => .int (absZ i) | d => d) (hit _ _ _ _) True.intro (lm ns hl) (fun d hd => by
      obtain ⟨i, _, rfl⟩ := List.mem_map.mp hd
      refine ⟨_, rfl, tst_ok ((bin_ok (x := .int (absZ i)) (st1 := []) rfl (hp18 _ _)).trans rfl), fun _ => ?_⟩
      exact (call_ok (one_ok rfl)).trans rfl)]
    show R.ok (D.loc 0) [C.lst _] = _
    rw [ints_fm (fun i => decide (T ≤ absZ i)) absZ _ _ (fun _ => rfl) fun _ => rfl]
  have c3 : ∀ st : Sto, mComp (mIt (mV 1)) [2] (.nm 2) (mTst (mBin ltD (mCall absD (mCons (mV 2) mNil)) (mBin powD (mC (.int 10)) (mC (.int 18))))) (mBin modD (mCall intD (mCons (mV 2) mNil)) (mC (.int 1000000007))) [some (.rol (ns.map D.int)), some (.lst (ns.map D.int)), none, some (.loc 0), none] st
      = .ok (.lst (((ns.filter fun i => decide (absZ i < T)).map fun i => i % 1000000007).map D.int)) st := fun st => by
    rw [mComp_pure (fun d => match d with | .int i => decide (absZ i < T) | _ => false) (fun d => match d with | .int i => .int (i % 1000000007) | d => d) (hit _ _ _ _) True.intro (lm ns hl) (fun d hd => by
      obtain ⟨i, _, rfl⟩ := List.mem_map.mp hd
      refine ⟨_, rfl, tst_ok ((bin_ok (x := .int (absZ i)) (st1 := st) rfl (hp18 _ _)).trans rfl), fun _ => ?_⟩
      exact (bin_ok (x := .int i) (y := .int 1000000007) (st1 := st) (st2 := st) rfl rfl).trans (by simp only [modD]; rw [guardR_pos (by decide)]))]
    rw [ints_fm (fun i => decide (absZ i < T)) (fun i => i % 1000000007) _ _ (fun _ => rfl) fun _ => rfl]
  obtain ⟨gs, hgs, hg0, hg1⟩ : ∃ gs : List Int, gs = (ns.filter fun i => decide (T ≤ absZ i)).map absZ ∧ gs.length ≤ 63 ∧ ∀ x ∈ gs, 0 ≤ x := by
    refine ⟨_, rfl, ?_, fun x hx => ?_⟩
    · rw [List.length_map]
      exact Nat.le_trans (List.length_filter_le _ _) hl
    · obtain ⟨i, _, rfl⟩ := List.mem_map.mp hx
      unfold absZ
      split <;> omega
  obtain ⟨ss, hss, hs0⟩ : ∃ ss : List Int, ss = (ns.filter fun i => decide (absZ i < T)).map (fun i => i % 1000000007) ∧ ss.length ≤ 63 := ⟨_, rfl, by rw [List.length_map]; exact Nat.le_trans (List.length_filter_le _ _) hl⟩
  rw [← hgs] at c2
  rw [← hss] at c3
  rw [mDef_eq (k := 1) (ds := [.rol (ns.map D.int)]) rfl]
  have body : ∀ o : O, (toR o) = (match o with | .nx _ st => .ok .non st | .rt d st => .ok d st | .er e _ st => .er e st | _ => .no) := fun o => by cases o <;> rfl
  rw [show (List.map some [D.rol (ns.map D.int)] ++ List.replicate (5 - 1) none : Env) = [some (.rol (ns.map D.int)), none, none, none, none] from rfl]
  rw [seq_nx (set_ok c1)]
  simp only [List.set]
  rw [seq_nx (set_ok (i := 3) c2)]
  simp only [List.set]
  have c4 : mBin addD (mComp (mIt (mV 1)) [2] (.nm 2) (mTst (mBin ltD (mCall absD (mCons (mV 2) mNil)) (mBin powD (mC (.int 10)) (mC (.int 18))))) (mBin modD (mCall intD (mCons (mV 2) mNil)) (mC (.int 1000000007)))) (mLst (mCons (mBin addD (mCall lenD (mCons (mV 1) mNil)) (mC (.int 1))) mNil)) [some (.rol (ns.map D.int)), some (.lst (ns.map D.int)), none, some (.loc 0), none] [.lst (gs.map D.int)]
      = .ok (.lst ((ss ++ [(ns.length : Int) + 1]).map D.int)) [.lst (gs.map D.int)] := by
    refine (bin_ok (c3 _) (y := .lst [.int ((ns.length : Int) + 1)]) (st2 := [.lst (gs.map D.int)]) ?_).trans ?_
    · simp only [mLst, mCons, mNil, mBin, mCall, mV, mC, List.getElem?_cons_succ, List.getElem?_cons_zero, R.ok_bind, lenD_lst, List.length_map, addD_int, List.length_cons, List.length_nil]
      rw [guardR_pos (lim_of (by decide))]
    · rw [addD_lst, guardR_pos (by rw [List.length_map]; exact lim_of (by simp; omega))]
      simp
  rw [seq_nx (set_ok (i := 4) c4)]
  simp only [List.set]
  rw [ret_ok (d := .loc 1) (st1 := [.lst (gs.map D.int), .lst [.loc 0, .lst ((ss ++ [(ns.length : Int) + 1]).map D.int), .int 0, .int ((ss ++ [(ns.length : Int) + 1]).sum % 999983)]]) (by
    simp only [mLstM, mCons, mNil, mBin, mCall, mV, mC, List.set, List.getElem?_cons_succ, List.getElem?_cons_zero, R.ok_bind, sumD_lst, ints_map, ofOpt_some, intD, modD]
    rw [guardR_pos (show (0 : Int) < 999983 by decide)]
    simp only [R.ok_bind]
    rw [guardR_pos (lim_of (by show 4 ≤ 1000000; decide))]
    rfl)]
  refine ⟨[.lst (gs.map D.int), .lst [.loc 0, .lst ((ss ++ [(ns.length : Int) + 1]).map D.int), .int 0, .int ((ss ++ [(ns.length : Int) + 1]).sum % 999983)]], 1, 0, ?_, ⟨by decide, gs, ss ++ [(ns.length : Int) + 1], 0, _, rfl, rfl, hg0, hg1, by simp⟩⟩
  simp only [toR_rt]
  unfold gc
  simp only
  rw [if_neg]
  intro z
  exact absurd (show 1 < 0 from z.1) (by decide)
end Pl

set_option maxHeartbeats 4000000
namespace Pl
open PySem PySem.Spec PyProof.Rows L2 Hn
theorem ifS_fN {t : Env → Sto → R Bool} {a : Env → Sto → O} {ρ : Env} {st st1 : Sto} (e : t ρ st = .ok false st1) : mIfS t a mNext ρ st = .nx ρ st1 := ifS_f e
theorem ix_at {st : Sto} {n : Nat} {xs : List D} {j : Int} {d : D} (h : st[n]? = some (.lst xs)) (e : atI xs j = some d) : ixD (.loc n) (.int j) st = .ok d st := by
  rw [ixD_loc h, e]
  rfl
theorem putL_at {st : Sto} {n : Nat} {xs : List D} {i : Int} {j : Nat} {d : D} (h : st[n]? = some (.lst xs)) (e : ixN xs.length i = some j) : putD (.loc n) (.int i) d st = some (st.set n (.lst (xs.set j d))) := by
  unfold putD
  simp only [h, e]
theorem put_ok {mo mi mv : Env → Sto → R D} {ρ : Env} {st st1 st2 st3 st4 : Sto} {v x i : D} (e1 : mv ρ st = .ok v st1) (e2 : mo ρ st1 = .ok x st2) (e3 : mi ρ st2 = .ok i st3) (e4 : putD x i v st3 = some st4) : mPut mo mi mv ρ st = .nx ρ st4 := by
  unfold mPut
  rw [e1]
  simp only [O.of_ok]
  rw [e2]
  simp only [O.of_ok]
  rw [e3]
  simp only [O.of_ok, e4, ofOptO_some]
theorem get_set_ne {st : Sto} {i j : Nat} {c : C} (h : i ≠ j) : (st.set i c)[j]? = st[j]? := List.getElem?_set_ne h
theorem get_set_eq {st : Sto} {i : Nat} {c c' : C} (h : st[i]? = some c') : (st.set i c)[i]? = some c := List.getElem?_set_self (List.getElem?_eq_some_iff.mp h).1
theorem Keep.set {p g : Nat} {st st' : Sto} (k : Keep p g st st') {i : Nat} {c : C} (h : i = p ∨ i = g) : Keep p g st (st'.set i c) := ⟨by rw [List.length_set]; exact k.le, fun j hj n1 n2 => by
  rw [get_set_ne (fun e => by rcases h with h | h <;> omega)]
  exact k.at_ j hj n1 n2⟩
theorem mod_ok {i j : Int} {st : Sto} (h : 0 < j) : modD (.int i) (.int j) st = .ok (.int (i % j)) st := by
  simp only [modD]
  rw [guardR_pos h]
theorem fdiv_ok {i j : Int} {st : Sto} (h : 0 < j) (h2 : j < 1073741824) : fdivD (.int i) (.int j) st = .ok (.int (i / j)) st := by
  simp only [fdivD]
  rw [guardR_pos ⟨h, h2⟩]
theorem mul_ok {i j : Int} {st : Sto} (h : mulOk i j) : mulD (.int i) (.int j) st = .ok (.int (i * j)) st := by
  rw [mulD_int, guardR_pos h]
theorem S_draw {st : Sto} {p g : Nat} {m : Int} (hp : Pot st p g) (h0 : 0 < m) (h1 : m < 1073741824) : ∃ d st', M__law_draw [.loc p, .int m] st = .ok d st' ∧ Keep p g st st' ∧ Pot st' p g ∧ ∃ r : Int, d = .int r ∧ 0 ≤ r ∧ r < m := by
  unfold M__law_draw
  refine def_keep hp rfl ?_
  obtain ⟨ne, gs, ss, t, c, hP, hG, hl, hpos, hss⟩ := hp
  rw [show (List.map some [D.loc p, D.int m] ++ List.replicate (5 - 2) none : Env) = [some (.loc p), some (.int m), none, none, none] from rfl]
  rw [seq_nx (set_ok (bin_ok rfl rfl |>.trans (ix_at hP (show atI _ (2 : Int) = some (.int t) from rfl))))]
  simp only [List.set]
  rw [seq_nx (put_ok (v := .int (t + 1)) rfl rfl rfl (putL_at hP (show ixN _ (2 : Int) = some 2 from rfl)))]
  have hP1 : (st.set p (.lst [.loc g, .lst (ss.map D.int), .int (t + 1), .int c]))[p]? = some (.lst [.loc g, .lst (ss.map D.int), .int (t + 1), .int c]) := get_set_eq hP
  have hG1 : (st.set p (.lst [.loc g, .lst (ss.map D.int), .int (t + 1), .int c]))[g]? = some (.lst (gs.map D.int)) := by rw [get_set_ne ne]; exact hG
  have K1 : Keep p g st (st.set p (.lst [.loc g, .lst (ss.map D.int), .int (t + 1), .int c])) := Keep.refl.set (.inl rfl)
  show (mSeq _ _ _ (st.set p (.lst [.loc g, .lst (ss.map D.int), .int (t + 1), .int c]))).wp _
  generalize hst1 : st.set p (.lst [.loc g, .lst (ss.map D.int), .int (t + 1), .int c]) = st1 at *
  have i0 : ∀ (ρ : Env), ρ[0]? = some (some (.loc p)) → mBin ixD (mV 0) (mC (.int 0)) ρ st1 = .ok (.loc g) st1 := fun ρ hρ => (bin_ok (by simp only [mV, hρ]) rfl).trans (ix_at hP1 rfl)
  have i1 : ∀ (ρ : Env), ρ[0]? = some (some (.loc p)) → mBin ixD (mV 0) (mC (.int 1)) ρ st1 = .ok (.lst (ss.map D.int)) st1 := fun ρ hρ => (bin_ok (by simp only [mV, hρ]) rfl).trans (ix_at hP1 rfl)
  have i3 : ∀ (ρ : Env), ρ[0]? = some (some (.loc p)) → mBin ixD (mV 0) (mC (.int 3)) ρ st1 = .ok (.int c) st1 := fun ρ hρ => (bin_ok (by simp only [mV, hρ]) rfl).trans (ix_at hP1 rfl)
  have test : mTst (mBin (cmpI fun i j => decide (j < i)) (mCall lenD (mCons (mBin ixD (mV 0) (mC (.int 0))) mNil)) (mC (.int 0))) [some (.loc p), some (.int m), some (.int t), none, none] st1 = .ok (decide ((0 : Int) < (gs.length : Int))) st1 := by
    refine tst_ok ((bin_ok (x := .int gs.length) (y := .int 0) (st1 := st1) (st2 := st1) ((call_ok (one_ok (i0 _ rfl))).trans ?_) rfl).trans rfl)
    rw [lenD_loc hG1, List.length_map]
  cases gs with
  | cons n0 gr =>
    refine wp_seq ?_
    rw [ifS_t (by rw [test, decide_eq_true (by simp only [List.length_cons]; omega)])]
    have j0 : ∀ (ρ : Env), ρ[0]? = some (some (.loc p)) → mBin ixD (mBin ixD (mV 0) (mC (.int 0))) (mC (.int 0)) ρ st1 = .ok (.int n0) st1 := fun ρ hρ => (bin_ok (i0 ρ hρ) rfl).trans (ix_at hG1 (by rw [List.map_cons, show (0 : Int) = ((0 : Nat) : Int) from rfl]; exact atI_nat rfl))
    rw [seq_nx (set_ok (j0 _ rfl))]
    simp only [List.set]
    rw [seq_nx (put_ok (v := .int (n0 / m)) ((bin_ok rfl rfl).trans (fdiv_ok h0 h1)) (i0 _ rfl) rfl (putL_at hG1 (show ixN _ (0 : Int) = some 0 by
      unfold ixN
      rw [if_pos (by decide), if_pos (by simp only [List.length_map, List.length_cons]; omega)]
      rfl)))]
    simp only [List.map_cons, List.set]
    have hn0 : 0 ≤ n0 := hpos n0 List.mem_cons_self
    have hP2 : (st1.set g (.lst (D.int (n0 / m) :: gr.map D.int)))[p]? = some (.lst [.loc g, .lst (ss.map D.int), .int (t + 1), .int c]) := by rw [get_set_ne (Ne.symm ne)]; exact hP1
    have hG2 : (st1.set g (.lst (D.int (n0 / m) :: gr.map D.int)))[g]? = some (.lst (D.int (n0 / m) :: gr.map D.int)) := get_set_eq hG1
    have K2 : Keep p g st (st1.set g (.lst (D.int (n0 / m) :: gr.map D.int))) := K1.set (.inr rfl)
    generalize hst2 : st1.set g (.lst (D.int (n0 / m) :: gr.map D.int)) = st2 at *
    have t2 : mTst (mBin ltD (mV 3) (mV 1)) [some (.loc p), some (.int m), some (.int t), some (.int n0), none] st2 = .ok (decide (n0 < m)) st2 := tst_ok ((bin_ok rfl rfl).trans rfl)
    have rr : ∀ st3 : Sto, mRet (mBin modD (mCall intD (mCons (mV 3) mNil)) (mV 1)) [some (.loc p), some (.int m), some (.int t), some (.int n0), none] st3 = .rt (.int (n0 % m)) st3 := fun st3 => ret_ok ((bin_ok (x := .int n0) (y := .int m) (st1 := st3) (st2 := st3) rfl rfl).trans (mod_ok h0))
    have fin : ∃ r : Int, D.int (n0 % m) = .int r ∧ 0 ≤ r ∧ r < m := ⟨_, rfl, Int.emod_nonneg _ (by omega), Int.emod_lt_of_pos _ h0⟩
    by_cases hlt : n0 < m
    · rw [decide_eq_true hlt] at t2
      have i02 : mBin ixD (mV 0) (mC (.int 0)) [some (.loc p), some (.int m), some (.int t), some (.int n0), none] st2 = .ok (.loc g) st2 := (bin_ok rfl rfl).trans (ix_at hP2 rfl)
      have pop : mExpr (mMeth popAtD (mBin ixD (mV 0) (mC (.int 0))) (mCons (mC (.int 0)) mNil)) [some (.loc p), some (.int m), some (.int t), some (.int n0), none] st2 = .nx [some (.loc p), some (.int m), some (.int t), some (.int n0), none] (st2.set g (.lst (gr.map D.int))) := by
        refine expr_ok (d := .int (n0 / m)) ?_
        unfold mMeth
        rw [i02]
        simp only [R.ok_bind, itemsL_loc hG2, ofOpt_some, mCons, mC, mNil, popAtD, lstOf_loc hG2]
        rw [guardR_pos (by decide)]
        have hsi : seqIndex? 0 (D.int (n0 / m) :: List.map D.int gr).length = some 0 := by
          obtain ⟨hh, _⟩ := ixN_seq (n := (D.int (n0 / m) :: List.map D.int gr).length) (i := 0) (j := 0) (by
            unfold ixN
            rw [if_pos (by decide), if_pos (by simp only [List.length_cons]; omega)]
            rfl)
          exact hh
        rw [hsi]
        rfl
      rw [seq_nx ((ifS_t t2).trans pop), rr]
      simp only [wp_rt]
      exact ⟨K2.set (.inr rfl), ⟨ne, gr, ss, t + 1, c, by rw [get_set_ne (Ne.symm ne)]; exact hP2, get_set_eq hG2, by simp only [List.length_cons] at hl; omega, fun x hx => hpos x (List.mem_cons_of_mem _ hx), hss⟩, fin⟩
    · rw [decide_eq_false hlt] at t2
      rw [seq_nx (ifS_fN t2), rr]
      simp only [wp_rt]
      refine ⟨K2, ⟨ne, n0 / m :: gr, ss, t + 1, c, hP2, hG2, hl, fun x hx => ?_, hss⟩, fin⟩
      rcases List.mem_cons.mp hx with z | z
      · rw [z]; exact Int.ediv_nonneg hn0 (by omega)
      · exact hpos x (List.mem_cons_of_mem _ z)
  | nil =>
    rw [seq_nx (ifS_fN (by rw [test]; rfl))]
    have pot1 : Pot st1 p g := ⟨ne, [], ss, t + 1, c, hP1, hG1, hl, hpos, hss⟩
    have hmod : 0 ≤ t % (ss.length : Int) ∧ t % (ss.length : Int) < ss.length := ⟨Int.emod_nonneg _ (by omega), Int.emod_lt_of_pos _ (by omega)⟩
    obtain ⟨s0, hs0, _⟩ := atI_in (xs := ss) hmod.1 hmod.2
    have a1 : mBin ixD (mBin ixD (mV 0) (mC (.int 1))) (mBin modD (mCall intD (mCons (mV 2) mNil)) (mCall lenD (mCons (mBin ixD (mV 0) (mC (.int 1))) mNil))) [some (.loc p), some (.int m), some (.int t), none, none] st1 = .ok (.int s0) st1 := by
      refine (bin_ok (i1 _ rfl) ((bin_ok (x := .int t) (y := .int ss.length) (st1 := st1) (st2 := st1) rfl ((call_ok (one_ok (i1 _ rfl))).trans ?_)).trans (mod_ok (by omega)))).trans ?_
      · rw [lenD_lst, List.length_map]
      · rw [ixD_lst, atI_map, hs0]
        rfl
    have mk : ∀ {i j : Int}, (-b64 < j ∧ j < b64) → mulOk i j := fun h => .inr h
    have mk2 : ∀ {i j : Int}, (-b64 < i ∧ i < b64) → mulOk i j := fun h => .inl h
    have a2 : (mBin addD (mBin addD (mBin mulD (mBin ixD (mBin ixD (mV 0) (mC (.int 1))) (mBin modD (mCall intD (mCons (mV 2) mNil)) (mCall lenD (mCons (mBin ixD (mV 0) (mC (.int 1))) mNil)))) (mC (.int 7919))) (mBin mulD (mC (.int 104729)) (mV 2))) (mBin mulD (mBin ixD (mV 0) (mC (.int 3))) (mC (.int 31)))) [some (.loc p), some (.int m), some (.int t), none, none] st1 = .ok (.int (s0 * 7919 + 104729 * t + c * 31)) st1 :=
      (bin_ok ((bin_ok ((bin_ok a1 rfl).trans (mul_ok (mk (by decide)))) ((bin_ok rfl rfl).trans (mul_ok (mk2 (by decide))))).trans rfl) ((bin_ok (i3 _ rfl) rfl).trans (mul_ok (mk (by decide))))).trans rfl
    rw [seq_nx (set_ok a2)]
    simp only [List.set]
    generalize s0 * 7919 + 104729 * t + c * 31 = s1
    have b1 : mBin modD (mCall intD (mCons (mBin addD (mBin mulD (mV 4) (mC (.int 48271))) (mC (.int 11))) mNil)) (mC (.int 2147483647)) [some (.loc p), some (.int m), some (.int t), none, some (.int s1)] st1 = .ok (.int ((s1 * 48271 + 11) % 2147483647)) st1 :=
      (bin_ok (x := .int (s1 * 48271 + 11)) (st1 := st1) ((call_ok (one_ok ((bin_ok ((bin_ok rfl rfl).trans (mul_ok (mk (by decide)))) rfl).trans rfl))).trans rfl) rfl).trans (mod_ok (by decide))
    rw [seq_nx (set_ok b1)]
    simp only [List.set]
    have r1 : 0 ≤ (s1 * 48271 + 11) % 2147483647 ∧ (s1 * 48271 + 11) % 2147483647 < 2147483647 := ⟨Int.emod_nonneg _ (by decide), Int.emod_lt_of_pos _ (by decide)⟩
    generalize (s1 * 48271 + 11) % 2147483647 = n1 at *
    have big : ∀ {n : Int}, 0 ≤ n → n < 2147483647 → -b64 < n ∧ n < b64 := fun h1 h2 => ⟨Int.lt_of_lt_of_le (by decide) h1, Int.lt_trans h2 (by decide)⟩
    have b2 : mBin modD (mCall intD (mCons (mBin mulD (mV 3) (mBin addD (mBin fdivD (mV 3) (mC (.int 1009))) (mC (.int 69621)))) mNil)) (mC (.int 2147483629)) [some (.loc p), some (.int m), some (.int t), some (.int n1), some (.int s1)] st1 = .ok (.int ((n1 * (n1 / 1009 + 69621)) % 2147483629)) st1 :=
      (bin_ok (x := .int (n1 * (n1 / 1009 + 69621))) (st1 := st1) ((call_ok (one_ok ((bin_ok rfl ((bin_ok ((bin_ok rfl rfl).trans (fdiv_ok (by decide) (by decide))) rfl).trans rfl)).trans (mul_ok (mk2 (big r1.1 r1.2)))))).trans rfl) rfl).trans (mod_ok (by decide))
    rw [seq_nx (set_ok b2)]
    simp only [List.set]
    have r2 : 0 ≤ (n1 * (n1 / 1009 + 69621)) % 2147483629 ∧ (n1 * (n1 / 1009 + 69621)) % 2147483629 < 2147483647 := ⟨Int.emod_nonneg _ (by decide), Int.lt_trans (Int.emod_lt_of_pos _ (by decide)) (by decide)⟩
    generalize (n1 * (n1 / 1009 + 69621)) % 2147483629 = n2 at *
    have b3 : mBin modD (mCall intD (mCons (mBin addD (mBin mulD (mV 3) (mBin addD (mBin fdivD (mV 3) (mC (.int 2003))) (mC (.int 40692)))) (mV 2)) mNil)) (mC (.int 2147483399)) [some (.loc p), some (.int m), some (.int t), some (.int n2), some (.int s1)] st1 = .ok (.int ((n2 * (n2 / 2003 + 40692) + t) % 2147483399)) st1 :=
      (bin_ok (x := .int (n2 * (n2 / 2003 + 40692) + t)) (st1 := st1) ((call_ok (one_ok ((bin_ok ((bin_ok rfl ((bin_ok ((bin_ok rfl rfl).trans (fdiv_ok (by decide) (by decide))) rfl).trans rfl)).trans (mul_ok (mk2 (big r2.1 r2.2)))) rfl).trans rfl))).trans rfl) rfl).trans (mod_ok (by decide))
    rw [seq_nx (set_ok b3)]
    simp only [List.set]
    generalize (n2 * (n2 / 2003 + 40692) + t) % 2147483399 = n3 at *
    rw [ret_ok ((bin_ok (x := .int (n3 / 64)) (y := .int m) (st1 := st1) (st2 := st1) ((call_ok (one_ok ((bin_ok rfl rfl).trans (fdiv_ok (by decide) (by decide))))).trans rfl) rfl).trans (mod_ok h0))]
    simp only [wp_rt]
    exact ⟨K1, pot1, _, rfl, Int.emod_nonneg _ (by omega), Int.emod_lt_of_pos _ h0⟩
end Pl

set_option maxHeartbeats 4000000
/-! steps_from, found_from, all_found -/
namespace Pl
open PySem PySem.Spec PyProof.Rows L2 Hn
/-- what is walked in a turn -/
def LastOk (st junk : Sto) (d : D) (l : List Int) : Prop := ∃ it, it.items = l.map D.int ∧ ∀ (c : C) (y : Sto), itrOf (st ++ c :: (junk ++ y)) d = some it ∧ it.stay (st ++ c :: (junk ++ y)) ∧ truD (st ++ c :: (junk ++ y)) d = some !l.isEmpty
theorem LastOk.lst {st junk : Sto} {l : List Int} : LastOk st junk (.lst (l.map D.int)) l := ⟨⟨l.map D.int, none⟩, rfl, fun c y => ⟨rfl, True.intro, by show some _ = _; rw [map_emp]⟩⟩
theorem LastOk.loc {st junk : Sto} {l : List Int} : LastOk st (junk ++ [.lst (l.map D.int)]) (.loc (st.length + 1 + junk.length)) l := by
  have e : ∀ (c : C) (y : Sto), (st ++ c :: (junk ++ [.lst (l.map D.int)] ++ y))[st.length + 1 + junk.length]? = some (.lst (l.map D.int)) := fun c y => by
    have := get_mid (st ++ c :: junk) y (.lst (l.map D.int))
    rw [show (st ++ c :: junk).length = st.length + 1 + junk.length by simp; omega] at this
    rw [← this]
    simp
  refine ⟨⟨l.map D.int, some (_, l.map D.int)⟩, rfl, fun c y => ⟨itrOf_loc (e c y), e c y, ?_⟩⟩
  simp only [truD, e]
  rw [map_emp]
theorem S_steps {rows : List (List Int)} {pk : D} {u : Int} {st : Sto} (hp : Pk st pk rows) (hin : InRange rows) (hu : 0 ≤ u ∧ u < (rows.length : Int)) (hl : rows.length ≤ 1000) :
    ∃ kvs junk, M_steps_from [pk, .int u] st = .ok (.loc st.length) (st ++ .dct (encD kvs) :: junk) ∧ Dists rows u kvs := by
  have key : (toR ((mSeq (mSet 2 (mDispM [((mV 1), (mC (.int 0)))]))
    (mSeq (mSet 3 (mLst (mCons (mV 1) mNil)))
    (mSeq (mWhile (mTru (mV 3)) (mSeq (mSet 4 (mLstM mNil))
    (mSeq (mFor (mIt (mV 3)) (.nm 5) (mFor (mIt (mBin ixD (mV 0) (mV 5))) (.nm 6) (mIfS (mTst (mBin (inD true) (mV 6) (mV 2))) (mSeq (mPut (mV 2) (mV 6) (mBin addD (mBin ixD (mV 2) (mV 5)) (mC (.int 1))))
    (mExpr (mMeth appD (mV 4) (mCons (mV 6) mNil)))) mNext)))
    (mSet 3 (mV 4)))))
    (mRet (mV 2))))) [some pk, some (.int u), none, none, none, none, none] st)).post (fun d st' => ∃ kvs junk, d = .loc st.length ∧ st' = st ++ .dct (encD kvs) :: junk ∧ Dists rows u kvs) (fun _ _ => False) := by
    refine toR_post (wp_seq ?_)
    simp only [mSet, mDispM, mPairs_cons, mPairs_nil, mV, mC, R.ok_bind, List.getElem?_cons_succ, List.getElem?_cons_zero, keyPs, dkey, ofOpt_some, mergeD, List.foldl, List.length_cons, List.length_nil, O.of_ok, wp_nx]
    rw [guardR_pos (by decide)]
    simp only [O.of_ok, wp_nx, List.set]
    refine wp_seq ?_
    simp only [mSet, mLst, mCons, mNil, mV, R.ok_bind, List.getElem?_cons_succ, List.getElem?_cons_zero, List.length_cons, List.length_nil]
    rw [guardR_pos (by decide)]
    simp only [O.of_ok, wp_nx, List.set]
    refine wp_seq ?_
    refine wp_while (fun k ρ st' => ∃ kvs junk last l m x4 x5 x6, ρ = [some pk, some (.int u), some (.loc st.length), some last, x4, x5, x6] ∧ st' = st ++ .dct (encD kvs) :: junk ∧ LastOk st junk last l ∧ Lay rows u kvs l m ∧ k = 2 * (rows.length - kvs.length) + (if l = [] then 0 else 1)) _ ⟨[(u, 0)], [], _, [u], 0, none, none, none, rfl, rfl, LastOk.lst (l := [u]), .start, rfl⟩ ?_
    rintro k ρ st' ⟨kvs, junk, last, l, m, x4, x5, x6, rfl, rfl, lo, lay, rfl⟩
    obtain ⟨it, e1, h1⟩ := lo
    simp only [mTru, mV, R.ok_bind, List.getElem?_cons_succ, List.getElem?_cons_zero]
    have h2 := h1 (.dct (encD kvs)) []
    rw [List.append_nil] at h2
    rw [h2.2.2]
    simp only [ofOpt_some, post_okR]
    cases l with
    | nil =>
      simp only [List.isEmpty_nil, Bool.not_true, Bool.false_eq_true, if_false]
      simp only [mRet, mV, List.getElem?_cons_succ, List.getElem?_cons_zero, O.of_ok, wp_rt]
      exact ⟨kvs, junk, trivial, rfl, lay.dists⟩
    | cons l0 lr =>
      simp only [List.isEmpty_cons, Bool.not_false, if_true]
      generalize hll : l0 :: lr = l at *
      have hne : l ≠ [] := by rw [← hll]; exact List.cons_ne_nil _ _
      refine wp_seq ?_
      simp only [mSet, mLstM, mNil, R.ok_bind, List.length_nil]
      rw [guardR_pos (by decide)]
      simp only [O.of_ok, wp_nx, List.set]
      have hj : (st ++ C.dct (encD kvs) :: junk).length = st.length + 1 + junk.length := by simp; omega
      rw [hj]
      refine wp_seq ?_
      -- the walk over the last layer
      have hmi : mIt (mV 3) [some pk, some (.int u), some (.loc st.length), some last, some (.loc (st.length + 1 + junk.length)), x5, x6] (st ++ C.dct (encD kvs) :: junk ++ [.lst []]) = .ok it (st ++ C.dct (encD kvs) :: junk ++ [.lst []]) := by
        simp only [mIt, mV, R.ok_bind, List.getElem?_cons_succ, List.getElem?_cons_zero]
        have := (h1 (.dct (encD kvs)) [.lst []]).1
        rw [show st ++ C.dct (encD kvs) :: (junk ++ [.lst []]) = st ++ C.dct (encD kvs) :: junk ++ [.lst []] by simp] at this
        rw [this]
        rfl
      have shp : ∀ (kvs' : List (Int × Int)) (f : List Int), st ++ C.dct (encD kvs') :: junk ++ [C.lst (f.map D.int)] = st ++ C.dct (encD kvs') :: (junk ++ [C.lst (f.map D.int)]) := fun _ _ => by simp
      refine wp_for hmi (fun i ρ st' => ∃ kvs' f y5 y6, ρ = [some pk, some (.int u), some (.loc st.length), some last, some (.loc (st.length + 1 + junk.length)), y5, y6] ∧ st' = st ++ C.dct (encD kvs') :: (junk ++ [C.lst (f.map D.int)]) ∧
        Mid rows u l m (fun v w => v ∈ l.take i ∧ w ∈ rowAt rows v) kvs' f ∧ kvs'.length = kvs.length + f.length) ⟨kvs, [], x5, x6, rfl, by simp, ?_, by simp⟩ ?_ ?_
      · have := lay.mid
        exact ⟨this.nd, this.re, this.st, this.low, this.lay, this.fu, this.dn, fun k w p => by rw [List.take_zero] at p; exact absurd p.1 List.not_mem_nil, this.m0⟩
      · rintro i d ρ st2 hd ⟨kvs', f, y5, y6, rfl, rfl, mid, hlen⟩
        rw [e1, List.getElem?_map] at hd
        obtain ⟨v, hv, rfl⟩ := Option.map_eq_some_iff.mp hd
        have hvl : v ∈ l := List.mem_of_getElem? hv
        obtain ⟨dv, hdv⟩ : ∃ d, dist kvs' v = some d := ⟨m, (mid.lay v).mp hvl⟩
        have hdv' : dist kvs' v = some m := (mid.lay v).mp hvl
        have hvr := (mid.re v _ hdv').range hin hu
        refine ⟨(h1 _ _).2.1, _, rfl, ?_⟩
        simp only [List.set]
        obtain ⟨e, it2, e2, h3⟩ := hp.ix v hvr.1 hvr.2
        have hmi2 : mIt (mBin ixD (mV 0) (mV 5)) [some pk, some (.int u), some (.loc st.length), some last, some (.loc (st.length + 1 + junk.length)), some (.int v), y6] (st ++ C.dct (encD kvs') :: (junk ++ [C.lst (f.map D.int)])) = .ok it2 (st ++ C.dct (encD kvs') :: (junk ++ [C.lst (f.map D.int)])) := by
          simp only [mIt, mBin, mV, R.ok_bind, List.getElem?_cons_succ, List.getElem?_cons_zero]
          rw [(h3 _).1]
          simp only [R.ok_bind]
          rw [(h3 _).2.1]
          rfl
        refine wp_for hmi2 (fun j ρ st' => ∃ kvs' f y6, ρ = [some pk, some (.int u), some (.loc st.length), some last, some (.loc (st.length + 1 + junk.length)), some (.int v), y6] ∧ st' = st ++ C.dct (encD kvs') :: (junk ++ [C.lst (f.map D.int)]) ∧
          Mid rows u l m (fun a w => (a ∈ l.take i ∧ w ∈ rowAt rows a) ∨ (a = v ∧ w ∈ (rowAt rows v).take j)) kvs' f ∧ kvs'.length = kvs.length + f.length) ⟨kvs', f, y6, rfl, rfl, ?_, hlen⟩ ?_ ?_
        · exact ⟨mid.nd, mid.re, mid.st, mid.low, mid.lay, mid.fu, mid.dn, fun k w p => by
            rcases p with p | ⟨_, p⟩
            · exact mid.cur k w p
            · rw [List.take_zero] at p; exact absurd p List.not_mem_nil, mid.m0⟩
        · clear hdv' hdv hlen mid
          rintro j d ρ st2 hd ⟨kvs', f, y6, rfl, rfl, mid, hlen⟩
          rw [e2, List.getElem?_map] at hd
          obtain ⟨w, hw, rfl⟩ := Option.map_eq_some_iff.mp hd
          have hwl : w ∈ rowAt rows v := List.mem_of_getElem? hw
          have hst := (h3 (C.dct (encD kvs') :: (junk ++ [C.lst (f.map D.int)]))).2.2
          refine ⟨hst, _, rfl, ?_⟩
          simp only [List.set]
          have hPe : ∀ k x, ((k ∈ l.take i ∧ x ∈ rowAt rows k) ∨ (k = v ∧ x ∈ (rowAt rows v).take (j + 1))) → ((k ∈ l.take i ∧ x ∈ rowAt rows k) ∨ (k = v ∧ x ∈ (rowAt rows v).take j)) ∨ x = w := fun k x p => by
            rcases p with p | ⟨p, q⟩
            · exact .inl (.inl p)
            · rw [List.take_add_one, hw] at q
              rcases List.mem_append.mp q with q | q
              · exact .inl (.inr ⟨p, q⟩)
              · exact .inr (List.mem_singleton.mp q)
          have g1 : (st ++ C.dct (encD kvs') :: (junk ++ [C.lst (f.map D.int)]))[st.length]? = some (.dct (encD kvs')) := get_mid _ _ _
          have i1 : inD true (.int w) (.loc st.length) (st ++ C.dct (encD kvs') :: (junk ++ [C.lst (f.map D.int)])) = .ok (.bl (!(dist kvs' w).isSome)) (st ++ C.dct (encD kvs') :: (junk ++ [C.lst (f.map D.int)])) := by
            simp only [inD, isDct, dlook, g1, dkey, ofOpt_some, encD_get, Option.isSome_map]
            cases (dist kvs' w).isSome <;> rfl
          simp only [mIfS, mTst, mBin, mV, R.ok_bind, List.getElem?_cons_succ, List.getElem?_cons_zero, i1, blOf, O.of_ok]
          cases hd : dist kvs' w with
          | some dw =>
            simp only [Option.isSome_some, Bool.not_true, Bool.false_eq_true, if_false, mNext, wp_nx]
            exact ⟨kvs', f, _, rfl, rfl, mid.skip hd hPe, hlen⟩
          | none =>
            simp only [Option.isSome_none, Bool.not_false, if_true]
            have hdv' : dist kvs' v = some m := (mid.lay v).mp hvl
            have i2 : ixD (.loc st.length) (.int v) (st ++ C.dct (encD kvs') :: (junk ++ [C.lst (f.map D.int)])) = .ok (.int m) (st ++ C.dct (encD kvs') :: (junk ++ [C.lst (f.map D.int)])) := by
              simp only [ixD, isDct, dlook, g1, dkey, ofOpt_some, encD_get, hdv', Option.map_some]
            have few : kvs'.length ≤ lim := by have := mid.few hin hu; unfold lim; omega
            have i3 : putD (.loc st.length) (.int w) (.int (m + 1)) (st ++ C.dct (encD kvs') :: (junk ++ [C.lst (f.map D.int)])) = some (st ++ C.dct (encD (kvs' ++ [(w, m + 1)])) :: (junk ++ [C.lst (f.map D.int)])) := by
              simp only [putD, g1, dkey]
              rw [if_pos (by unfold encD; rw [List.length_map]; exact few), encD_put hd, set_mid]
            have g2 : (st ++ C.dct (encD (kvs' ++ [(w, m + 1)])) :: (junk ++ [C.lst (f.map D.int)]))[st.length + 1 + junk.length]? = some (.lst (f.map D.int)) := by
              have := get_mid (st ++ C.dct (encD (kvs' ++ [(w, m + 1)])) :: junk) [] (.lst (f.map D.int))
              rw [show (st ++ C.dct (encD (kvs' ++ [(w, m + 1)])) :: junk).length = st.length + 1 + junk.length by simp; omega] at this
              rw [← this]
              simp
            have ff : f.length ≤ lim := by omega
            have i4 : appD (.loc (st.length + 1 + junk.length)) [.int w] (st ++ C.dct (encD (kvs' ++ [(w, m + 1)])) :: (junk ++ [C.lst (f.map D.int)])) = .ok .non (st ++ C.dct (encD (kvs' ++ [(w, m + 1)])) :: (junk ++ [C.lst ((f ++ [w]).map D.int)])) := by
              simp only [appD, lstOf_loc g2, ofOpt_some]
              rw [guardR_pos (by rw [List.length_map]; exact ff)]
              have := set_mid (st ++ C.dct (encD (kvs' ++ [(w, m + 1)])) :: junk) [] (.lst (f.map D.int)) (.lst (f.map D.int ++ [.int w]))
              rw [show (st ++ C.dct (encD (kvs' ++ [(w, m + 1)])) :: junk).length = st.length + 1 + junk.length by simp; omega] at this
              congr 1
              rw [show st ++ C.dct (encD (kvs' ++ [(w, m + 1)])) :: (junk ++ [C.lst (f.map D.int)]) = st ++ C.dct (encD (kvs' ++ [(w, m + 1)])) :: junk ++ [C.lst (f.map D.int)] by simp, this]
              simp
            simp only [mSeq, mPut, mBin, mV, mC, R.ok_bind, List.getElem?_cons_succ, List.getElem?_cons_zero, i2, addD_int, O.of_ok, i3, ofOptO_some, mExpr, mMeth, itemsL_loc g2, ofOpt_some, mCons, mNil, i4, wp_nx]
            refine ⟨kvs' ++ [(w, m + 1)], f ++ [w], _, rfl, rfl, mid.add hvl hwl hd hPe, ?_⟩
            rw [List.length_append, List.length_append, hlen]
            simp only [List.length_cons, List.length_nil]
            omega
        · rintro ρ st2 ⟨kvs2, f2, y6', rfl, rfl, mid2, hlen2⟩
          refine ⟨(h3 _).2.2, kvs2, f2, _, _, rfl, rfl, ?_, hlen2⟩
          refine ⟨mid2.nd, mid2.re, mid2.st, mid2.low, mid2.lay, mid2.fu, mid2.dn, fun k w p => mid2.cur k w ?_, mid2.m0⟩
          obtain ⟨p, q⟩ := p
          rw [List.take_add_one, hv] at p
          rcases List.mem_append.mp p with p | p
          · exact .inl ⟨p, q⟩
          · have : k = v := List.mem_singleton.mp p
            subst this
            refine .inr ⟨rfl, ?_⟩
            rw [show it2.items.length = (rowAt rows k).length by rw [e2, List.length_map], List.take_length]
            exact q
      · rintro ρ st2 ⟨kvs2, f2, y5, y6, rfl, rfl, mid2, hlen2⟩
        refine ⟨(h1 _ _).2.1, ?_⟩
        simp only [mSet, mV, List.getElem?_cons_succ, List.getElem?_cons_zero, O.of_ok, wp_nx, List.set]
        have hit : it.items.length = l.length := by rw [e1, List.length_map]
        have few := mid2.few hin hu
        have lp : 0 < l.length := List.length_pos_iff.mpr hne
        refine ⟨2 * (rows.length - kvs2.length) + (if f2 = [] then 0 else 1), ?_, kvs2, junk ++ [C.lst (f2.map D.int)], _, f2, m + 1, _, _, _, rfl, rfl, LastOk.loc, mid2.lay_next fun k hk w hw => ⟨by rw [hit, List.take_length]; exact hk, hw⟩, rfl⟩
        rw [if_neg hne]
        by_cases z : f2 = []
        · rw [if_pos z]
          subst z
          simp at hlen2
          omega
        · rw [if_neg z]
          have : 0 < f2.length := List.length_pos_iff.mpr z
          omega
  obtain ⟨d, st', e, kvs, junk, rfl, rfl, ds⟩ := post_ex key
  refine ⟨kvs, junk, ?_, ds⟩
  unfold M_steps_from
  rw [mDef_eq (k := 2) (ds := [pk, .int u]) rfl]
  show gc st (toR _) = _
  erw [e]
  unfold gc
  simp only
  rw [if_neg]
  intro z
  exact absurd (show st.length < st.length from z.1) (Nat.lt_irrefl _)
end Pl

set_option maxHeartbeats 4000000
/-! found_from, all_found -/
namespace Pl
open PySem PySem.Spec PyProof.Rows L2 Hn
open Classical in
/-- whom u finds, ascending -/
noncomputable def foundOf (rows : List (List Int)) (u : Int) : List Int := ((List.range rows.length).filter fun w => decide (Reach rows u (w : Nat))).map fun (w : Nat) => (w : Int)
noncomputable def findsOf (rows : List (List Int)) : List (List Int) := (List.range rows.length).map fun (u : Nat) => foundOf rows (u : Nat)
theorem foundOf_up {rows : List (List Int)} {u : Int} : (foundOf rows u).Pairwise (· < ·) := by
  unfold foundOf
  rw [List.pairwise_map]
  exact (List.Pairwise.filter _ List.pairwise_lt_range).imp fun h => by exact_mod_cast h
theorem foundOf_mem {rows : List (List Int)} (hin : InRange rows) {u : Int} (hu : 0 ≤ u ∧ u < (rows.length : Int)) (w : Int) : w ∈ foundOf rows u ↔ Reach rows u w := by
  unfold foundOf
  simp only [List.mem_map, List.mem_filter, List.mem_range, decide_eq_true_eq]
  constructor
  · rintro ⟨a, ⟨_, h⟩, rfl⟩
    exact h
  · intro h
    obtain ⟨h1, h2⟩ := h.range hin hu
    refine ⟨w.toNat, ⟨by omega, ?_⟩, by omega⟩
    rw [show ((w.toNat : Nat) : Int) = w by omega]
    exact h
@[simp] theorem findsOf_len {rows : List (List Int)} : (findsOf rows).length = rows.length := by unfold findsOf; rw [List.length_map, List.length_range]
theorem findsOf_at {rows : List (List Int)} {u : Int} (hu : 0 ≤ u ∧ u < (rows.length : Int)) : rowAt (findsOf rows) u = foundOf rows u := by
  unfold rowAt findsOf
  rw [List.getD_eq_getElem?_getD, List.getElem?_map, List.getElem?_range (by omega)]
  simp only [Option.map_some, Option.getD_some]
  rw [show ((u.toNat : Nat) : Int) = u by omega]
theorem foundOf_uniq {rows : List (List Int)} (hin : InRange rows) {u : Int} (hu : 0 ≤ u ∧ u < (rows.length : Int)) {ks : List Int} (nd : ks.Nodup) (h : ∀ k, k ∈ ks ↔ Reach rows u k) : sortZ ks = foundOf rows u := by
  refine (sortZ_uniq ?_ (foundOf_up.imp fun h => Int.le_of_lt h)).symm
  refine (List.perm_ext_iff_of_nodup (asc_nodup foundOf_up) nd).mpr fun w => ?_
  rw [foundOf_mem hin hu, h]
theorem keysI_enc : ∀ kvs : List (Int × Int), keysI ((encD kvs).map (·.1)) = some (kvs.map (·.1))
  | [] => rfl
  | p :: r => by
    have ih := keysI_enc r
    unfold encD at ih ⊢
    rw [List.map_cons, List.map_cons]
    unfold keysI
    rw [ih]
    rfl
theorem S_found {rows : List (List Int)} {pk : D} {u : Int} {st : Sto} (hp : Pk st pk rows) (hin : InRange rows) (hu : 0 ≤ u ∧ u < (rows.length : Int)) (hl : rows.length ≤ 60) : M_found_from [pk, .int u] st = .ok (rowD' (foundOf rows u)) st := by
  obtain ⟨kvs, junk, e, ds⟩ := S_steps hp hin hu (by omega)
  unfold M_found_from
  rw [mDef_eq (k := 2) (ds := [pk, .int u]) rfl]
  have few : kvs.length ≤ rows.length := by
    have z := few_below ds.nd fun k hk => ((ds.re k).mp hk).range hin hu
    rw [List.length_map] at z
    exact z
  have g := get_mid st junk (.dct (encD kvs))
  have e2 : sortedD [.loc st.length] (st ++ .dct (encD kvs) :: junk) = .ok (.lst ((foundOf rows u).map D.int)) (st ++ .dct (encD kvs) :: junk) := by
    simp only [sortedD, g, sortedKs, keysI_enc, ofOpt_some]
    rw [guardR_pos (by rw [List.length_map]; omega), foundOf_uniq hin hu ds.nd ds.re]
  simp only [List.map_cons, List.map_nil, List.cons_append, List.nil_append, mRet, mCall, mCons, mNil, mV, List.getElem?_cons_succ, List.getElem?_cons_zero, R.ok_bind, e, e2, tupleD_lst, O.of_ok, toR_rt]
  exact gc_app cl_row
theorem S_all {rows : List (List Int)} {pk : D} {st : Sto} (hp : Pk st pk rows) (hin : InRange rows) (hl : rows.length ≤ 60) : M_all_found [pk] st = .ok (webD (findsOf rows)) st := by
  unfold M_all_found
  rw [mDef_eq (k := 1) (ds := [pk]) rfl]
  have hlen := hp.len []
  rw [List.append_nil] at hlen
  have hmi : mItA rng1R (mCons (mCall lenD (mCons (mV 0) mNil)) mNil) [some pk, none] st = .ok ⟨rngD 0 rows.length, none⟩ st := by
    refine itA_ok (ds := [.int rows.length]) ?_ (rng_ok (by omega))
    simp only [mCons, mCall, mNil, mV, List.getElem?_cons_zero, R.ok_bind, hlen]
  have hc := mComp_pure (vs := [1]) (p := .nm 1) (t := mYes) (m := mCall M_found_from (mCons (mV 0) (mCons (mV 1) mNil))) (ρ := [some pk, none]) (fun _ => true) (fun d => match d with | .int u => rowD' (foundOf rows u) | d => d) hmi True.intro (lim_rng (by omega)) (fun d hd => by
    obtain ⟨i, hi⟩ := List.getElem?_of_mem hd
    obtain ⟨h1, rfl⟩ := rngD_at hi
    refine ⟨_, rfl, rfl, fun _ => ?_⟩
    simp only [wipeD, List.set, mCall, mCons, mNil, mV, List.getElem?_cons_succ, List.getElem?_cons_zero, R.ok_bind]
    exact S_found hp hin (by omega) hl)
  simp only [List.map_cons, List.map_nil, List.cons_append, List.nil_append, mRet, mCall, mCons, mNil, R.ok_bind, show List.replicate (2 - 1) (none : Option D) = [none] from rfl] at hc ⊢
  rw [hc]
  simp only [R.ok_bind, tupleD_lst, O.of_ok, toR_rt, gcs]
  congr 1
  unfold webD rowsL findsOf rngD
  rw [List.filter_eq_self.mpr (fun _ _ => rfl), List.map_map, List.map_map]
  congr 1
  refine List.map_congr_left fun k hk => ?_
  show rowD' (foundOf rows (0 + (k : Int))) = rowD' (foundOf rows (k : Int))
  rw [Int.zero_add]
end Pl

set_option maxHeartbeats 4000000
/-! is_web, check_web, check_webs of webs -/
namespace Pl
open PySem PySem.Spec PyProof.Rows L2 Hn
theorem S_integer {i : Int} {st : Sto} : M_is_integer [.int i] st = .ok (.bl true) st := by
  unfold M_is_integer
  rw [mDef_eq (k := 1) (ds := [.int i]) rfl]
  exact gcs
theorem S_between {i a b : Int} {st : Sto} : M_is_between [.int i, .int a, .int b] st = .ok (.bl (decide (a ≤ i) && decide (i ≤ b))) st := by
  unfold M_is_between
  refine def_rt rfl (ret_ok ?_)
  refine (andV_t ((call_ok (one_ok rfl)).trans (S_integer (i := i)))).trans ?_
  simp only [List.map_cons, List.map_nil, List.cons_append, mChain, mV, List.getElem?_cons_succ, List.getElem?_cons_zero, R.ok_bind, cmpI, blOf]
  by_cases h : a ≤ i
  · simp only [h, decide_true, if_true, Bool.true_and]
  · simp only [h, decide_false, Bool.false_eq_true, if_false, Bool.false_and]
theorem S_person {i n : Int} {st : Sto} : M_is_person [.int i, .int n] st = .ok (.bl (decide (0 ≤ i) && decide (i ≤ n - 1))) st := by
  unfold M_is_person
  rw [mDef_eq (k := 2) (ds := [.int i, .int n]) rfl]
  show gc st (toR (mRet (mCall _ _) [some (.int i), some (.int n)] st)) = _
  simp only [mRet, mCall, mCons, mV, mC, mNil, mBin, subD, List.getElem?_cons_succ, List.getElem?_cons_zero, R.ok_bind]
  rw [S_between]
  exact gcs
theorem rng_mem {n : Nat} {d : D} (h : d ∈ rngD 0 n) : ∃ i : Nat, i < n ∧ d = .int (i : Nat) := by
  obtain ⟨i, hi⟩ := List.getElem?_of_mem h
  obtain ⟨h1, h2⟩ := rngD_at hi
  exact ⟨i, h1, by rw [h2, Int.zero_add]⟩
theorem rowD_ix {r : List Int} {i : Nat} {st : Sto} (h : i < r.length) : ixD (rowD' r) (.int (i : Nat)) st = .ok (.int r[i]) st := by
  unfold rowD'
  rw [ixD_tup, atI_nat (j := i) (v := .int r[i]) (by rw [List.getElem?_map, List.getElem?_eq_getElem h]; rfl)]
  rfl
theorem rowD_len {r : List Int} {st : Sto} : lenD [rowD' r] st = .ok (.int r.length) st := by
  unfold rowD'
  rw [lenD_tup, List.length_map]
theorem S_ascending {r : List Int} {st : Sto} (h : r.Pairwise (· < ·)) (hl : r.length ≤ 1000) : M_is_ascending [rowD' r] st = .ok (.bl true) st := by
  unfold M_is_ascending
  rw [mDef_eq (k := 1) (ds := [rowD' r]) rfl]
  have hmi : mItA rng1R (mCons (mBin subD (mCall lenD (mCons (mV 0) mNil)) (mC (.int 1))) mNil) [some (rowD' r), none] st = .ok ⟨rngD 0 (r.length - 1), none⟩ st := by
    by_cases hz : r.length = 0
    · refine itA_ok (ds := [.int (-1)]) (st1 := st) ?_ ?_
      · simp only [mCons, mCall, mBin, mC, mNil, mV, List.getElem?_cons_zero, R.ok_bind, rowD_len, subD, hz]
        rfl
      · have e : rng1R [.int (-1)] st = guardR (-b62 ≤ (-1 : Int) ∧ (-1 : Int) < b62) (.ok ⟨rngD 0 (-1 : Int).toNat, none⟩ st) := rngR_one
        rw [e, guardR_pos (by decide), hz]
        rfl
    · refine itA_ok (ds := [.int ((r.length - 1 : Nat) : Int)]) ?_ (rng_ok (by omega))
      simp only [mCons, mCall, mBin, mC, mNil, mV, List.getElem?_cons_zero, R.ok_bind, rowD_len, subD]
      rw [show (r.length : Int) - 1 = ((r.length - 1 : Nat) : Int) by omega]
  have ha := all_comp (vs := [1]) (p := .nm 1) (m := mBin ltD (mBin ixD (mV 0) (mV 1)) (mBin ixD (mV 0) (mBin addD (mV 1) (mC (.int 1))))) (fun _ => true) hmi True.intro (lim_rng (by omega)) (fun d hd => by
    obtain ⟨i, h1, rfl⟩ := rng_mem hd
    refine ⟨_, rfl, ?_⟩
    have i1 : i < r.length := by omega
    have i2 : i + 1 < r.length := by omega
    simp only [wipeD, List.set, mBin, mV, mC, List.getElem?_cons_succ, List.getElem?_cons_zero, R.ok_bind, addD_int, rowD_ix i1]
    rw [show (i : Int) + 1 = ((i + 1 : Nat) : Int) by omega]
    simp only [rowD_ix i2, R.ok_bind, ltD_int]
    rw [decide_eq_true (List.pairwise_iff_getElem.mp h i (i + 1) i1 i2 (by omega))])
  show gc st (toR (mRet _ [some (rowD' r), none] st)) = _
  simp only [mRet]
  rw [ha]
  simp only [O.of_ok, toR_rt]
  rw [gcs, List.all_eq_true.mpr fun _ _ => rfl]
theorem S_pocket {r : List Int} {u n : Nat} {st : Sto} (h : r.Pairwise (· < ·)) (hl : r.length ≤ 1000) (hr : ∀ w ∈ r, 0 ≤ w ∧ w < (n : Int) ∧ w ≠ (u : Int)) : M_is_pocket [rowD' r, .int (u : Nat), .int (n : Nat)] st = .ok (.bl true) st := by
  unfold M_is_pocket
  rw [mDef_eq (k := 3) (ds := [rowD' r, .int (u : Nat), .int (n : Nat)]) rfl]
  have hmi : mIt (mV 0) [some (rowD' r), some (.int (u : Nat)), some (.int (n : Nat)), none] st = .ok ⟨r.map D.int, none⟩ st := itm_row rfl
  have ha := all_comp (vs := [3]) (p := .nm 3) (m := mAndV (mCall M_is_person (mCons (mV 3) (mCons (mV 2) mNil))) (mBin neD (mV 3) (mV 1))) (fun _ => true) hmi True.intro (by show (r.map D.int).length ≤ lim; rw [List.length_map]; exact lim_of (by omega)) (fun d hd => by
    obtain ⟨w, hw, rfl⟩ := List.mem_map.mp hd
    refine ⟨_, rfl, ?_⟩
    obtain ⟨h1, h2, h3⟩ := hr w hw
    simp only [wipeD, List.set, mAndV, mCall, mCons, mNil, mBin, mV, mC, List.getElem?_cons_succ, List.getElem?_cons_zero, R.ok_bind, S_person]
    rw [decide_eq_true h1, decide_eq_true (show w ≤ (n : Int) - 1 by omega)]
    simp only [Bool.and_self, blOf, R.ok_bind, if_true, neD_int]
    rw [decide_eq_false h3]
    rfl)
  rw [← mDef_eq (k := 3) (n := 4) (ds := [rowD' r, .int (u : Nat), .int (n : Nat)]) rfl]
  refine def_rt rfl ?_
  refine (seq_nx (ifS_f (not_ok (b := true) (tru_bl rfl)))).trans (ret_ok ?_)
  refine (andV_t (ha.trans (by rw [List.all_eq_true.mpr fun _ _ => rfl]))).trans ?_
  exact (call_ok (one_ok rfl)).trans (S_ascending h hl)
theorem webD_len {rows : List (List Int)} {st : Sto} : lenD [webD rows] st = .ok (.int rows.length) st := by
  unfold webD
  rw [lenD_tup, rowsL_len]
theorem S_is_web {rows : List (List Int)} {st : Sto} (h : IsWeb rows) : M_is_web [webD rows] st = .ok (.bl true) st := by
  unfold M_is_web
  rw [mDef_eq (k := 1) (ds := [webD rows]) rfl]
  have hmi : mItA rng1R (mCons (mCall lenD (mCons (mV 0) mNil)) mNil) [some (webD rows), none] st = .ok ⟨rngD 0 rows.length, none⟩ st := by
    refine itA_ok (ds := [.int rows.length]) ?_ (rng_ok (by have := h.few; omega))
    simp only [mCons, mCall, mNil, mV, List.getElem?_cons_zero, R.ok_bind, webD_len]
  have ha := all_comp (vs := [1]) (p := .nm 1) (m := mCall M_is_pocket (mCons (mBin ixD (mV 0) (mV 1)) (mCons (mV 1) (mCons (mCall lenD (mCons (mV 0) mNil)) mNil)))) (fun _ => true) hmi True.intro (lim_rng (by have := h.few; omega)) (fun d hd => by
    obtain ⟨i, h1, rfl⟩ := rng_mem hd
    refine ⟨_, rfl, ?_⟩
    simp only [wipeD, List.set, mCall, mCons, mNil, mBin, mV, mC, List.getElem?_cons_succ, List.getElem?_cons_zero, R.ok_bind, webD_ix (rows := rows) (v := (i : Nat)) (by omega) (by omega), webD_len]
    exact S_pocket (h.up i h1) (by have := h.row h1; omega) (h.rng i h1))
  rw [← mDef_eq (k := 1) (n := 2) (ds := [webD rows]) rfl]
  refine def_rt rfl ?_
  have h1 := h.pos
  have h2 := h.few
  have e2 : (mTst (mChain (cmpI fun i j => decide (i ≤ j)) (cmpI fun i j => decide (i ≤ j)) (mC (.int 1)) (mCall lenD (mCons (mV 0) mNil)) (mC (.int 9)))) [some (webD rows), none] st = .ok true st :=
    tst_ok ((chain_t (x := .int 1) (y := .int rows.length) (z := .int 9) rfl ((call_ok (one_ok rfl)).trans webD_len) (by show R.ok (D.bl (decide ((1 : Int) ≤ rows.length))) st = _; rw [decide_eq_true (show (1 : Int) ≤ rows.length by omega)]) rfl).trans (by
      show R.ok (D.bl (decide ((rows.length : Int) ≤ 9))) st = _
      rw [decide_eq_true (show (rows.length : Int) ≤ 9 by omega)]))
  refine (seq_nx (ifS_f ((or_f (not_ok (b := true) (tru_bl rfl))).trans (not_ok (b := true) e2)))).trans (ret_ok ?_)
  exact ha.trans (by rw [List.all_eq_true.mpr fun _ _ => rfl])
theorem S_check_web {rows : List (List Int)} {st : Sto} (h : IsWeb rows) : M_check_web [webD rows] st = .ok .non st :=
  def_nx rfl (ifS_f (not_ok (b := true) (tru_bl ((call_ok (one_ok rfl)).trans (S_is_web h)))))
theorem S_check_webs {rows ws : List (List Int)} {st : Sto} (h : IsWeb rows) (k : IsWeb ws) (e : ws.length = rows.length) : M_check_webs [webD rows, webD ws] st = .ok .non st := by
  refine def_nx rfl ((seq_nx (expr_ok ((call_ok (one_ok rfl)).trans (S_check_web h)))).trans (ifS_f ((or_f (not_ok (b := true) (tru_bl ((call_ok (one_ok rfl)).trans (S_is_web k))))).trans (tst_ok ?_))))
  refine (bin_ok ((call_ok (one_ok rfl)).trans webD_len) ((call_ok (one_ok rfl)).trans webD_len)).trans ?_
  rw [neD_int, e]
  simp
end Pl

set_option maxHeartbeats 4000000
/-! _law_pairs, _law_web, _law_cards, _law_drawn_web -/
namespace Pl
open PySem PySem.Spec PyProof.Rows L2 Hn
def pairRow (u n : Nat) : List (List Int) := ((List.range n).filter fun (w : Nat) => decide ((w : Int) ≠ (u : Int))).map fun (w : Nat) => [(u : Int), (w : Int)]
def pairsOf (n : Nat) : List (List Int) := (List.range n).flatMap fun u => pairRow u n
theorem pairRow_len {u n : Nat} : (pairRow u n).length ≤ n := by
  unfold pairRow
  rw [List.length_map]
  exact Nat.le_trans (List.length_filter_le _ _) (by rw [List.length_range]; exact Nat.le_refl _)
theorem flat_len {α β : Type} (f : α → List β) (k : Nat) : ∀ l : List α, (∀ x ∈ l, (f x).length ≤ k) → (l.flatMap f).length ≤ k * l.length
  | [], _ => Nat.zero_le _
  | x :: l, h => by
    have h1 := h x List.mem_cons_self
    have h2 := flat_len f k l fun y hy => h y (List.mem_cons_of_mem _ hy)
    rw [List.flatMap_cons, List.length_append, List.length_cons, Nat.mul_succ]
    omega
theorem pairsOf_len {n : Nat} (h : n ≤ 9) : (pairsOf n).length ≤ 81 := by
  have := flat_len (fun u => pairRow u n) n (List.range n) fun u _ => pairRow_len
  rw [List.length_range] at this
  have h2 : n * n ≤ 9 * 9 := Nat.mul_le_mul h h
  unfold pairsOf
  omega
theorem pairsOf_mem {n : Nat} {x : List Int} : x ∈ pairsOf n ↔ ∃ u w : Nat, u < n ∧ w < n ∧ w ≠ u ∧ x = [(u : Int), (w : Int)] := by
  unfold pairsOf pairRow
  simp only [List.mem_flatMap, List.mem_map, List.mem_filter, List.mem_range, decide_eq_true_eq]
  constructor
  · rintro ⟨u, hu, w, ⟨hw, ne⟩, rfl⟩
    exact ⟨u, w, hu, hw, by omega, rfl⟩
  · rintro ⟨u, w, hu, hw, ne, rfl⟩
    exact ⟨u, hu, w, ⟨hw, by omega⟩, rfl⟩
theorem comp_rng {ms : Env → Sto → R (List D)} {vs : List Nat} {p : Pat} {t : Env → Sto → R Bool} {m : Env → Sto → R D} {ρ : Env} {st st1 : Sto} (n : Nat) (c : Nat → Bool) (f : Nat → D) {N : Int} (hN : (n : Int) = N) (e : ms ρ st = .ok [.int N] st1) (hn : n ≤ 1000000)
    (h : ∀ i : Nat, i < n → ∃ ρ1, p.set (.int (i : Int)) (wipeD ρ vs) = some ρ1 ∧ t ρ1 st1 = .ok (c i) st1 ∧ (c i = true → m ρ1 st1 = .ok (f i) st1)) : mComp (mItA rng1R ms) vs p t m ρ st = .ok (.lst (((List.range n).filter c).map f)) st1 := by
  subst hN
  have hm : mItA rng1R ms ρ st = .ok ⟨rngD 0 n, none⟩ st1 := itA_ok e (rng_ok hn)
  rw [mComp_pure (fun d => match d with | .int i => c i.toNat | _ => false) (fun d => match d with | .int i => f i.toNat | d => d) hm True.intro (lim_rng hn) (fun d hd => by
    obtain ⟨i, hi, rfl⟩ := rng_mem hd
    simp only [Int.toNat_natCast]
    exact h i hi)]
  congr 2
  show ((rngD 0 n).filter _).map _ = _
  unfold rngD
  rw [List.filter_map, List.map_map]
  congr 1
  · funext i
    show f (0 + (i : Int)).toNat = f i
    rw [Int.zero_add, Int.toNat_natCast]
  · refine List.filter_congr fun i _ => ?_
    show c (0 + (i : Int)).toNat = c i
    rw [Int.zero_add, Int.toNat_natCast]
theorem wp_rngN {ms : Env → Sto → R (List D)} {p : Pat} {b : Env → Sto → O} {K : Kt} {ρ : Env} {st st1 : Sto} (n : Nat) {N : Int} (hN : (n : Int) = N) (e : ms ρ st = .ok [.int N] st1) (hn : n ≤ 1000000) (Inv : Nat → Env → Sto → Prop) (h0 : Inv 0 ρ st1)
    (step : ∀ (i : Nat) (I : Int) (ρ : Env) (st : Sto), (i : Int) = I → i < n → Inv i ρ st → ∃ ρ1, p.set (.int I) ρ = some ρ1 ∧ (b ρ1 st).wp { nx := Inv (i + 1), rt := K.rt, bk := K.nx, ct := Inv (i + 1), er := K.er })
    (fin : ∀ ρ st, Inv n ρ st → K.nx ρ st) : (mFor (mItA rng1R ms) p b ρ st).wp K := by
  subst hN
  exact wp_rng n e hn Inv h0 (fun i ρ st h1 h2 => step i _ ρ st rfl h1 h2) fin
theorem ext_ok {n : Nat} {xs ys : List D} {st x : Sto} {d : D} (h : st.length = n) (e : itemsL (st ++ .lst xs :: x) d = some ys) (hl : xs.length + ys.length ≤ 1000000) : extD (.loc n) [d] (st ++ .lst xs :: x) = .ok .non (st ++ .lst (xs ++ ys) :: x) := by
  subst h
  unfold extD
  simp only [lstOf_loc (get_mid st x (.lst xs)), ofOpt_some, e]
  rw [guardR_pos (lim_of hl), set_mid]
theorem S_pairs {n : Nat} {N : Int} {st : Sto} (hN : (n : Int) = N) (hn : n ≤ 9) : M__law_pairs [.int N] st = .ok (.loc st.length) (st ++ [.lst ((pairsOf n).map rowD')]) := by
  unfold M__law_pairs
  rw [mDef_eq (k := 1) (ds := [.int N]) rfl]
  rw [show (List.map some [D.int N] ++ List.replicate (4 - 1) none : Env) = [some (.int N), none, none, none] from rfl]
  rw [seq_nx (set_ok (d := .loc st.length) (st1 := st ++ [.lst []]) (by
    simp only [mLstM, mNil, R.ok_bind]
    rw [guardR_pos (lim_of (by decide))]))]
  simp only [List.set]
  have key : (mFor (mItA rng1R (mCons (mV 0) mNil)) (.nm 2) (mExpr (mMeth extD (mV 1) (mCons (mComp (mItA rng1R (mCons (mV 0) mNil)) [3] (.nm 3) (mTst (mBin neD (mV 3) (mV 2))) (mTup (mCons (mV 2) (mCons (mV 3) mNil)))) mNil))) [some (.int N), some (.loc st.length), none, none] (st ++ [.lst []])).wp { nx := fun ρ st' => (∃ x2 x3, ρ = [some (.int N), some (.loc st.length), x2, x3]) ∧ st' = st ++ [.lst ((pairsOf n).map rowD')] } := by
    refine wp_rngN (st1 := st ++ [.lst []]) n hN rfl (by omega) (fun i ρ st' => (∃ x2 x3, ρ = [some (.int N), some (.loc st.length), x2, x3]) ∧ st' = st ++ [.lst (((List.range i).flatMap fun u => pairRow u n).map rowD')]) ⟨⟨_, _, rfl⟩, rfl⟩ ?_ (fun ρ st' h => h)
    rintro i I ρ st' hI hi ⟨⟨x2, x3, rfl⟩, rfl⟩
    refine ⟨_, rfl, ?_⟩
    simp only [List.set]
    have c1 := comp_rng (vs := [3]) (p := .nm 3) (t := mTst (mBin neD (mV 3) (mV 2))) (m := mTup (mCons (mV 2) (mCons (mV 3) mNil))) (ρ := [some (.int N), some (.loc st.length), some (.int I), x3]) (st := st ++ [.lst (((List.range i).flatMap fun u => pairRow u n).map rowD')]) (ms := mCons (mV 0) mNil) (st1 := st ++ [.lst (((List.range i).flatMap fun u => pairRow u n).map rowD')])
      n (fun w => decide ((w : Int) ≠ I)) (fun w => rowD' [I, (w : Int)]) hN rfl (by omega) (fun w hw => ⟨_, rfl, by
        refine (tst_ok ((bin_ok rfl rfl).trans neD_int)).trans ?_
        congr 1
        by_cases e : (w : Int) = I <;> simp [e], fun _ => tup2 rfl⟩)
    have hlen : ((List.range i).flatMap fun u => pairRow u n).length ≤ 81 := by
      have := flat_len (fun u => pairRow u n) n (List.range i) fun u _ => pairRow_len
      rw [List.length_range] at this
      have h2 : n * i ≤ 9 * 9 := Nat.mul_le_mul hn (by omega)
      omega
    have e1 : mMeth extD (mV 1) (mCons (mComp (mItA rng1R (mCons (mV 0) mNil)) [3] (.nm 3) (mTst (mBin neD (mV 3) (mV 2))) (mTup (mCons (mV 2) (mCons (mV 3) mNil)))) mNil) [some (.int N), some (.loc st.length), some (.int I), x3] (st ++ [.lst (((List.range i).flatMap fun u => pairRow u n).map rowD')])
        = .ok .non (st ++ [.lst (((List.range (i + 1)).flatMap fun u => pairRow u n).map rowD')]) := by
      unfold mMeth
      rw [show mV 1 [some (.int N), some (.loc st.length), some (.int I), x3] (st ++ [C.lst (((List.range i).flatMap fun u => pairRow u n).map rowD')]) = .ok (.loc st.length) _ from rfl]
      simp only [R.ok_bind, itemsL_loc (get_mid st [] _), ofOpt_some]
      rw [one_ok c1]
      simp only [R.ok_bind]
      rw [ext_ok rfl itemsL_lst (by
        subst hI
        rw [List.length_map, List.length_map]
        have := pairRow_len (u := i) (n := n)
        unfold pairRow at this
        rw [List.length_map] at this
        omega)]
      rw [List.range_succ, List.flatMap_append, List.map_append]
      subst hI
      congr 5
      simp [pairRow, List.map_map]
    rw [expr_ok e1]
    simp only [wp_nx]
    exact ⟨⟨_, _, rfl⟩, trivial⟩
  obtain ⟨ρ', st', e, ⟨x2, x3, rfl⟩, rfl⟩ := wp_ex key
  rw [seq_nx e, ret_ok (m := mV 1) (d := .loc st.length) rfl]
  simp only [toR_rt]
  unfold gc
  simp only
  rw [if_neg]
  intro z
  exact absurd (show st.length < st.length from z.1) (Nat.lt_irrefl _)
/-- the web of the cards of L -/
def lwebOf (L : List (List Int)) (n : Nat) : List (List Int) := (List.range n).map fun (u : Nat) => ((List.range n).filter fun (w : Nat) => decide ([(u : Int), (w : Int)] ∈ L)).map fun (w : Nat) => (w : Int)
@[simp] theorem lwebOf_len {L : List (List Int)} {n : Nat} : (lwebOf L n).length = n := by unfold lwebOf; rw [List.length_map, List.length_range]
theorem lwebOf_mem {L : List (List Int)} {n u : Nat} (hu : u < n) (w : Int) : w ∈ rowAt (lwebOf L n) (u : Nat) ↔ (0 ≤ w ∧ w < (n : Int)) ∧ [(u : Int), w] ∈ L := by
  unfold rowAt lwebOf
  rw [Int.toNat_natCast, List.getD_eq_getElem?_getD, List.getElem?_map, List.getElem?_range hu]
  simp only [Option.map_some, Option.getD_some, List.mem_map, List.mem_filter, List.mem_range, decide_eq_true_eq]
  constructor
  · rintro ⟨a, ⟨h1, h2⟩, rfl⟩
    exact ⟨by omega, h2⟩
  · rintro ⟨h1, h2⟩
    exact ⟨w.toNat, ⟨by omega, by rw [show ((w.toNat : Nat) : Int) = w by omega]; exact h2⟩, by omega⟩
theorem lwebOf_web {L : List (List Int)} {n : Nat} (h1 : 1 ≤ n) (h9 : n ≤ 9) (h : ∀ u : Nat, u < n → [(u : Int), (u : Int)] ∉ L) : IsWeb (lwebOf L n) := by
  refine ⟨by rw [lwebOf_len]; exact h1, by rw [lwebOf_len]; exact h9, fun u hu => ?_, fun u hu w hw => ?_⟩
  · rw [lwebOf_len] at hu
    unfold rowAt lwebOf
    rw [Int.toNat_natCast, List.getD_eq_getElem?_getD, List.getElem?_map, List.getElem?_range hu]
    simp only [Option.map_some, Option.getD_some]
    rw [List.pairwise_map]
    exact (List.Pairwise.filter _ List.pairwise_lt_range).imp fun h => by exact_mod_cast h
  · rw [lwebOf_len] at hu ⊢
    obtain ⟨h2, h3⟩ := (lwebOf_mem hu w).mp hw
    exact ⟨h2.1, h2.2, fun e => h u hu (by rw [e] at h3; exact h3)⟩
theorem S_lweb {L : List (List Int)} {n : Nat} {N : Int} {cd : D} {st : Sto} (hN : (n : Int) = N) (hn : n ≤ 9) (hc : ∀ u w : Int, inD false (rowD' [u, w]) cd st = .ok (.bl (decide ([u, w] ∈ L))) st) : M__law_web [cd, .int N] st = .ok (webD (lwebOf L n)) st := by
  unfold M__law_web
  refine def_rt rfl (ret_ok ?_)
  have c1 : mComp (mItA rng1R (mCons (mV 1) mNil)) [3] (.nm 3) mYes (mCall tupleD (mCons (mComp (mItA rng1R (mCons (mV 1) mNil)) [2] (.nm 2) (mTst (mBin (inD false) (mTup (mCons (mV 3) (mCons (mV 2) mNil))) (mV 0))) (mV 2)) mNil)) (List.map some [cd, D.int N] ++ List.replicate (4 - 2) none) st
      = .ok (.lst (((List.range n).filter fun _ => true).map fun (u : Nat) => rowD' (((List.range n).filter fun (w : Nat) => decide ([(u : Int), (w : Int)] ∈ L)).map fun (w : Nat) => (w : Int)))) st := by
    refine comp_rng n (fun _ => true) (fun (u : Nat) => rowD' (((List.range n).filter fun (w : Nat) => decide ([(u : Int), (w : Int)] ∈ L)).map fun (w : Nat) => (w : Int))) hN rfl (by omega) fun u hu => ⟨_, rfl, rfl, fun _ => ?_⟩
    refine (call_ok (one_ok (comp_rng (st1 := st) n (fun w => decide ([(u : Int), (w : Int)] ∈ L)) (fun w => .int (w : Int)) hN rfl (by omega) fun w hw => ⟨_, rfl, tst_ok ((bin_ok (tup2 rfl) rfl).trans (hc _ _)), fun _ => rfl⟩))).trans ?_
    rw [tupleD_lst]
    unfold rowD'
    rw [List.map_map]
    rfl
  refine (call_ok (one_ok c1)).trans ?_
  rw [tupleD_lst, List.filter_eq_self.mpr fun _ _ => rfl]
  unfold webD rowsL lwebOf
  rw [List.map_map]
  rfl
def cardRow (rows : List (List Int)) (u : Nat) : List (List Int) := (rowAt rows (u : Nat)).map fun w => [(u : Int), w]
def cardsOf (rows : List (List Int)) : List (List Int) := (List.range rows.length).flatMap fun u => cardRow rows u
theorem cardsOf_mem {rows : List (List Int)} {x : List Int} : x ∈ cardsOf rows ↔ ∃ (u : Nat) (w : Int), u < rows.length ∧ w ∈ rowAt rows (u : Nat) ∧ x = [(u : Int), w] := by
  unfold cardsOf cardRow
  simp only [List.mem_flatMap, List.mem_map, List.mem_range]
  constructor
  · rintro ⟨u, hu, w, hw, rfl⟩
    exact ⟨u, w, hu, hw, rfl⟩
  · rintro ⟨u, w, hu, hw, rfl⟩
    exact ⟨u, hu, w, hw, rfl⟩
theorem cardsOf_len {rows : List (List Int)} (h : IsWeb rows) : (cardsOf rows).length ≤ 81 := by
  have := flat_len (fun u => cardRow rows u) 9 (List.range rows.length) fun u hu => by
    unfold cardRow
    rw [List.length_map]
    exact h.row (List.mem_range.mp hu)
  rw [List.length_range] at this
  have := h.few
  unfold cardsOf
  omega
theorem S_cards {rows : List (List Int)} {st : Sto} (h : IsWeb rows) : M__law_cards [webD rows] st = .ok (.loc st.length) (st ++ [.lst ((cardsOf rows).map rowD')]) := by
  have h9 := h.few
  obtain ⟨n, hn⟩ : ∃ n : Nat, rows.length = n := ⟨_, rfl⟩
  obtain ⟨N, hN⟩ : ∃ N : Int, (n : Int) = N := ⟨_, rfl⟩
  have hlenN : ∀ st, lenD [webD rows] st = .ok (.int N) st := fun st => by rw [← hN, ← hn]; exact webD_len
  have he : mCons (mCall lenD (mCons (mV 0) mNil)) mNil [some (webD rows), some (.loc st.length), none, none] (st ++ [.lst []]) = .ok [.int N] (st ++ [.lst []]) := one_ok ((call_ok (one_ok rfl)).trans (hlenN _))
  unfold M__law_cards
  rw [mDef_eq (k := 1) (ds := [webD rows]) rfl]
  rw [show (List.map some [webD rows] ++ List.replicate (4 - 1) none : Env) = [some (webD rows), none, none, none] from rfl]
  rw [seq_nx (set_ok (d := .loc st.length) (st1 := st ++ [.lst []]) (by
    simp only [mLstM, mNil, R.ok_bind]
    rw [guardR_pos (lim_of (by decide))]))]
  simp only [List.set]
  have key : (mFor (mItA rng1R (mCons (mCall lenD (mCons (mV 0) mNil)) mNil)) (.nm 2) (mExpr (mMeth extD (mV 1) (mCons (mComp (mIt (mBin ixD (mV 0) (mV 2))) [3] (.nm 3) mYes (mTup (mCons (mV 2) (mCons (mV 3) mNil)))) mNil))) [some (webD rows), some (.loc st.length), none, none] (st ++ [.lst []])).wp { nx := fun ρ st' => (∃ x2 x3, ρ = [some (webD rows), some (.loc st.length), x2, x3]) ∧ st' = st ++ [.lst (((List.range n).flatMap fun u => cardRow rows u).map rowD')] } := by
    refine wp_rngN (st1 := st ++ [.lst []]) n hN he (by omega) (fun i ρ st' => (∃ x2 x3, ρ = [some (webD rows), some (.loc st.length), x2, x3]) ∧ st' = st ++ [.lst (((List.range i).flatMap fun u => cardRow rows u).map rowD')]) ⟨⟨_, _, rfl⟩, rfl⟩ ?_ (fun ρ st' h => h)
    rintro i I ρ st' hI hi ⟨⟨x2, x3, rfl⟩, rfl⟩
    refine ⟨_, rfl, ?_⟩
    simp only [List.set]
    have hr := h.row (u := i) (by omega)
    have c1 : mComp (mIt (mBin ixD (mV 0) (mV 2))) [3] (.nm 3) mYes (mTup (mCons (mV 2) (mCons (mV 3) mNil))) [some (webD rows), some (.loc st.length), some (.int I), x3] (st ++ [.lst (((List.range i).flatMap fun u => cardRow rows u).map rowD')]) = .ok (.lst ((cardRow rows i).map rowD')) (st ++ [.lst (((List.range i).flatMap fun u => cardRow rows u).map rowD')]) := by
      rw [comp_map (fun d => match d with | .int w => rowD' [I, w] | d => d) (itm_row ((bin_ok rfl rfl).trans (webD_ix (v := I) (by omega) (by omega) _))) True.intro (by subst hI; show ((rowAt rows (i : Nat)).map D.int).length ≤ lim; rw [List.length_map]; exact lim_of (by omega)) (fun d hd => by
        obtain ⟨w, hw, rfl⟩ := List.mem_map.mp hd
        exact ⟨_, rfl, tup2 rfl⟩)]
      subst hI
      show R.ok (D.lst (((rowAt rows (i : Nat)).map D.int).map _)) _ = _
      unfold cardRow
      rw [List.map_map, List.map_map]
      rfl
    have hlen : ((List.range i).flatMap fun u => cardRow rows u).length ≤ 81 := by
      have := flat_len (fun u => cardRow rows u) 9 (List.range i) fun u hu => by
        unfold cardRow
        rw [List.length_map]
        exact h.row (by have := List.mem_range.mp hu; omega)
      rw [List.length_range] at this
      omega
    have e1 : mMeth extD (mV 1) (mCons (mComp (mIt (mBin ixD (mV 0) (mV 2))) [3] (.nm 3) mYes (mTup (mCons (mV 2) (mCons (mV 3) mNil)))) mNil) [some (webD rows), some (.loc st.length), some (.int I), x3] (st ++ [.lst (((List.range i).flatMap fun u => cardRow rows u).map rowD')])
        = .ok .non (st ++ [.lst (((List.range (i + 1)).flatMap fun u => cardRow rows u).map rowD')]) := by
      unfold mMeth
      rw [show mV 1 [some (webD rows), some (.loc st.length), some (.int I), x3] (st ++ [C.lst (((List.range i).flatMap fun u => cardRow rows u).map rowD')]) = .ok (.loc st.length) _ from rfl]
      simp only [R.ok_bind, itemsL_loc (get_mid st [] _), ofOpt_some]
      rw [one_ok c1]
      simp only [R.ok_bind]
      rw [ext_ok rfl itemsL_lst (by
        rw [List.length_map, List.length_map]
        unfold cardRow at *
        rw [List.length_map]
        omega)]
      rw [List.range_succ, List.flatMap_append, List.map_append]
      congr 5
      simp
    rw [expr_ok e1]
    simp only [wp_nx]
    exact ⟨⟨_, _, rfl⟩, trivial⟩
  have hcd : cardsOf rows = (List.range n).flatMap fun u => cardRow rows u := by rw [← hn]; rfl
  rw [hcd]
  clear hcd
  obtain ⟨ρ', st', e, ⟨x2, x3, rfl⟩, rfl⟩ := wp_ex key
  rw [seq_nx e, ret_ok (m := mV 1) (d := .loc st.length) rfl]
  simp only [toR_rt]
  unfold gc
  simp only
  rw [if_neg]
  intro z
  exact absurd (show st.length < st.length from z.1) (Nat.lt_irrefl _)
end Pl

set_option maxHeartbeats 4000000
/-! finding by going on, turn by turn -/
namespace Hn
open PySem PySem.Spec PyProof.Rows L2 EF
open PySem.W (Frag keepIn)
def Closed (rows : List (List Int)) (ks : List Int) : Prop := ∀ k ∈ ks, ∀ w ∈ rowAt rows k, w ∈ ks
/-- what is known of u's row behind t turns -/
structure Gr (rows : List (List Int)) (u : Int) (t : Nat) (ks : List Int) : Prop where
  nd : ks.Nodup
  me : u ∈ ks
  re : ∀ k ∈ ks, Reach rows u k
  gr : Closed rows ks ∨ t + 1 ≤ ks.length
/-- within a turn: S was there ahead of it; the cards that Pe tells have been followed -/
structure Gm (rows : List (List Int)) (u : Int) (S : List Int) (Pe : Int → Int → Prop) (ks : List Int) : Prop where
  nd : ks.Nodup
  sub : ∀ k ∈ S, k ∈ ks
  re : ∀ k ∈ ks, Reach rows u k
  ed : ∀ k w, Pe k w → w ∈ ks
  cl : Closed rows S → ks = S
section
variable {rows : List (List Int)} {u : Int} {S ks : List Int} {t : Nat} {Pe Pe' : Int → Int → Prop}
theorem Gr.start : Gr rows u 0 [u] := ⟨List.nodup_cons.mpr ⟨List.not_mem_nil, List.nodup_nil⟩, List.mem_singleton.mpr rfl, fun k h => by rw [List.mem_singleton.mp h]; exact .refl, .inr (Nat.le_refl _)⟩
theorem Gr.mid (g : Gr rows u t S) : Gm rows u S (fun _ _ => False) S := ⟨g.nd, fun _ h => h, g.re, fun _ _ h => h.elim, fun _ => rfl⟩
theorem Gm.skip (g : Gm rows u S Pe ks) {w : Int} (h : w ∈ ks) (hp : ∀ k x, Pe' k x → Pe k x ∨ x = w) : Gm rows u S Pe' ks :=
  ⟨g.nd, g.sub, g.re, fun k x p => by
    rcases hp k x p with z | z
    · exact g.ed k x z
    · rw [z]
      exact h, g.cl⟩
theorem Gm.add (g : Gm rows u S Pe ks) {v w : Int} (hv : v ∈ S) (hw : w ∈ rowAt rows v) (n : w ∉ ks) (hp : ∀ k x, Pe' k x → Pe k x ∨ x = w) : Gm rows u S Pe' (ks ++ [w]) := by
  refine ⟨List.nodup_append.mpr ⟨g.nd, List.nodup_cons.mpr ⟨List.not_mem_nil, List.nodup_nil⟩, fun x hx y hy e => ?_⟩, fun k h => List.mem_append_left _ (g.sub k h), fun k h => ?_, fun k x p => ?_, fun c => ?_⟩
  · rw [List.mem_singleton.mp hy] at e
    exact n (e ▸ hx)
  · rcases List.mem_append.mp h with z | z
    · exact g.re k z
    · rw [List.mem_singleton.mp z]
      exact .step (g.re v (g.sub v hv)) hw
  · rcases hp k x p with z | z
    · exact List.mem_append_left _ (g.ed k x z)
    · rw [z]
      exact List.mem_append_right _ (List.mem_singleton.mpr rfl)
  · exact absurd (g.sub w (c v hv w hw)) n
theorem Gm.done (g : Gm rows u S Pe ks) (h : Gr rows u t S) (hp : ∀ k ∈ S, ∀ w ∈ rowAt rows k, Pe k w) : Gr rows u (t + 1) ks := by
  refine ⟨g.nd, g.sub u h.me, g.re, ?_⟩
  by_cases c : Closed rows S
  · rw [g.cl c]
    exact .inl c
  · right
    have z : ∃ k ∈ S, ∃ w ∈ rowAt rows k, w ∉ S := Classical.byContradiction fun n => c fun k hk w hw => Classical.byContradiction fun m => n ⟨k, hk, w, hw, m⟩
    obtain ⟨k, hk, w, hw, m⟩ := z
    have l1 : t + 1 ≤ S.length := by
      rcases h.gr with y | y
      · exact absurd y c
      · exact y
    have nd2 : (w :: S).Nodup := List.nodup_cons.mpr ⟨m, h.nd⟩
    have sub2 : (w :: S) ⊆ ks := fun x hx => by
      rcases List.mem_cons.mp hx with y | y
      · rw [y]
        exact g.ed k w (hp k hk w hw)
      · exact g.sub x y
    have l2 := List.Nodup.length_le_of_subset nd2 sub2
    rw [List.length_cons] at l2
    omega
theorem Gr.few (g : Gr rows u t ks) (h : InRange rows) (hu : 0 ≤ u ∧ u < (rows.length : Int)) : ks.length ≤ rows.length := few_below g.nd fun k hk => (g.re k hk).range h hu
theorem Gm.few (g : Gm rows u S Pe ks) (h : InRange rows) (hu : 0 ≤ u ∧ u < (rows.length : Int)) : ks.length ≤ rows.length := few_below g.nd fun k hk => (g.re k hk).range h hu
theorem Gr.all (g : Gr rows u rows.length ks) (h : InRange rows) (hu : 0 ≤ u ∧ u < (rows.length : Int)) (k : Int) : k ∈ ks ↔ Reach rows u k := by
  have c : Closed rows ks := by
    rcases g.gr with y | y
    · exact y
    · have := g.few h hu
      omega
  refine ⟨g.re k, fun r => ?_⟩
  induction r with
  | refl => exact g.me
  | step _ hw ih => exact c _ ih _ hw
end
/-- a dict of these keys, each True -/
def encS (ks : List Int) : List (Key × V) := ks.map fun k => (Sum.inl k, V.bl true)
theorem encS_val (k : Int) : ∀ ks : List Int, valV (encS ks) (Sum.inl k) = if k ∈ ks then some (V.bl true) else none
  | [] => (if_neg List.not_mem_nil).symm
  | x :: ks => by
    have ih := encS_val k ks
    by_cases e : x = k
    · rw [if_pos (by rw [e]; exact List.mem_cons_self)]
      exact valV_pos (p := ((Sum.inl x : Key), V.bl true)) (by rw [e])
    · have e2 : valV (encS (x :: ks)) (Sum.inl k) = valV (encS ks) (Sum.inl k) := valV_neg (p := ((Sum.inl x : Key), V.bl true)) (fun z => e (Sum.inl.inj z))
      rw [e2, ih]
      by_cases m : k ∈ ks
      · rw [if_pos m, if_pos (List.mem_cons_of_mem _ m)]
      · rw [if_neg m, if_neg fun z => by
          rcases List.mem_cons.mp z with y | y
          · exact e y.symm
          · exact m y]
theorem encS_old {ks : List Int} {w : Int} (h : w ∈ ks) : putK (encS ks) (Sum.inl w) (V.bl true) = encS ks := by
  unfold putK
  rw [valV_any, encS_val, if_pos h]
  show (if true = true then _ else _) = _
  rw [if_pos rfl]
  refine (List.map_congr_left fun kv hkv => ?_).trans (List.map_id _)
  obtain ⟨k, _, rfl⟩ := List.mem_map.mp hkv
  show (if (Sum.inl k : Key) = Sum.inl w then _ else _) = _
  split
  · rfl
  · rfl
theorem encS_new {ks : List Int} {w : Int} (h : w ∉ ks) : putK (encS ks) (Sum.inl w) (V.bl true) = encS (ks ++ [w]) := by
  rw [putK_new (V.bl true) (by rw [encS_val, if_neg h])]
  unfold encS
  rw [List.map_append]
  rfl
/-- R is a new list of new dicts of these keys -/
structure Nets (H0 H : Hp) (R : Addr) (ds : List Addr) (kss : List (List Int)) : Prop where
  sm : Same H0 H
  nR : H0 R = none
  hR : H R = some (.lst (ds.map V.ref))
  len : ds.length = kss.length
  nd : ds.Nodup
  new : ∀ d ∈ ds, H0 d = none
  it : ∀ (i : Nat) (d : Addr) (ks : List Int), ds[i]? = some d → kss[i]? = some ks → H d = some (.dK (encS ks))
section
variable {H0 H H' : Hp} {R : Addr} {ds : List Addr} {kss : List (List Int)}
theorem Nets.same (k : Nets H0 H R ds kss) (s : Same H H') : Nets H0 H' R ds kss := ⟨k.sm.trans s, k.nR, s _ _ k.hR, k.len, k.nd, k.new, fun i d ks e1 e2 => s _ _ (k.it i d ks e1 e2)⟩
theorem Nets.put (k : Nets H0 H R ds kss) {i : Nat} {d : Addr} (hd : ds[i]? = some d) (ks' : List Int) : Nets H0 (upd H d (.dK (encS ks'))) R ds (kss.set i ks') := by
  have hi := (List.getElem?_eq_some_iff.mp hd).1
  have hk : kss[i]? = some (kss[i]'(by have := k.len; omega)) := List.getElem?_eq_getElem (by have := k.len; omega)
  have nRd : R ≠ d := fun z => by
    have h := k.it i d _ hd hk
    rw [← z, k.hR] at h
    cases h
  refine ⟨same_mut k.sm (k.new d (List.mem_of_getElem? hd)), k.nR, by rw [upd_ne nRd]; exact k.hR, by rw [List.length_set]; exact k.len, k.nd, k.new, fun j d' ks e1 e2 => ?_⟩
  rw [List.getElem?_set] at e2
  split at e2
  · rename_i e
    subst e
    obtain rfl := Option.some.inj (hd.symm.trans e1)
    split at e2
    · rw [← Option.some.inj e2]
      exact upd_same
    · cases e2
  · rename_i e
    have ne : d' ≠ d := fun z => by
      subst z
      obtain ⟨h1, z1⟩ := List.getElem?_eq_some_iff.mp hd
      obtain ⟨h2, z2⟩ := List.getElem?_eq_some_iff.mp e1
      rcases Nat.lt_trichotomy i j with y | y | y
      · exact List.pairwise_iff_getElem.mp k.nd i j h1 h2 y (z1.trans z2.symm)
      · exact e y
      · exact List.pairwise_iff_getElem.mp k.nd j i h2 h1 y (z2.trans z1.symm)
    rw [upd_ne ne]
    exact k.it j d' ks e1 e2
end
end Hn

set_option maxHeartbeats 4000000
/-! _law_finds -/
namespace Pl
open PySem PySem.Spec PyProof.Rows L2 Hn
theorem rowAt_set {kss : List (List Int)} {u v : Nat} {r : List Int} (h : u < kss.length) : rowAt (kss.set u r) (v : Nat) = if v = u then r else rowAt kss (v : Nat) := by
  unfold rowAt
  rw [Int.toNat_natCast, List.getD_eq_getElem?_getD, List.getD_eq_getElem?_getD]
  by_cases e : v = u
  · subst e
    rw [if_pos rfl, List.getElem?_set_self h]
    rfl
  · rw [if_neg e, List.getElem?_set_ne (Ne.symm e)]
theorem _root_.Hn.Gm.addAll {rows : List (List Int)} {u : Int} {S ks : List Int} {Pe Pe' : Int → Int → Prop} (g : Gm rows u S Pe ks) {v : Int} (hv : v ∈ S) (nd : (rowAt rows v).Nodup) (hp : ∀ k x, Pe' k x → Pe k x ∨ (k = v ∧ x ∈ rowAt rows v)) : Gm rows u S Pe' (ks ++ (rowAt rows v).filter fun x => decide (x ∉ ks)) := by
  refine ⟨List.nodup_append.mpr ⟨g.nd, nd.filter _, fun x hx y hy e => ?_⟩, fun k h => List.mem_append_left _ (g.sub k h), fun k h => ?_, fun k x p => ?_, fun c => ?_⟩
  · have := of_decide_eq_true (List.mem_filter.mp hy).2
    exact this (by rw [← e]; exact hx)
  · rcases List.mem_append.mp h with z | z
    · exact g.re k z
    · exact .step (g.re v (g.sub v hv)) (List.mem_filter.mp z).1
  · rcases hp k x p with z | ⟨z1, z2⟩
    · exact List.mem_append_left _ (g.ed k x z)
    · by_cases q : x ∈ ks
      · exact List.mem_append_left _ q
      · exact List.mem_append_right _ (List.mem_filter.mpr ⟨z2, decide_eq_true q⟩)
  · have e := g.cl c
    rw [List.filter_eq_nil_iff.mpr fun x hx => by
      have : x ∈ ks := by rw [e]; exact c v hv x hx
      simp [this], List.append_nil, e]
def cell (ks : List Int) : C := .lst (ks.map D.int)
theorem cell_get {st : Sto} {kss : List (List Int)} {u : Nat} (h : u < kss.length) : (st ++ kss.map cell)[st.length + u]? = some (.lst ((rowAt kss (u : Nat)).map D.int)) := by
  rw [List.getElem?_append_right (by omega), show st.length + u - st.length = u by omega, List.getElem?_map, List.getElem?_eq_getElem h, rowAt_nat h]
  rfl
theorem cell_set {st : Sto} {kss : List (List Int)} {u : Nat} {r : List Int} : (st ++ kss.map cell).set (st.length + u) (.lst (r.map D.int)) = st ++ (kss.set u r).map cell := by
  rw [List.set_append_right _ _ (by omega), show st.length + u - st.length = u by omega, List.map_set]
  rfl
def locs (b n : Nat) : List D := (List.range n).map fun k => D.loc (b + k)
theorem locs_at {b n u : Nat} (h : u < n) {U : Int} (hU : (u : Int) = U) : atI (locs b n) U = some (.loc (b + u)) := by
  subst hU
  refine atI_nat ?_
  unfold locs
  rw [List.getElem?_map, List.getElem?_range h]
  rfl
section
variable {rows : List (List Int)} {st : Sto} {n : Nat} {N : Int}
abbrev envF (rows : List (List Int)) (N : Int) (b n : Nat) (x3 x4 x5 x6 x7 : Option D) : Env := [some (webD rows), some (.int N), some (.lst (locs b n)), x3, x4, x5, x6, x7]
theorem finds_in (hn : rows.length = n) (hN : (n : Int) = N) (h : IsWeb rows) {kss : List (List Int)} (hk : kss.length = n) {u t : Nat} {U : Int} (hU : (u : Int) = U) (hu : u < n) (g : Gr rows (u : Nat) t (rowAt kss (u : Nat))) {x4 x5 x6 x7 : Option D} :
    (mFor (mIt (mCall listD (mCons (mBin ixD (mV 2) (mV 3)) mNil))) (.nm 5) (mExpr (mMeth extD (mBin ixD (mV 2) (mV 3)) (mCons (mComp (mIt (mBin ixD (mV 0) (mV 5))) [6] (.nm 6) (mTst (mBin (inD true) (mV 6) (mBin ixD (mV 2) (mV 3)))) (mV 6)) mNil))) (envF rows N st.length n (some (.int U)) x4 x5 x6 x7) (st ++ kss.map cell)).wp
      { nx := fun ρ st' => ∃ ks x4 x5 x6 x7, ρ = envF rows N st.length n (some (.int U)) x4 x5 x6 x7 ∧ st' = st ++ (kss.set u ks).map cell ∧ Gr rows (u : Nat) (t + 1) ks } := by
  have h9 := h.few
  have hg := cell_get (st := st) (kss := kss) (u := u) (by omega)
  have ix : ∀ (kss : List (List Int)) (y4 y5 y6 y7 : Option D), kss.length = n → mBin ixD (mV 2) (mV 3) (envF rows N st.length n (some (.int U)) y4 y5 y6 y7) (st ++ kss.map cell) = .ok (.loc (st.length + u)) (st ++ kss.map cell) := fun kss y4 y5 y6 y7 hk => (bin_ok rfl rfl).trans (by rw [ixD_lst, locs_at hu hU]; rfl)
  have hmi : mIt (mCall listD (mCons (mBin ixD (mV 2) (mV 3)) mNil)) (envF rows N st.length n (some (.int U)) x4 x5 x6 x7) (st ++ kss.map cell) = .ok ⟨(rowAt kss (u : Nat)).map D.int, none⟩ (st ++ kss.map cell) := by
    refine itm_lst ((call_ok (one_ok (ix kss _ _ _ _ hk))).trans ?_)
    unfold listD
    simp only [itemsS_loc hg, ofOpt_some]
  refine wp_for hmi (fun j ρ st' => ∃ ks x4 x5 x6 x7, ρ = envF rows N st.length n (some (.int U)) x4 x5 x6 x7 ∧ st' = st ++ (kss.set u ks).map cell ∧ Gm rows (u : Nat) (rowAt kss (u : Nat)) (fun k x => k ∈ (rowAt kss (u : Nat)).take j ∧ x ∈ rowAt rows k) ks) ⟨rowAt kss (u : Nat), _, _, _, _, rfl, ?_, ?_⟩ ?_ ?_
  · congr 2
    refine (List.ext_getElem (by rw [List.length_set]) fun i h1 h2 => ?_).symm
    rw [List.getElem_set]
    split
    · rename_i e
      subst e
      exact rowAt_nat (by omega)
    · rfl
  · have m := g.mid
    exact ⟨m.nd, m.sub, m.re, fun k w p => by rw [List.take_zero] at p; exact absurd p.1 List.not_mem_nil, m.cl⟩
  · rintro j d ρ st' hd ⟨ks, y4, y5, y6, y7, rfl, rfl, gm⟩
    rw [List.getElem?_map] at hd
    obtain ⟨w, hw, rfl⟩ := Option.map_eq_some_iff.mp hd
    have hws := List.mem_of_getElem? hw
    have hwr := (g.re w hws).range h.inr (by omega)
    have hk2 : (kss.set u ks).length = n := by rw [List.length_set]; exact hk
    have hg2 := cell_get (st := st) (kss := kss.set u ks) (u := u) (by omega)
    rw [rowAt_set (by omega), if_pos rfl] at hg2
    refine ⟨True.intro, _, rfl, ?_⟩
    simp only [List.set]
    have hwe : ((w.toNat : Nat) : Int) = w := by omega
    have hrl := h.row (u := w.toNat) (by omega)
    rw [hwe] at hrl
    have c1 : mComp (mIt (mBin ixD (mV 0) (mV 5))) [6] (.nm 6) (mTst (mBin (inD true) (mV 6) (mBin ixD (mV 2) (mV 3)))) (mV 6) (envF rows N st.length n (some (.int U)) y4 (some (.int w)) y6 y7) (st ++ (kss.set u ks).map cell)
        = .ok (.lst (((rowAt rows w).filter fun x => decide (x ∉ ks)).map D.int)) (st ++ (kss.set u ks).map cell) := by
      rw [mComp_pure (fun d => match d with | .int x => decide (x ∉ ks) | _ => false) (fun d => d) (itm_row ((bin_ok rfl rfl).trans (webD_ix hwr.1 hwr.2 _))) True.intro (by show ((rowAt rows w).map D.int).length ≤ lim; rw [List.length_map]; exact lim_of (by omega)) (fun d hd => by
        obtain ⟨x, hx, rfl⟩ := List.mem_map.mp hd
        refine ⟨_, rfl, (tst_ok ((bin_ok rfl (ix _ _ _ _ _ hk2)).trans (inD_loc hg2))).trans ?_, fun _ => rfl⟩
        congr 1
        by_cases e : x ∈ ks <;> simp [e])]
      congr 2
      show (((rowAt rows w).map D.int).filter _).map _ = _
      rw [List.map_id', List.filter_map]
      rfl
    have few := gm.few h.inr (by omega)
    have e1 : mMeth extD (mBin ixD (mV 2) (mV 3)) (mCons (mComp (mIt (mBin ixD (mV 0) (mV 5))) [6] (.nm 6) (mTst (mBin (inD true) (mV 6) (mBin ixD (mV 2) (mV 3)))) (mV 6)) mNil) (envF rows N st.length n (some (.int U)) y4 (some (.int w)) y6 y7) (st ++ (kss.set u ks).map cell)
        = .ok .non (st ++ (kss.set u (ks ++ (rowAt rows w).filter fun x => decide (x ∉ ks))).map cell) := by
      unfold mMeth
      rw [ix _ _ _ _ _ hk2]
      simp only [R.ok_bind, itemsL_loc hg2, ofOpt_some]
      rw [one_ok c1]
      simp only [R.ok_bind, extD, lstOf_loc hg2, ofOpt_some, itemsL_lst]
      rw [guardR_pos (by
        rw [List.length_map, List.length_map]
        have := List.length_filter_le (fun x => decide (x ∉ ks)) (rowAt rows w)
        exact lim_of (by omega))]
      rw [← List.map_append, cell_set, List.set_set]
    rw [expr_ok e1]
    simp only [wp_nx]
    refine ⟨_, _, _, _, _, rfl, rfl, gm.addAll hws ?_ fun k x p => ?_⟩
    · rw [← hwe]
      exact asc_nodup (h.up _ (by omega))
    · obtain ⟨p1, p2⟩ := p
      rw [List.take_add_one, hw] at p1
      rcases List.mem_append.mp p1 with z | z
      · exact .inl ⟨z, p2⟩
      · have := List.mem_singleton.mp z
        subst this
        exact .inr ⟨rfl, p2⟩
  · rintro ρ st' ⟨ks, y4, y5, y6, y7, rfl, rfl, gm⟩
    refine ⟨True.intro, ks, _, _, _, _, rfl, rfl, gm.done g fun k hk w hw => ⟨?_, hw⟩⟩
    rw [List.length_map, List.take_length]
    exact hk
theorem S_lfinds (h : IsWeb rows) : M__law_finds [webD rows] st = .ok (webD (findsOf rows)) st := by
  have h9 := h.few
  obtain ⟨n, hn⟩ : ∃ n : Nat, rows.length = n := ⟨_, rfl⟩
  obtain ⟨N, hN⟩ : ∃ N : Int, (n : Int) = N := ⟨_, rfl⟩
  have hlenN : ∀ st, lenD [webD rows] st = .ok (.int N) st := fun st => by rw [← hN, ← hn]; exact webD_len
  unfold M__law_finds
  have start : ∃ st' acc, mComp (mItA rng1R (mCons (mV 1) mNil)) [3] (.nm 3) mYes (mLstM (mCons (mV 3) mNil)) [some (webD rows), some (.int N), none, none, none, none, none, none] st = .ok (.lst acc) st' ∧ st' = st ++ ((List.range n).map fun (k : Nat) => [(k : Int)]).map cell ∧ acc = locs st.length n := by
    have hm : mItA rng1R (mCons (mV 1) mNil) [some (webD rows), some (.int N), none, none, none, none, none, none] st = .ok ⟨rngD 0 n, none⟩ st := itA_ok (ds := [.int N]) rfl (by rw [← hN]; exact rng_ok (by omega))
    have := mComp_inv (vs := [3]) (p := .nm 3) (t := mYes) (m := mLstM (mCons (mV 3) mNil)) hm (fun i st' acc => st' = st ++ ((List.range i).map fun (k : Nat) => [(k : Int)]).map cell ∧ acc = locs st.length i) ⟨by simp, rfl⟩ (fun i d st' acc hd hI => by
      obtain ⟨rfl, rfl⟩ := hI
      obtain ⟨hi, rfl⟩ := rngD_at hd
      refine ⟨True.intro, by unfold locs; rw [List.length_map, List.length_range]; exact lim_of (by omega), _, rfl, true, _, rfl, fun _ => ⟨.loc (st.length + i), st ++ ((List.range (i + 1)).map fun (k : Nat) => [(k : Int)]).map cell, ?_, rfl, ?_⟩, fun z => by cases z⟩
      · simp only [mLstM, mCons, mNil, mV, wipeD, List.set, List.getElem?_cons_succ, List.getElem?_cons_zero, R.ok_bind]
        rw [guardR_pos (lim_of (by show 1 ≤ 1000000; decide))]
        congr 1
        · simp
        · rw [List.range_succ, List.map_append, List.map_append, ← List.append_assoc]
          congr 1
          rw [Int.zero_add]
          rfl
      · unfold locs
        rw [List.range_succ, List.map_append]
        rfl) (fun _ _ _ => True.intro)
    obtain ⟨st', acc, e, h1, h2⟩ := this
    rw [show (Wk.items ⟨rngD 0 n, none⟩).length = n from rngD_len] at h1 h2
    exact ⟨st', acc, e, h1, h2⟩
  obtain ⟨st', acc, e0, rfl, rfl⟩ := start
  have key : (mFor (mItA rng1R (mCons (mV 1) mNil)) (.nm 4) (mFor (mItA rng1R (mCons (mV 1) mNil)) (.nm 3) (mFor (mIt (mCall listD (mCons (mBin ixD (mV 2) (mV 3)) mNil))) (.nm 5) (mExpr (mMeth extD (mBin ixD (mV 2) (mV 3)) (mCons (mComp (mIt (mBin ixD (mV 0) (mV 5))) [6] (.nm 6) (mTst (mBin (inD true) (mV 6) (mBin ixD (mV 2) (mV 3)))) (mV 6)) mNil))))) (envF rows N st.length n none none none none none) (st ++ ((List.range n).map fun (k : Nat) => [(k : Int)]).map cell)).wp
      { nx := fun ρ st' => ∃ kss x3 x4 x5 x6 x7, ρ = envF rows N st.length n x3 x4 x5 x6 x7 ∧ st' = st ++ kss.map cell ∧ kss.length = n ∧ ∀ v : Nat, v < n → Gr rows (v : Nat) n (rowAt kss (v : Nat)) } := by
    refine wp_rngN (st1 := st ++ ((List.range n).map fun (k : Nat) => [(k : Int)]).map cell) n hN rfl (by omega) (fun t ρ st' => ∃ kss x3 x4 x5 x6 x7, ρ = envF rows N st.length n x3 x4 x5 x6 x7 ∧ st' = st ++ kss.map cell ∧ kss.length = n ∧ ∀ v : Nat, v < n → Gr rows (v : Nat) t (rowAt kss (v : Nat))) ⟨_, _, _, _, _, _, rfl, rfl, by simp, fun v hv => ?_⟩ ?_ (fun ρ st' h => h)
    · have : rowAt ((List.range n).map fun (k : Nat) => [(k : Int)]) (v : Nat) = [(v : Int)] := by
        unfold rowAt
        rw [Int.toNat_natCast, List.getD_eq_getElem?_getD, List.getElem?_map, List.getElem?_range hv]
        rfl
      rw [this]
      exact Gr.start
    · rintro t T ρ st' hT ht ⟨kss, x3, x4, x5, x6, x7, rfl, rfl, hk, hg⟩
      refine ⟨_, rfl, ?_⟩
      simp only [List.set]
      refine wp_rngN (st1 := st ++ kss.map cell) n hN rfl (by omega) (fun u ρ st' => ∃ kss x3 x4 x5 x6 x7, ρ = envF rows N st.length n x3 x4 x5 x6 x7 ∧ st' = st ++ kss.map cell ∧ kss.length = n ∧ (∀ v : Nat, v < u → Gr rows (v : Nat) (t + 1) (rowAt kss (v : Nat))) ∧ ∀ v : Nat, u ≤ v → v < n → Gr rows (v : Nat) t (rowAt kss (v : Nat))) ⟨kss, _, _, _, _, _, rfl, rfl, hk, fun v hv => absurd hv (Nat.not_lt_zero v), fun v _ hv => hg v hv⟩ ?_ ?_
      · rintro u U ρ st' hU hu ⟨kss, y3, y4, y5, y6, y7, rfl, rfl, hk, hg1, hg2⟩
        refine ⟨_, rfl, ?_⟩
        simp only [List.set]
        refine wp_mono (finds_in hn hN h hk hU hu (hg2 u (Nat.le_refl _) hu)) (fun ρ st' h => ?_) (fun _ _ z => z.elim) (fun _ _ z => z.elim) (fun _ _ z => z.elim) (fun _ _ z => z.elim)
        obtain ⟨ks, z4, z5, z6, z7, rfl, rfl, hgr⟩ := h
        refine ⟨kss.set u ks, _, _, _, _, _, rfl, rfl, by rw [List.length_set]; exact hk, fun v hv => ?_, fun v hv1 hv2 => ?_⟩
        · rw [rowAt_set (by omega)]
          split
          · rename_i e
            subst e
            exact hgr
          · exact hg1 v (by omega)
        · rw [rowAt_set (by omega), if_neg (by omega)]
          exact hg2 v (by omega) hv2
      · rintro ρ st' ⟨kss, y3, y4, y5, y6, y7, rfl, rfl, hk, hg1, hg2⟩
        exact ⟨kss, _, _, _, _, _, rfl, rfl, hk, hg1⟩
  obtain ⟨ρ', st', e1, kss, x3, x4, x5, x6, x7, rfl, rfl, hk, hg⟩ := wp_ex key
  refine def_rtA (x := kss.map cell) rfl ?_ cl_web
  refine (seq_nx (set_ok ((call_ok (one_ok rfl)).trans (hlenN _)))).trans ((seq_nx (set_ok e0)).trans ((seq_nx e1).trans (ret_ok ?_)))
  have fin : kss.map sortZ = findsOf rows := by
    refine List.ext_getElem (by rw [List.length_map, findsOf_len, hk, hn]) fun i h1 h2 => ?_
    rw [List.length_map] at h1
    rw [List.getElem_map, ← rowAt_nat h2, findsOf_at (by omega), ← rowAt_nat h1]
    refine foundOf_uniq h.inr (by omega) (hg i (by omega)).nd fun k => ?_
    have := hg i (by omega)
    rw [← hn] at this
    exact this.all h.inr (by omega) k
  have c1 : mComp (mIt (mV 2)) [7] (.nm 7) mYes (mCall tupleD (mCons (mCall sortedD (mCons (mV 7) mNil)) mNil)) (envF rows N st.length n x3 x4 x5 x6 x7) (st ++ kss.map cell) = .ok (.lst ((kss.map sortZ).map rowD')) (st ++ kss.map cell) := by
    rw [comp_map (fun d => match d with | .loc k => rowD' (sortZ (rowAt kss ((k - st.length : Nat) : Nat))) | d => d) (itm_lst (r := locs st.length n) rfl) True.intro (by show (locs st.length n).length ≤ lim; unfold locs; rw [List.length_map, List.length_range]; exact lim_of (by omega)) (fun d hd => by
      obtain ⟨k, hk2, rfl⟩ := List.mem_map.mp hd
      have hk3 := List.mem_range.mp hk2
      have hgk := cell_get (st := st) (kss := kss) (u := k) (by omega)
      refine ⟨_, rfl, (call_ok (one_ok (d := .lst ((sortZ (rowAt kss (k : Nat))).map D.int)) (st1 := st ++ kss.map cell) ((call_ok (one_ok rfl)).trans ?_))).trans ?_⟩
      · simp only [sortedD, hgk]
        exact sortedL_ints
      · rw [tupleD_lst]
        show _ = R.ok (rowD' (sortZ (rowAt kss ((st.length + k - st.length : Nat) : Int)))) (st ++ kss.map cell)
        rw [show st.length + k - st.length = k by omega]
        rfl)]
    congr 2
    show (locs st.length n).map _ = _
    unfold locs
    refine List.ext_getElem (by simp [hk]) fun i h1 h2 => ?_
    simp only [List.length_map, List.length_range] at h1
    simp only [List.getElem_map, List.getElem_range]
    show rowD' (sortZ (rowAt kss ((st.length + i - st.length : Nat) : Int))) = _
    rw [show st.length + i - st.length = i by omega, rowAt_nat (by omega)]
  refine (call_ok (one_ok c1)).trans ?_
  rw [tupleD_lst, fin]
  rfl
end
end Pl

set_option maxHeartbeats 4000000
/-! joined, with_card, first_beyond, news -/
namespace Pl
open PySem PySem.Spec PyProof.Rows L2 Hn
theorem S_joined {r : List Int} {w : Int} {st : Sto} (hl : r.length ≤ 1000) : M_joined [rowD' r, .int w] st = .ok (rowD' (plus r w)) st := by
  unfold M_joined
  refine def_rt rfl ?_
  have e : (mTst (mBin (inD false) (mV 1) (mV 0))) [some (rowD' r), some (.int w)] st = .ok (decide (w ∈ r)) st := tst_ok ((bin_ok rfl rfl).trans (inD_row.trans (by rw [Bool.xor_false])))
  unfold plus
  by_cases h : w ∈ r
  · rw [if_pos h]
    rw [decide_eq_true h] at e
    exact seq_rt ((ifS_t e).trans (ret_ok rfl))
  · rw [if_neg h]
    rw [decide_eq_false h] at e
    refine (seq_nx (ifS_f e)).trans (ret_ok ?_)
    refine (call_ok (one_ok ((call_ok (one_ok (d := .lst ((r ++ [w]).map D.int)) ?_)).trans (sortedL_ints)))).trans rfl
    simp only [mLst, mStar, mCons, mNil, mV, List.map_cons, List.map_nil, List.cons_append, List.getElem?_cons_succ, List.getElem?_cons_zero, R.ok_bind, rowD', itemsS_tup, ofOpt_some]
    rw [guardR_pos (by rw [List.length_append, List.length_map]; exact lim_of (by simp; omega))]
    simp
theorem S_with {rows : List (List Int)} {v w : Int} {st : Sto} (h : IsWeb rows) (hv : 0 ≤ v ∧ v < (rows.length : Int)) : M_with_card [webD rows, .int v, .int w] st = .ok (webD (withC rows v w)) st := by
  unfold M_with_card
  refine def_rt rfl (ret_ok ?_)
  obtain ⟨u, rfl⟩ : ∃ u : Nat, v = (u : Int) := ⟨v.toNat, by omega⟩
  have hu : u < rows.length := by omega
  have h9 := h.few
  simp only [mTup, mStar, mCons, mNil, mSl, mNoPart, mPart, mCall, mBin, mV, mC, List.map_cons, List.map_nil, List.cons_append, List.getElem?_cons_succ, List.getElem?_cons_zero, R.ok_bind, webD, slD_tup, itemsS_tup, ofOpt_some, intOf, addD_int]
  rw [cut_take _ _ (by rw [rowsL_len]; omega), show (u : Int) + 1 = ((u + 1 : Nat) : Int) by omega]
  have e := webD_ix (rows := rows) (v := (u : Nat)) (by omega) (by omega) st
  unfold webD at e
  rw [e]
  simp only [R.ok_bind]
  rw [S_joined (by have := h.row hu; omega)]
  simp only [R.ok_bind]
  rw [cut_drop _ _ (by rw [rowsL_len]; omega)]
  have hr : rowsL (withC rows (u : Nat) w) = (rowsL rows).take u ++ rowD' (plus (rowAt rows (u : Nat)) w) :: (rowsL rows).drop (u + 1) := by
    unfold withC rowsL
    rw [Int.toNat_natCast, List.map_set, List.set_eq_take_append_cons_drop, if_pos (by rw [List.length_map]; exact hu)]
  rw [hr]
  simp only [List.append_nil]
  rw [guardR_pos (by
    rw [List.length_append, List.length_cons, List.length_take, List.length_drop, rowsL_len]
    exact lim_of (by omega))]
/-- the first card of one web that isn't the other's -/
def firstB (rows ws : List (List Int)) : Option (Int × Int) := (List.range rows.length).findSome? fun (u : Nat) => (rowAt rows (u : Nat)).findSome? fun w => if w ∈ rowAt ws (u : Nat) then none else some ((u : Int), w)
def pairD : Option (Int × Int) → D
  | none => .non
  | some p => .tup [.int p.1, .int p.2]
theorem findSome_map {α β γ : Type} (f : α → β) (h : β → Option γ) : ∀ l : List α, (l.map f).findSome? h = l.findSome? fun x => h (f x)
  | [] => rfl
  | x :: l => by rw [List.map_cons, List.findSome?_cons, List.findSome?_cons, findSome_map f h l]
theorem findSome_opt {α β γ : Type} (f : β → γ) (h : α → Option β) : ∀ l : List α, (l.findSome? fun x => (h x).map f) = (l.findSome? h).map f
  | [] => rfl
  | x :: l => by
    rw [List.findSome?_cons, List.findSome?_cons, findSome_opt f h l]
    cases h x <;> rfl
def prOf (p : Int × Int) : D := .tup [.int p.1, .int p.2]
theorem S_beyond {rows ws : List (List Int)} {st : Sto} (hl : rows.length ≤ 1000) (hr : ws.length = rows.length) : M_first_beyond [webD rows, webD ws] st = .ok (pairD (firstB rows ws)) st := by
  unfold M_first_beyond
  refine def_rt rfl ?_
  have hmi : mItA rng1R (mCons (mCall lenD (mCons (mV 0) mNil)) mNil) [some (webD rows), some (webD ws), none, none] st = .ok ⟨rngD 0 rows.length, none⟩ st := itA_ok (one_ok ((call_ok (one_ok rfl)).trans webD_len)) (rng_ok (by omega))
  have key := mFor_find (p := .nm 2) (b := mFor (mIt (mBin ixD (mV 0) (mV 2))) (.nm 3) (mIfS (mTst (mBin (inD true) (mV 3) (mBin ixD (mV 1) (mV 2)))) (mRet (mTup (mCons (mV 2) (mCons (mV 3) mNil)))) mNext))
    (fun d => match d with | .int u => (((rowAt rows u).findSome? fun w => if w ∈ rowAt ws u then none else some (u, w)).map prOf) | _ => none)
    (fun ρ => ∃ x2 x3, ρ = [some (webD rows), some (webD ws), x2, x3]) hmi True.intro ⟨none, none, rfl⟩ (fun d hd ρ ⟨x2, x3, hρ⟩ => by
      subst hρ
      obtain ⟨u, hu, rfl⟩ := rng_mem hd
      refine ⟨_, rfl, ?_⟩
      simp only [List.set]
      have i1 : ∀ y3, mBin ixD (mV 0) (mV 2) [some (webD rows), some (webD ws), some (.int (u : Nat)), y3] st = .ok (rowD' (rowAt rows (u : Nat))) st := fun y3 => (bin_ok rfl rfl).trans (webD_ix (by omega) (by omega) st)
      have i2 : ∀ y3, mBin ixD (mV 1) (mV 2) [some (webD rows), some (webD ws), some (.int (u : Nat)), y3] st = .ok (rowD' (rowAt ws (u : Nat))) st := fun y3 => (bin_ok rfl rfl).trans (webD_ix (by omega) (by omega) st)
      have k2 := mFor_find (p := .nm 3) (b := mIfS (mTst (mBin (inD true) (mV 3) (mBin ixD (mV 1) (mV 2)))) (mRet (mTup (mCons (mV 2) (mCons (mV 3) mNil)))) mNext)
        (fun d => match d with | .int w => (if w ∈ rowAt ws (u : Nat) then none else some ((u : Int), w)).map prOf | _ => none)
        (fun ρ => ∃ x3, ρ = [some (webD rows), some (webD ws), some (.int (u : Nat)), x3]) (itm_row (i1 x3)) True.intro ⟨x3, rfl⟩ (fun d hd ρ ⟨y3, hρ⟩ => by
          subst hρ
          obtain ⟨w, hw, rfl⟩ := List.mem_map.mp hd
          refine ⟨_, rfl, ?_⟩
          simp only [List.set]
          have t1 : mTst (mBin (inD true) (mV 3) (mBin ixD (mV 1) (mV 2))) [some (webD rows), some (webD ws), some (.int (u : Nat)), some (.int w)] st = .ok (!decide (w ∈ rowAt ws (u : Nat))) st := tst_ok ((bin_ok rfl (i2 _)).trans (inD_row.trans (by rw [Bool.xor_true])))
          by_cases hm : w ∈ rowAt ws (u : Nat)
          · rw [if_pos hm]
            rw [decide_eq_true hm] at t1
            exact ⟨_, ifS_f t1, _, rfl⟩
          · rw [if_neg hm]
            rw [decide_eq_false hm] at t1
            exact (ifS_t t1).trans (ret_ok (tup2 rfl)))
      rw [findSome_map] at k2
      rw [findSome_opt] at k2
      cases hf : ((rowAt rows (u : Nat)).findSome? fun w => if w ∈ rowAt ws (u : Nat) then none else some ((u : Int), w)) with
      | some r =>
        rw [hf] at k2
        exact k2
      | none =>
        rw [hf] at k2
        obtain ⟨ρ', e, x3', rfl⟩ := k2
        exact ⟨_, e, _, _, rfl⟩)
  have hfind : (rngD 0 rows.length).findSome? (fun d => match d with | .int u => (((rowAt rows u).findSome? fun w => if w ∈ rowAt ws u then none else some (u, w)).map prOf) | _ => none) = (firstB rows ws).map prOf := by
    unfold rngD firstB
    rw [findSome_map, ← findSome_opt]
    refine congrArg (fun f => (List.range rows.length).findSome? f) (funext fun k => ?_)
    show ((rowAt rows (0 + (k : Int))).findSome? fun w => if w ∈ rowAt ws (0 + (k : Int)) then none else some (0 + (k : Int), w)).map prOf = _
    rw [Int.zero_add]
  rw [show (Wk.items ⟨rngD 0 rows.length, none⟩) = rngD 0 rows.length from rfl, hfind] at key
  cases hf : firstB rows ws with
  | some r =>
    rw [hf] at key
    exact seq_rt key
  | none =>
    rw [hf] at key
    obtain ⟨ρ', e, x2, x3, rfl⟩ := key
    exact (seq_nx e).trans (ret_ok rfl)
theorem firstB_none {rows ws : List (List Int)} : firstB rows ws = none ↔ ∀ u : Nat, u < rows.length → ∀ w ∈ rowAt rows (u : Nat), w ∈ rowAt ws (u : Nat) := by
  unfold firstB
  simp only [List.findSome?_eq_none_iff, List.mem_range, ite_eq_left_iff, reduceCtorEq, imp_false, Classical.not_not]
/-- the cards that u may show -/
def newsOf (rows fs : List (List Int)) (u : Nat) : List (Int × Int) := (rowAt rows (u : Nat)).flatMap fun v => ((rowAt rows (u : Nat) ++ [(u : Int)]).filter fun w => decide (w ≠ v) && (decide (w ∈ rowAt fs v) && decide (w ∉ rowAt rows v))).map fun w => (v, w)
theorem S_news {rows fs : List (List Int)} {u : Nat} {st : Sto} (h : IsWeb rows) (hf : fs.length = rows.length) (hu : u < rows.length) : M_news [webD rows, .int (u : Nat), webD fs] st = .ok (.lst ((newsOf rows fs u).map prOf)) st := by
  unfold M_news
  refine def_rt rfl (ret_ok ?_)
  have hrow := h.row hu
  have i0 : ∀ x3 x4, mBin ixD (mV 0) (mV 1) [some (webD rows), some (.int (u : Nat)), some (webD fs), x3, x4] st = .ok (rowD' (rowAt rows (u : Nat))) st := fun x3 x4 => (bin_ok rfl rfl).trans (webD_ix (by omega) (by omega) st)
  have hmi : mIt (mBin ixD (mV 0) (mV 1)) [some (webD rows), some (.int (u : Nat)), some (webD fs), none, none] st = .ok ⟨(rowAt rows (u : Nat)).map D.int, none⟩ st := itm_row (i0 _ _)
  have key := mComp2_pure (vs := [3, 4]) (vs1 := [4]) (p := .nm 3) (p1 := .nm 4) (t := mYes) (mi1 := mIt (mLst (mStar (mBin ixD (mV 0) (mV 1)) (mCons (mV 1) mNil))))
    (t1 := mAnd (mTst (mBin neD (mV 4) (mV 3))) (mAnd (mTst (mBin (inD false) (mV 4) (mBin ixD (mV 2) (mV 3)))) (mTst (mBin (inD true) (mV 4) (mBin ixD (mV 0) (mV 3)))))) (m := mTup (mCons (mV 3) (mCons (mV 4) mNil)))
    (fun d => match d with | .int v => (((rowAt rows (u : Nat) ++ [(u : Int)]).filter fun w => decide (w ≠ v) && (decide (w ∈ rowAt fs v) && decide (w ∉ rowAt rows v))).map fun w => prOf (v, w)) | _ => []) 10 hmi True.intro
    (by show 10 * ((rowAt rows (u : Nat)).map D.int).length ≤ lim; rw [List.length_map]; exact lim_of (by omega)) (fun d hd => by
      obtain ⟨v, hv, rfl⟩ := List.mem_map.mp hd
      have hvr := h.rng u hu v hv
      refine ⟨?_, _, ⟨((rowAt rows (u : Nat)) ++ [(u : Int)]).map D.int, none⟩, rfl, rfl, ?_, fun acc hacc => ?_⟩
      · simp only [List.length_map]
        refine Nat.le_trans (List.length_filter_le _ _) ?_
        rw [List.length_append]
        simp only [List.length_cons, List.length_nil]
        omega
      · refine itm_lst ?_
        simp only [wipeD, List.set, mLst, mStar, mCons, mNil, R.ok_bind]
        rw [i0]
        simp only [R.ok_bind, rowD', itemsS_tup, ofOpt_some, mV, List.getElem?_cons_succ, List.getElem?_cons_zero]
        rw [guardR_pos (by rw [List.length_append, List.length_map]; exact lim_of (by simp; omega))]
        simp
      · simp only [wipeD, List.set]
        have cp := comp_pure (it := ⟨((rowAt rows (u : Nat)) ++ [(u : Int)]).map D.int, none⟩) (p := .nm 4) (t := mAnd (mTst (mBin neD (mV 4) (mV 3))) (mAnd (mTst (mBin (inD false) (mV 4) (mBin ixD (mV 2) (mV 3)))) (mTst (mBin (inD true) (mV 4) (mBin ixD (mV 0) (mV 3)))))) (m := mTup (mCons (mV 3) (mCons (mV 4) mNil)))
          (ρ := [some (webD rows), some (.int (u : Nat)), some (webD fs), some (.int v), none]) (st := st) (fun d => match d with | .int w => decide (w ≠ v) && (decide (w ∈ rowAt fs v) && decide (w ∉ rowAt rows v)) | _ => false) (fun d => match d with | .int w => prOf (v, w) | d => d) True.intro
          (((rowAt rows (u : Nat)) ++ [(u : Int)]).map D.int) acc (by rw [List.length_map, List.length_append]; simp only [List.length_cons, List.length_nil]; omega) (fun d hd => by
            obtain ⟨w, hw, rfl⟩ := List.mem_map.mp hd
            refine ⟨_, rfl, ?_, fun _ => tup2 rfl⟩
            simp only [List.set]
            have t1 : mTst (mBin neD (mV 4) (mV 3)) [some (webD rows), some (.int (u : Nat)), some (webD fs), some (.int v), some (.int w)] st = .ok (!decide (w = v)) st := tst_ok ((bin_ok rfl rfl).trans neD_int)
            have t2 : mTst (mBin (inD false) (mV 4) (mBin ixD (mV 2) (mV 3))) [some (webD rows), some (.int (u : Nat)), some (webD fs), some (.int v), some (.int w)] st = .ok (decide (w ∈ rowAt fs v)) st := tst_ok ((bin_ok rfl ((bin_ok rfl rfl).trans (webD_ix hvr.1 (by omega) st))).trans (inD_row.trans (by rw [Bool.xor_false])))
            have t3 : mTst (mBin (inD true) (mV 4) (mBin ixD (mV 0) (mV 3))) [some (webD rows), some (.int (u : Nat)), some (webD fs), some (.int v), some (.int w)] st = .ok (!decide (w ∈ rowAt rows v)) st := tst_ok ((bin_ok rfl ((bin_ok rfl rfl).trans (webD_ix hvr.1 hvr.2.1 st))).trans (inD_row.trans (by rw [Bool.xor_true])))
            by_cases h1 : w = v
            · rw [decide_eq_true h1] at t1
              rw [and_f t1]
              simp [h1]
            · rw [decide_eq_false h1] at t1
              rw [and_t t1]
              by_cases h2 : w ∈ rowAt fs v
              · rw [decide_eq_true h2] at t2
                rw [and_t t2, t3]
                simp [h1, h2]
              · rw [decide_eq_false h2] at t2
                rw [and_f t2]
                simp [h1, h2])
        refine cp.trans ?_
        congr 2
        rw [List.filter_map, List.map_map]
        rfl)
  refine key.trans ?_
  congr 2
  show ((rowAt rows (u : Nat)).map D.int).flatMap _ = _
  unfold newsOf
  rw [List.flatMap_map, List.map_flatMap]
  congr 1
  funext v
  rw [List.map_map]
  rfl
end Pl

set_option maxHeartbeats 4000000
/-! spread, widened -/
namespace Pl
open PySem PySem.Spec PyProof.Rows L2 Hn
theorem newsOf_mem {rows fs : List (List Int)} {u : Nat} {p : Int × Int} : p ∈ newsOf rows fs u ↔ p.1 ∈ rowAt rows (u : Nat) ∧ (p.2 ∈ rowAt rows (u : Nat) ∨ p.2 = (u : Int)) ∧ p.2 ≠ p.1 ∧ p.2 ∈ rowAt fs p.1 ∧ p.2 ∉ rowAt rows p.1 := by
  unfold newsOf
  simp only [List.mem_flatMap, List.mem_map, List.mem_filter, List.mem_append, List.mem_singleton, Bool.and_eq_true, decide_eq_true_eq]
  constructor
  · rintro ⟨v, hv, w, ⟨h1, h2, h3, h4⟩, rfl⟩
    exact ⟨hv, h1, h2, h3, h4⟩
  · rintro ⟨h1, h2, h3, h4, h5⟩
    exact ⟨p.1, h1, p.2, ⟨h2, h3, h4, h5⟩, rfl⟩
theorem newsOf_len {rows fs : List (List Int)} {u : Nat} (h : IsWeb rows) (hu : u < rows.length) : (newsOf rows fs u).length ≤ 90 := by
  unfold newsOf
  have hr := h.row hu
  have key : ∀ (l : List Int) (g : Int → List (Int × Int)), (∀ v ∈ l, (g v).length ≤ 10) → (l.flatMap g).length ≤ 10 * l.length := fun l g hg => by
    induction l with
    | nil => exact Nat.zero_le _
    | cons a l ih =>
      have h1 := hg a List.mem_cons_self
      have h2 := ih fun v hv => hg v (List.mem_cons_of_mem _ hv)
      rw [List.flatMap_cons, List.length_append, List.length_cons]
      omega
  have := key (rowAt rows (u : Nat)) (fun v => ((rowAt rows (u : Nat) ++ [(u : Int)]).filter fun w => decide (w ≠ v) && (decide (w ∈ rowAt fs v) && decide (w ∉ rowAt rows v))).map fun w => (v, w)) fun v _ => by
    rw [List.length_map]
    refine Nat.le_trans (List.length_filter_le _ _) ?_
    rw [List.length_append]
    simp only [List.length_cons, List.length_nil]
    omega
  omega
/-- a web on its way from one to its widest -/
structure Way (rows fs W : List (List Int)) : Prop where
  web : IsWeb W
  sub : Sub rows W
  clo : ∀ u : Nat, u < rows.length → ∀ w ∈ rowAt W (u : Nat), Clo rows fs (u : Nat) w
theorem Way.add {rows fs W : List (List Int)} (h : IsWeb rows) (hf : InRange fs) (hl : fs.length = rows.length) (a : Way rows fs W) {v w : Int} (hv : 0 ≤ v ∧ v < (rows.length : Int)) (c : Clo rows fs v w) : Way rows fs (withC W v w) := by
  have hn := a.sub.1
  have r := c.rng h hf hl
  have hv' : 0 ≤ v ∧ v < (W.length : Int) := by omega
  refine ⟨a.web.withC hv' (by omega) r.2.2, a.sub.trans (sub_with hv'), fun u hu x hx => ?_⟩
  rcases (withC_mem hv' (by omega)).mp hx with z | ⟨z1, z2⟩
  · exact a.clo u hu x z
  · rw [z1, z2]
    exact c
theorem spread_round {rows fs W : List (List Int)} {st : Sto} {N : Int} {rs : List D} {x5 x6 x7 : Option D} (hN : (rows.length : Int) = N) (h : IsWeb rows) (hf : InRange fs) (hl : fs.length = rows.length) (way : Way rows fs W) (hrs : rs.length ≤ 500000) :
    (mFor (mItA rng1R (mCons (mV 3) mNil)) (.nm 5) (mFor (mIt (mCall M_news (mCons (mV 0) (mCons (mV 5) (mCons (mV 1) mNil))))) (.tp [(.nm 6), (.nm 7)]) (mSeq (mAug 2 iaddD (mLst (mCons (mTup (mCons (mC (.str "show")) (mCons (mV 5) (mCons (mV 6) (mCons (mV 7) mNil))))) (mCons (mTup (mCons (mC (.str "come")) (mCons (mV 6) (mCons (mV 7) mNil)))) mNil))))
    (mSet 0 (mCall M_with_card (mCons (mV 0) (mCons (mV 6) (mCons (mV 7) mNil))))))) [some (webD W), some (webD fs), some (.loc st.length), some (.int N), some (webD W), x5, x6, x7] (st ++ [.lst rs])).wp { nx := fun ρ st' => ∃ W' x5 x6 x7 rs', ρ = [some (webD W'), some (webD fs), some (.loc st.length), some (.int N), some (webD W), x5, x6, x7] ∧ st' = st ++ [.lst rs'] ∧ rs'.length ≤ rs.length + 180 * rows.length ∧ Way rows fs W' ∧ Sub W W' ∧ (W' = W → ∀ u : Nat, u < rows.length → newsOf W fs u = []) } := by
  have h9 := h.few
  have hn := way.sub.1
  refine wp_rng (st1 := st ++ [.lst rs]) rows.length (by rw [hN]; rfl) (by omega) (fun i ρ st' => ∃ W' x5 x6 x7 rs', ρ = [some (webD W'), some (webD fs), some (.loc st.length), some (.int N), some (webD W), x5, x6, x7] ∧ st' = st ++ [.lst rs'] ∧ rs'.length ≤ rs.length + 180 * i ∧ Way rows fs W' ∧ Sub W W' ∧ (W' = W → ∀ u : Nat, u < i → newsOf W fs u = [])) ⟨W, x5, x6, x7, rs, rfl, rfl, by omega, way, .refl, fun _ u hu => absurd hu (Nat.not_lt_zero u)⟩ ?_ ?_
  · rintro i ρ st2 hi ⟨W', y5, y6, y7, rs', rfl, rfl, hrs', way', sub', hnew⟩
    refine ⟨_, rfl, ?_⟩
    simp only [List.set]
    have hn' := way'.sub.1
    have hnw : mIt (mCall M_news (mCons (mV 0) (mCons (mV 5) (mCons (mV 1) mNil)))) [some (webD W'), some (webD fs), some (.loc st.length), some (.int N), some (webD W), some (.int (i : Nat)), y6, y7] (st ++ [.lst rs']) = .ok ⟨(newsOf W' fs i).map prOf, none⟩ (st ++ [.lst rs']) :=
      itm_lst ((call_ok (cons_ok rfl (cons_ok rfl (one_ok rfl)))).trans (S_news way'.web (by omega) (by omega)))
    have hnl := newsOf_len (fs := fs) way'.web (u := i) (by omega)
    refine wp_for hnw (fun j ρ st' => ∃ W2 x6 x7 rs2, ρ = [some (webD W2), some (webD fs), some (.loc st.length), some (.int N), some (webD W), some (.int (i : Nat)), x6, x7] ∧ st' = st ++ [.lst rs2] ∧ rs2.length = rs'.length + 2 * j ∧ Way rows fs W2 ∧ Sub W' W2 ∧ ∀ p ∈ (newsOf W' fs i).take j, p.2 ∈ rowAt W2 p.1) ⟨W', y6, y7, rs', rfl, rfl, by omega, way', .refl, fun p hp => by rw [List.take_zero] at hp; cases hp⟩ ?_ ?_
    · rintro j d ρ st3 hd ⟨W2, z6, z7, rs2, rfl, rfl, hrs2, way2, sub2, htk⟩
      rw [List.getElem?_map] at hd
      obtain ⟨⟨v, w⟩, hp, rfl⟩ := Option.map_eq_some_iff.mp hd
      have hpm := newsOf_mem.mp (List.mem_of_getElem? hp)
      simp only at hpm
      have hvr := way'.web.rng i (by omega) v hpm.1
      have hj : j < (newsOf W' fs i).length := (List.getElem?_eq_some_iff.mp hp).1
      refine ⟨True.intro, _, rfl, ?_⟩
      simp only [List.set]
      have hg : ∀ r2 : List D, (st ++ [C.lst r2])[st.length]? = some (.lst r2) := fun r2 => get_mid st [] _
      have l1 : mLst (mCons (mTup (mCons (mC (.str "show")) (mCons (mV 5) (mCons (mV 6) (mCons (mV 7) mNil))))) (mCons (mTup (mCons (mC (.str "come")) (mCons (mV 6) (mCons (mV 7) mNil)))) mNil)) [some (webD W2), some (webD fs), some (.loc st.length), some (.int N), some (webD W), some (.int (i : Nat)), some (.int v), some (.int w)] (st ++ [.lst rs2])
          = .ok (.lst [.tup [.str "show", .int (i : Nat), .int v, .int w], .tup [.str "come", .int v, .int w]]) (st ++ [.lst rs2]) := by
        simp only [mLst, mTup, mCons, mNil, mV, mC, List.getElem?_cons_succ, List.getElem?_cons_zero, R.ok_bind, List.length_cons, List.length_nil]
        rw [guardR_pos (lim_of (by decide))]
        simp only [R.ok_bind]
        rw [guardR_pos (lim_of (by decide))]
        simp only [R.ok_bind, List.length_cons, List.length_nil]
        rw [guardR_pos (lim_of (by decide))]
      have l2 : iaddD (.loc st.length) (.lst [.tup [.str "show", .int (i : Nat), .int v, .int w], .tup [.str "come", .int v, .int w]]) (st ++ [.lst rs2]) = .ok (.loc st.length) (st ++ [.lst (rs2 ++ [.tup [.str "show", .int (i : Nat), .int v, .int w], .tup [.str "come", .int v, .int w]])]) := by
        rw [iaddD_loc, lstOf_loc (hg rs2)]
        simp only [ofOpt_some, itemsL_lst, List.length_cons, List.length_nil]
        rw [guardR_pos (lim_of (by omega)), set_mid]
      have a1 : mAug 2 iaddD (mLst (mCons (mTup (mCons (mC (.str "show")) (mCons (mV 5) (mCons (mV 6) (mCons (mV 7) mNil))))) (mCons (mTup (mCons (mC (.str "come")) (mCons (mV 6) (mCons (mV 7) mNil)))) mNil))) [some (webD W2), some (webD fs), some (.loc st.length), some (.int N), some (webD W), some (.int (i : Nat)), some (.int v), some (.int w)] (st ++ [.lst rs2])
          = .nx [some (webD W2), some (webD fs), some (.loc st.length), some (.int N), some (webD W), some (.int (i : Nat)), some (.int v), some (.int w)] (st ++ [.lst (rs2 ++ [.tup [.str "show", .int (i : Nat), .int v, .int w], .tup [.str "come", .int v, .int w]])]) := by
        simp only [mAug, List.getElem?_cons_succ, List.getElem?_cons_zero]
        rw [l1]
        simp only [O.of_ok]
        rw [l2]
        rfl
      rw [seq_nx a1, set_ok ((call_ok (cons_ok rfl (cons_ok rfl (one_ok rfl)))).trans (S_with way2.web (by have := way2.sub.1; omega)))]
      simp only [List.set, wp_nx]
      have hv2 : 0 ≤ v ∧ v < (W2.length : Int) := by have := way2.sub.1; omega
      have cvw : Clo rows fs v w := by
        have c1 := way'.clo i (by omega) v hpm.1
        rcases hpm.2.1 with z | z
        · exact .step c1 (way'.clo i (by omega) w z) hpm.2.2.1 hpm.2.2.2.1
        · rw [z] at hpm ⊢
          exact .own c1 hpm.2.2.1 hpm.2.2.2.1
      refine ⟨_, _, _, _, rfl, rfl, ?_, way2.add h hf hl (by omega) cvw, sub2.trans (sub_with hv2), fun p hp2 => ?_⟩
      · rw [List.length_append, hrs2]
        simp only [List.length_cons, List.length_nil]
        omega
      · rw [List.take_add_one, hp] at hp2
        have hp0 : 0 ≤ p.1 := by
          have pm : p ∈ newsOf W' fs i := by
            rcases List.mem_append.mp hp2 with z | z
            · exact List.mem_of_mem_take z
            · rw [List.mem_singleton.mp z]; exact List.mem_of_getElem? hp
          exact (way'.web.rng i (by omega) p.1 (newsOf_mem.mp pm).1).1
        refine (withC_mem hv2 hp0).mpr ?_
        rcases List.mem_append.mp hp2 with z | z
        · exact .inl (htk p z)
        · have e : p = (v, w) := List.mem_singleton.mp z
          rw [e]
          exact .inr ⟨rfl, rfl⟩
    · rintro ρ st3 ⟨W2, z6, z7, rs2, rfl, rfl, hrs2, way2, sub2, htk⟩
      refine ⟨True.intro, W2, _, _, _, rs2, rfl, rfl, ?_, way2, sub'.trans sub2, fun e u hu => ?_⟩
      · rw [hrs2, List.length_map]
        omega
      · have e1 : W' = W := web_ext way'.web way.web (by rw [e] at sub2; exact sub2) sub'
        rcases Nat.lt_or_ge u i with z | z
        · exact hnew e1 u z
        · have eu : u = i := by omega
          subst eu
          rw [List.length_map, List.take_length] at htk
          rw [e, e1] at htk
          refine List.eq_nil_iff_forall_not_mem.mpr fun p hp => ?_
          exact (newsOf_mem.mp hp).2.2.2.2 (htk p hp)
  · exact fun ρ st h => h
theorem S_spread {rows fs : List (List Int)} {st : Sto} (h : IsWeb rows) (hf : InRange fs) (hl : fs.length = rows.length) : ∃ rs, M_spread [webD rows, webD fs] st = .ok (.tup [.loc st.length, webD (widOf rows fs)]) (st ++ [.lst rs]) := by
  classical
  have h9 := h.few
  have key : (toR ((mSeq (mSet 2 (mLstM mNil))
    (mSeq (mSet 3 (mCall lenD (mCons (mV 0) mNil)))
    (mSeq (mSet 4 (mC .non))
    (mSeq (mWhile (mTst (mBin neD (mV 0) (mV 4))) (mSeq (mSet 4 (mV 0))
    (mFor (mItA rng1R (mCons (mV 3) mNil)) (.nm 5) (mFor (mIt (mCall M_news (mCons (mV 0) (mCons (mV 5) (mCons (mV 1) mNil))))) (.tp [(.nm 6), (.nm 7)]) (mSeq (mAug 2 iaddD (mLst (mCons (mTup (mCons (mC (.str "show")) (mCons (mV 5) (mCons (mV 6) (mCons (mV 7) mNil))))) (mCons (mTup (mCons (mC (.str "come")) (mCons (mV 6) (mCons (mV 7) mNil)))) mNil))))
    (mSet 0 (mCall M_with_card (mCons (mV 0) (mCons (mV 6) (mCons (mV 7) mNil))))))))))
    (mRet (mTup (mCons (mV 2) (mCons (mV 0) mNil)))))))) [some (webD rows), some (webD fs), none, none, none, none, none, none] st)).post (fun d st' => ∃ rs, d = .tup [.loc st.length, webD (widOf rows fs)] ∧ st' = st ++ [.lst rs]) (fun _ _ => False) := by
    refine toR_post ?_
    rw [seq_nx (set_ok (d := .loc st.length) (st1 := st ++ [.lst []]) (by
      simp only [mLstM, mNil, R.ok_bind]
      rw [guardR_pos (by exact lim_of (by decide))]))]
    rw [seq_nx (set_ok ((call_ok (one_ok rfl)).trans webD_len))]
    rw [seq_nx (set_ok (m := mC .non) rfl)]
    simp only [List.set]
    generalize hN : (rows.length : Int) = N
    refine wp_seq ?_
    refine wp_while (fun k ρ st' => ∃ W B x5 x6 x7 rs, ρ = [some (webD W), some (webD fs), some (.loc st.length), some (.int N), some B, x5, x6, x7] ∧ st' = st ++ [.lst rs] ∧ rs.length ≤ 180 * 9 * (200 - k) ∧ k ≤ 200 ∧ Way rows fs W ∧
      ((B = .non ∧ k = 2 * (82 - cnt W) + 2) ∨ ∃ b, B = webD b ∧ Sub b W ∧ (b = W → ClosedW W fs) ∧ ((b = W ∧ k = 2 * (82 - cnt W)) ∨ (b ≠ W ∧ k = 2 * (82 - cnt W) + 1)))) _ ⟨rows, .non, none, none, none, [], rfl, rfl, Nat.zero_le _, ?_, ⟨h, .refl, fun u hu w hw => .base (by omega) hw⟩, .inl ⟨rfl, rfl⟩⟩ ?_
    · omega
    rintro k ρ st' ⟨W, B, x5, x6, x7, rs, rfl, rfl, hrs, hk2, way, hB⟩
    have hn := way.sub.1
    have hc81 := cnt_le way.web.few
    have htest : mTst (mBin neD (mV 0) (mV 4)) [some (webD W), some (webD fs), some (.loc st.length), some (.int N), some B, x5, x6, x7] (st ++ [.lst rs]) = .ok (decide (B ≠ webD W)) (st ++ [.lst rs]) := by
      refine tst_ok ((bin_ok rfl rfl).trans ?_)
      rcases hB with ⟨rfl, _⟩ | ⟨b, rfl, _⟩
      · rw [neD_webN, decide_eq_true (show D.non ≠ webD W from fun z => by unfold webD at z; cases z)]
      · rw [neD_web]
        congr 2
        have inj : webD b = webD W ↔ W = b := ⟨fun e => by
          unfold webD rowsL at e
          injection e with e
          have inj2 : Function.Injective rowD' := fun a b e => by
            unfold rowD' at e
            injection e with e
            exact (List.map_inj_right (fun x y e => by injection e)).mp e
          exact ((List.map_inj_right (fun x y e => inj2 e)).mp e).symm, fun e => by rw [e]⟩
        rw [Bool.eq_iff_iff]
        simp [inj]
    rw [htest]
    simp only [post_okR]
    by_cases hBW : B = webD W
    · rw [decide_eq_false (by simp [hBW])]
      simp only [Bool.false_eq_true, if_false]
      rcases hB with ⟨rfl, _⟩ | ⟨b, hb, sb, cb, hk⟩
      · cases hBW
      · have e : b = W := by
          by_cases z : b = W
          · exact z
          · rw [hBW] at hb
            exfalso
            refine z ?_
            unfold webD rowsL at hb
            injection hb with hb
            exact ((List.map_inj_right (fun x y e => by unfold rowD' at e; injection e with e; exact (List.map_inj_right (fun x y e => by injection e)).mp e)).mp hb).symm
        have cl := cb e
        refine (show (mRet (mTup (mCons (mV 2) (mCons (mV 0) mNil))) _ _ : O).wp _ from ?_)
        rw [ret_ok (d := .tup [.loc st.length, webD W]) (st1 := st ++ [.lst rs]) (by
          simp only [mTup, mCons, mNil, mV, List.getElem?_cons_succ, List.getElem?_cons_zero, R.ok_bind]
          rw [guardR_pos (lim_of (by show 2 ≤ 1000000; decide))])]
        exact ⟨rs, by rw [wid_eq h hf hl way.web way.sub cl way.clo], rfl⟩
    · rw [decide_eq_true (by simpa using hBW)]
      simp only [if_true]
      rw [seq_nx (set_ok (m := mV 0) rfl)]
      simp only [List.set]
      refine wp_mono (spread_round hN h hf hl way (by omega)) ?_ (fun _ _ z => z.elim) (fun _ _ z => z.elim) (fun _ _ z => z.elim) (fun _ _ z => z.elim)
      · rintro ρ st2 ⟨W', y5, y6, y7, rs', rfl, rfl, hrs', way', sub', hnew⟩
        have cl : W = W' → ClosedW W' fs := fun e => by
          have hz := hnew e.symm
          rw [← e]
          intro u v hu hv w h1 h2 ne hm
          by_cases q : w ∈ rowAt W (v : Nat)
          · exact q
          · have hm2 : ((v : Int), w) ∈ newsOf W fs u := newsOf_mem.mpr ⟨h1, h2, ne, hm, q⟩
            rw [hz u (by omega)] at hm2
            cases hm2
        have kk : k ≥ 2 * (82 - cnt W) + 1 := by
          rcases hB with ⟨_, hk⟩ | ⟨b, hb, _, _, hk⟩
          · omega
          · rcases hk with ⟨e, _⟩ | ⟨_, hk⟩
            · exact absurd (by rw [hb, e]) hBW
            · omega
        by_cases e : W = W'
        · refine ⟨2 * (82 - cnt W'), by rw [← e]; omega, W', _, _, _, _, rs', rfl, rfl, ?_, by omega, way', .inr ⟨W, rfl, sub', cl, .inl ⟨e, rfl⟩⟩⟩
          rw [← e]
          have : rs'.length ≤ 180 * 9 * (200 - k) + 180 * 9 := by omega
          omega
        · have lt := cnt_lt way.web way'.web sub' e
          have le81 := cnt_le way'.web.few
          refine ⟨2 * (82 - cnt W') + 1, by omega, W', _, _, _, _, rs', rfl, rfl, ?_, by omega, way', .inr ⟨W, rfl, sub', cl, .inr ⟨e, rfl⟩⟩⟩
          omega
  obtain ⟨d, st', e, rs, rfl, rfl⟩ := post_ex key
  refine ⟨rs, ?_⟩
  unfold M_spread
  rw [mDef_eq (k := 2) (ds := [webD rows, webD fs]) rfl]
  show gc st (toR _) = _
  erw [e]
  unfold gc
  simp only
  rw [if_neg]
  intro z
  exact absurd (show st.length < st.length from z.1.1) (Nat.lt_irrefl _)
end Pl

set_option maxHeartbeats 4000000
/-! widened, bar, is_led, leads, full, lack, finds -/
namespace Pl
open PySem PySem.Spec PyProof.Rows L2 Hn
theorem findsOf_inr {rows : List (List Int)} : InRange (findsOf rows) := fun r hr w hw => by
  unfold findsOf at hr
  obtain ⟨u, hu, rfl⟩ := List.mem_map.mp hr
  unfold foundOf at hw
  obtain ⟨a, ha, rfl⟩ := List.mem_map.mp hw
  have := List.mem_range.mp (List.mem_filter.mp ha).1
  rw [findsOf_len]
  omega
/-- the widest web within what a wish's people find -/
noncomputable def wideOf (rows ws : List (List Int)) : List (List Int) := widOf rows (findsOf ws)
section
variable {rows ws : List (List Int)} {st : Sto}
theorem S_widened (h : IsWeb rows) (k : IsWeb ws) (hl : ws.length = rows.length) : M_widened [webD rows, webD ws] st = .ok (webD (wideOf rows ws)) st := by
  obtain ⟨rs, e⟩ := S_spread (st := st) (fs := findsOf ws) h findsOf_inr (by rw [findsOf_len]; exact hl)
  unfold M_widened
  refine def_rtA (x := [.lst rs]) rfl ?_ cl_web
  refine (seq_nx (ρ1 := [some (webD rows), some (webD ws), some (.loc st.length), some (webD (wideOf rows ws))]) (st1 := st ++ [.lst rs]) ?_).trans (ret_ok rfl)
  unfold mAsg
  rw [show (mCall M_spread (mCons (mV 0) (mCons (mCall M_all_found (mCons (mV 1) mNil)) mNil))) (List.map some [webD rows, webD ws] ++ List.replicate (4 - 2) none) st = .ok (.tup [.loc st.length, webD (wideOf rows ws)]) (st ++ [.lst rs]) from
    (call_ok (cons_ok rfl (one_ok ((call_ok (one_ok rfl)).trans (S_all .web k.inr (by have := k.few; omega)))))).trans e]
  rfl
noncomputable def barD (o1 o2 : Option (Int × Int)) : D := match o1 with
  | some p => .tup [.str "found", .int p.1, .int p.2]
  | none => match o2 with
    | some p => .tup [.str "card", .int p.1, .int p.2]
    | none => .non
noncomputable def barOf (rows ws : List (List Int)) : D := barD (firstB (findsOf rows) (findsOf ws)) (firstB ws (wideOf rows ws))
theorem S_bar (h : IsWeb rows) (k : IsWeb ws) (hl : ws.length = rows.length) : M_bar [webD rows, webD ws] st = .ok (barOf rows ws) st := by
  have h9 := h.few
  unfold M_bar
  refine def_rt rfl ?_
  have c1 : mCall M_first_beyond (mCons (mCall M_all_found (mCons (mV 0) mNil)) (mCons (mCall M_all_found (mCons (mV 1) mNil)) mNil)) [some (webD rows), some (webD ws), none, none] st = .ok (pairD (firstB (findsOf rows) (findsOf ws))) st :=
    (call_ok (cons_ok ((call_ok (one_ok rfl)).trans (S_all .web h.inr (by omega))) (one_ok ((call_ok (one_ok rfl)).trans (S_all .web k.inr (by omega)))))).trans (S_beyond (by rw [findsOf_len]; omega) (by rw [findsOf_len, findsOf_len, hl]))
  refine (seq_nx (set_ok c1)).trans ?_
  unfold barOf
  cases e1 : firstB (findsOf rows) (findsOf ws) with
  | some p =>
    refine seq_rt ((ifS_t (tst_ok (b := true) rfl)).trans (ret_ok ?_))
    simp only [mTup, mCons, mStar, mNil, mC, mV, pairD, List.set, List.map_cons, List.map_nil, List.cons_append, List.getElem?_cons_succ, List.getElem?_cons_zero, R.ok_bind, itemsS_tup, ofOpt_some]
    rw [guardR_pos (lim_of (by show 3 ≤ 1000000; decide))]
    rfl
  | none =>
    refine (seq_nx (ifS_f (tst_ok (b := false) rfl))).trans ?_
    have c2 : mCall M_first_beyond (mCons (mV 1) (mCons (mCall M_widened (mCons (mV 0) (mCons (mV 1) mNil))) mNil)) [some (webD rows), some (webD ws), some .non, none] st = .ok (pairD (firstB ws (wideOf rows ws))) st :=
      (call_ok (cons_ok rfl (one_ok ((call_ok (cons_ok rfl (one_ok rfl))).trans (S_widened h k hl))))).trans (S_beyond (by omega) (by unfold wideOf; rw [widOf_len, hl]))
    refine (seq_nx (set_ok c2)).trans ?_
    cases e2 : firstB ws (wideOf rows ws) with
    | some p =>
      refine seq_rt ((ifS_t (tst_ok (b := true) rfl)).trans (ret_ok ?_))
      simp only [mTup, mCons, mStar, mNil, mC, mV, pairD, List.set, List.map_cons, List.map_nil, List.cons_append, List.getElem?_cons_succ, List.getElem?_cons_zero, R.ok_bind, itemsS_tup, ofOpt_some]
      rw [guardR_pos (lim_of (by show 3 ≤ 1000000; decide))]
      rfl
    | none => exact (seq_nx (ifS_f (tst_ok (b := false) rfl))).trans (ret_ok rfl)
theorem S_led (h : IsWeb rows) (k : IsWeb ws) (hl : ws.length = rows.length) : M_is_led [webD rows, webD ws, .bl false] st = .ok (.bl (isNon (barOf rows ws))) st := by
  unfold M_is_led
  refine def_rt rfl ((seq_nx (ifS_f (tru_bl rfl))).trans (ret_ok ((bin_ok ((call_ok (cons_ok rfl (one_ok rfl))).trans (S_bar h k hl)) rfl).trans ?_)))
  simp only [isD, Bool.xor_false]
theorem S_leads (h : IsWeb rows) (k : IsWeb ws) (hl : ws.length = rows.length) : M_leads [webD rows, webD ws, .bl false] st = .ok (.bl (isNon (barOf rows ws))) st :=
  def_rt rfl ((seq_nx (expr_ok ((call_ok (cons_ok rfl (one_ok rfl))).trans (S_check_webs h k hl)))).trans (ret_ok ((call_ok (cons_ok rfl (cons_ok rfl (one_ok rfl)))).trans (S_led h k hl))))
theorem S_finds (h : IsWeb rows) : M_finds [webD rows] st = .ok (webD (findsOf rows)) st :=
  def_rt rfl ((seq_nx (expr_ok ((call_ok (one_ok rfl)).trans (S_check_web h)))).trans (ret_ok ((call_ok (one_ok rfl)).trans (S_all .web h.inr (by have := h.few; omega)))))
noncomputable def fullOf (rows ws : List (List Int)) : D := if firstB (findsOf rows) (findsOf ws) = none then webD (wideOf rows ws) else .non
theorem S_full (h : IsWeb rows) (k : IsWeb ws) (hl : ws.length = rows.length) : M_full [webD rows, webD ws] st = .ok (fullOf rows ws) st := by
  have h9 := h.few
  unfold M_full
  refine def_rt rfl ((seq_nx (expr_ok ((call_ok (cons_ok rfl (one_ok rfl))).trans (S_check_webs h k hl)))).trans ?_)
  have c1 : mCall M_first_beyond (mCons (mCall M_all_found (mCons (mV 0) mNil)) (mCons (mCall M_all_found (mCons (mV 1) mNil)) mNil)) [some (webD rows), some (webD ws)] st = .ok (pairD (firstB (findsOf rows) (findsOf ws))) st :=
    (call_ok (cons_ok ((call_ok (one_ok rfl)).trans (S_all .web h.inr (by omega))) (one_ok ((call_ok (one_ok rfl)).trans (S_all .web k.inr (by omega)))))).trans (S_beyond (by rw [findsOf_len]; omega) (by rw [findsOf_len, findsOf_len, hl]))
  have t : mTst (mBin (isD true) (mCall M_first_beyond (mCons (mCall M_all_found (mCons (mV 0) mNil)) (mCons (mCall M_all_found (mCons (mV 1) mNil)) mNil))) (mC .non)) [some (webD rows), some (webD ws)] st = .ok (!isNon (pairD (firstB (findsOf rows) (findsOf ws)))) st :=
    tst_ok ((bin_ok c1 rfl).trans (by simp only [isD, Bool.xor_true]))
  unfold fullOf
  cases e1 : firstB (findsOf rows) (findsOf ws) with
  | some p =>
    rw [e1] at t
    rw [if_neg (by simp)]
    exact seq_rt ((ifS_t t).trans (ret_ok rfl))
  | none =>
    rw [e1] at t
    rw [if_pos rfl]
    exact (seq_nx (ifS_f t)).trans (ret_ok ((call_ok (cons_ok rfl (one_ok rfl))).trans (S_widened h k hl)))
theorem S_lack (h : IsWeb rows) (k : IsWeb ws) (hl : ws.length = rows.length) : M_lack [webD rows, webD ws] st = .ok (barOf rows ws) st :=
  def_rt rfl ((seq_nx (expr_ok ((call_ok (cons_ok rfl (one_ok rfl))).trans (S_check_webs h k hl)))).trans (ret_ok ((call_ok (cons_ok rfl (one_ok rfl))).trans (S_bar h k hl))))
end
end Pl

set_option maxHeartbeats 4000000
/-! _law_full -/
namespace Pl
open PySem PySem.Spec PyProof.Rows L2 Hn
/-- the cards on their way to the widest web -/
structure LC (rows fs L : List (List Int)) : Prop where
  nd : L.Nodup
  base : ∀ x ∈ cardsOf rows, x ∈ L
  clo : ∀ x ∈ L, ∃ (u : Nat) (w : Int), u < rows.length ∧ x = [(u : Int), w] ∧ Clo rows fs (u : Nat) w
section
variable {rows fs L : List (List Int)}
theorem cardsOf_nd (h : IsWeb rows) : (cardsOf rows).Nodup := by
  unfold cardsOf
  refine List.pairwise_flatMap.mpr ⟨fun u hu => ?_, ?_⟩
  · unfold cardRow
    rw [List.pairwise_map]
    refine (asc_nodup (h.up u (List.mem_range.mp hu))).imp fun {a b} ne e => ne ?_
    injection e with _ e
    injection e
  · refine List.pairwise_lt_range.imp_of_mem fun {a b} ha hb lt => ?_
    intro x hx y hy e
    unfold cardRow at hx hy
    obtain ⟨w, _, rfl⟩ := List.mem_map.mp hx
    obtain ⟨w', _, rfl⟩ := List.mem_map.mp hy
    injection e with e _
    omega
theorem LC.start (h : IsWeb rows) : LC rows fs (cardsOf rows) := ⟨cardsOf_nd h, fun _ h => h, fun x hx => by
  obtain ⟨u, w, hu, hw, rfl⟩ := cardsOf_mem.mp hx
  exact ⟨u, w, hu, rfl, .base (by omega) hw⟩⟩
theorem LC.len (h : IsWeb rows) (hf : InRange fs) (hl : fs.length = rows.length) (c : LC rows fs L) : L.length ≤ 81 := by
  have sub : L ⊆ (cells rows.length).map fun p => [(p.1 : Int), (p.2 : Int)] := fun x hx => by
    obtain ⟨u, w, hu, rfl, k⟩ := c.clo x hx
    have r := (k.rng h hf hl).2.1
    exact List.mem_map.mpr ⟨(u, w.toNat), mem_cells.mpr ⟨hu, by omega⟩, by simp only; rw [show ((w.toNat : Nat) : Int) = w by omega]⟩
  have z := List.Nodup.length_le_of_subset c.nd sub
  rw [List.length_map, len_cells] at z
  have := Nat.mul_le_mul h.few h.few
  omega
theorem LC.add (c : LC rows fs L) {v : Nat} {w : Int} (hv : v < rows.length) (n : [(v : Int), w] ∉ L) (k : Clo rows fs (v : Nat) w) : LC rows fs (L ++ [[(v : Int), w]]) :=
  ⟨List.nodup_append.mpr ⟨c.nd, by simp, fun a ha b hb e => n (by rw [← List.mem_singleton.mp hb, ← e]; exact ha)⟩, fun x hx => List.mem_append_left _ (c.base x hx), fun x hx => by
    rcases List.mem_append.mp hx with z | z
    · exact c.clo x z
    · exact ⟨v, w, hv, List.mem_singleton.mp z, k⟩⟩
/-- nothing more to be shown by these cards -/
def OkL (fs L : List (List Int)) (v w : Int) : Prop := ¬ (w ≠ v ∧ [v, w] ∉ L ∧ w ∈ rowAt fs v)
def ClosedL (fs L : List (List Int)) : Prop := ∀ u v : Int, [u, v] ∈ L → ∀ w : Int, (w = u ∨ [u, w] ∈ L) → OkL fs L v w
theorem LC.done (h : IsWeb rows) (hf : InRange fs) (hl : fs.length = rows.length) (c : LC rows fs L) (k : ClosedL fs L) : lwebOf L rows.length = widOf rows fs := by
  have inl : ∀ u : Nat, ∀ w : Int, [(u : Int), w] ∈ L → Clo rows fs (u : Nat) w := fun u w hx => by
    obtain ⟨u', w', _, e, q⟩ := c.clo _ hx
    injection e with e1 e
    injection e with e2 _
    rw [e1, e2]
    exact q
  have web : IsWeb (lwebOf L rows.length) := lwebOf_web h.pos h.few fun u _ hm => ((inl u _ hm).rng h hf hl).2.2 rfl
  refine wid_eq h hf hl web ⟨lwebOf_len.symm, fun u hu w hw => ?_⟩ (fun u v hu hv w h1 h2 ne hm => ?_) fun u hu w hw => inl u w ((lwebOf_mem hu w).mp hw).2
  · refine (lwebOf_mem hu w).mpr ⟨?_, c.base _ (cardsOf_mem.mpr ⟨u, w, hu, hw, rfl⟩)⟩
    have := h.rng u hu w hw
    exact ⟨this.1, this.2.1⟩
  · rw [lwebOf_len] at hu hv
    have a1 := ((lwebOf_mem hu _).mp h1).2
    have a2 : w = (u : Int) ∨ [(u : Int), w] ∈ L := h2.elim (fun z => .inr ((lwebOf_mem hu _).mp z).2) .inl
    have a3 := k u v a1 w a2
    have hr := row_range hf hm
    rw [hl] at hr
    refine (lwebOf_mem hv w).mpr ⟨hr, Classical.byContradiction fun z => a3 ⟨ne, z, hm⟩⟩
end
/-- whom u may show: themselves, and whose cards they hold -/
def nxt (L : List (List Int)) (u : Int) : List Int := u :: (L.filter fun x => decide (x.getD 0 0 = u)).map fun x => x.getD 1 0
theorem nxt_mem {L : List (List Int)} {u w : Int} (h : ∀ x ∈ L, ∃ a b : Int, x = [a, b]) : w ∈ nxt L u ↔ w = u ∨ [u, w] ∈ L := by
  unfold nxt
  rw [List.mem_cons]
  refine or_congr Iff.rfl ?_
  simp only [List.mem_map, List.mem_filter, decide_eq_true_eq]
  constructor
  · rintro ⟨x, ⟨hx, e1⟩, e2⟩
    obtain ⟨a, b, rfl⟩ := h x hx
    have e3 : a = u := e1
    have e4 : b = w := e2
    rw [← e3, ← e4]
    exact hx
  · intro hx
    exact ⟨_, ⟨hx, rfl⟩, rfl⟩
/-- [u] + [pair[1] for pair in cards if pair[0] == u] -/
theorem nxt_ok {L : List (List Int)} {mu mc : Env → Sto → R D} {ρ : Env} {st : Sto} {c i : Nat} {u : Int} (hu : ∀ y, mu (ρ.set i y) st = .ok (.int u) st) (hu0 : mu ρ st = .ok (.int u) st) (hmc : mc ρ st = .ok (.loc c) st) (hL : st[c]? = some (.lst (L.map rowD'))) (h : ∀ x ∈ L, ∃ a b : Int, x = [a, b]) (hl : L.length ≤ 100) (hi : i < ρ.length) :
    mBin addD (mLst (mCons mu mNil)) (mComp (mIt mc) [i] (.nm i) (mTst (mBin eqD (mBin ixD (mV i) (mC (.int 0))) mu)) (mBin ixD (mV i) (mC (.int 1)))) ρ st = .ok (.lst ((nxt L u).map D.int)) st := by
  have c1 : mComp (mIt mc) [i] (.nm i) (mTst (mBin eqD (mBin ixD (mV i) (mC (.int 0))) mu)) (mBin ixD (mV i) (mC (.int 1))) ρ st = .ok (.lst (((L.filter fun x => decide (x.getD 0 0 = u)).map fun x => x.getD 1 0).map D.int)) st := by
    rw [mComp_pure (fun d => match d with | .tup (.int a :: _) => decide (a = u) | _ => false) (fun d => match d with | .tup (_ :: b :: _) => b | d => d) (itm_loc hmc hL) hL (by show (L.map rowD').length ≤ lim; rw [List.length_map]; exact lim_of (by omega)) (fun d hd => by
      obtain ⟨x, hx, rfl⟩ := List.mem_map.mp hd
      obtain ⟨a, b, rfl⟩ := h x hx
      have hset : ((wipeD ρ [i]).set i (some (rowD' [a, b]))) = ρ.set i (some (rowD' [a, b])) := by
        simp only [wipeD, List.set_set]
      refine ⟨_, rfl, ?_, fun _ => ?_⟩
      · rw [hset]
        have q : mBin ixD (mV i) (mC (.int 0)) (ρ.set i (some (rowD' [a, b]))) st = .ok (.int a) st := (bin_ok (x := rowD' [a, b]) (y := .int 0) (st1 := st) (st2 := st) (by simp only [mV, List.getElem?_set_self hi]) rfl).trans rfl
        exact tst_ok ((bin_ok q (hu _)).trans eqD_int)
      · rw [hset]
        exact (bin_ok (x := rowD' [a, b]) (y := .int 1) (st1 := st) (st2 := st) (by simp only [mV, List.getElem?_set_self hi]) rfl).trans rfl)]
    congr 2
    clear hL hl hmc hu hu0
    induction L with
    | nil => rfl
    | cons x L ih =>
      obtain ⟨a, b, rfl⟩ := h x List.mem_cons_self
      have ih := ih fun y hy => h y (List.mem_cons_of_mem _ hy)
      show ((rowD' [a, b] :: L.map rowD').filter _).map _ = _
      rw [List.filter_cons, List.filter_cons]
      by_cases e : a = u
      · simp only [show (match rowD' [a, b] with | .tup (.int a :: _) => decide (a = u) | _ => false) = true from decide_eq_true e, show decide (([a, b] : List Int).getD 0 0 = u) = true from decide_eq_true e, if_true, List.map_cons]
        congr 1
      · simp only [show (match rowD' [a, b] with | .tup (.int a :: _) => decide (a = u) | _ => false) = false from decide_eq_false e, show decide (([a, b] : List Int).getD 0 0 = u) = false from decide_eq_false e, Bool.false_eq_true, if_false]
        exact ih
  have l1 : mLst (mCons mu mNil) ρ st = .ok (.lst [.int u]) st := by
    unfold mLst
    rw [one_ok hu0]
    simp only [R.ok_bind, List.length_cons, List.length_nil]
    rw [guardR_pos (lim_of (by decide))]
  refine (bin_ok l1 c1).trans ?_
  rw [addD_lst, guardR_pos (by
    rw [List.length_map, List.length_map]
    have := List.length_filter_le (fun x : List Int => decide (x.getD 0 0 = u)) L
    simp only [List.length_cons, List.length_nil]
    exact lim_of (by omega))]
  rfl
end Pl

set_option maxHeartbeats 4000000
namespace Pl
open PySem PySem.Spec PyProof.Rows L2 Hn
theorem LC.pair {rows fs L : List (List Int)} (c : LC rows fs L) : ∀ x ∈ L, ∃ a b : Int, x = [a, b] := fun x hx => by
  obtain ⟨u, w, _, e, _⟩ := c.clo x hx
  exact ⟨_, _, e⟩
section
variable {rows ws F G : List (List Int)} {st : Sto}
abbrev env10 (rows ws F G : List (List Int)) (b : Nat) (ag : Bool) (x4 x5 x8 x9 : Option D) : Env := [some (webD rows), some (webD ws), some (webD F), some (webD G), x4, x5, some (.loc b), some (.bl ag), x8, x9]
theorem full_in (h : IsWeb rows) (hf : InRange F) (hl : F.length = rows.length) {L0 m1 : List (List Int)} (c1 : LC rows F (L0 ++ m1)) {u v : Int} (huv : [u, v] ∈ L0) {x5 x9 : Option D} :
    (mFor (mIt (mBin addD (mLst (mCons (mV 4) mNil)) (mComp (mIt (mV 6)) [9] (.nm 9) (mTst (mBin eqD (mBin ixD (mV 9) (mC (.int 0))) (mV 4))) (mBin ixD (mV 9) (mC (.int 1)))))) (.nm 5) (mIfS (mAnd (mTst (mBin neD (mV 5) (mV 8))) (mAnd (mTst (mBin (inD true) (mTup (mCons (mV 8) (mCons (mV 5) mNil))) (mV 6))) (mTst (mBin (inD false) (mV 5) (mBin ixD (mV 2) (mV 8)))))) (mSeq (mExpr (mMeth appD (mV 6) (mCons (mTup (mCons (mV 8) (mCons (mV 5) mNil))) mNil)))
    (mSet 7 (mC (.bl true)))) mNext) (env10 rows ws F G st.length (!m1.isEmpty) (some (.int u)) x5 (some (.int v)) x9) (st ++ [.lst ((L0 ++ m1).map rowD')])).wp
      { nx := fun ρ st' => ∃ m2 x5 x9, ρ = env10 rows ws F G st.length (!m2.isEmpty) (some (.int u)) x5 (some (.int v)) x9 ∧ st' = st ++ [.lst ((L0 ++ m2).map rowD')] ∧ LC rows F (L0 ++ m2) ∧ (m2 = [] → m1 = []) ∧ (m2 = [] → ∀ w ∈ nxt L0 u, OkL F L0 v w) } := by
  have len1 := c1.len h hf hl
  have hg := get_mid st [] (.lst ((L0 ++ m1).map rowD'))
  have hmi := itm_lst (nxt_ok (mu := mV 4) (mc := mV 6) (ρ := env10 rows ws F G st.length (!m1.isEmpty) (some (.int u)) x5 (some (.int v)) x9) (st := st ++ [.lst ((L0 ++ m1).map rowD')]) (c := st.length) (i := 9) (u := u) (fun y => rfl) rfl rfl hg c1.pair (by omega) (by show 9 < 10; decide))
  have inl : ∀ {a b : Int} {M : List (List Int)}, LC rows F M → [a, b] ∈ M → 0 ≤ a ∧ Clo rows F a b := fun {a b M} c hx => by
    obtain ⟨u', w', _, e, q⟩ := c.clo _ hx
    injection e with e1 e
    injection e with e2 _
    rw [e1, e2]
    exact ⟨by omega, q⟩
  have cuv := inl c1 (List.mem_append_left _ huv)
  have rv := (cuv.2.rng h hf hl).2.1
  refine wp_for hmi (fun j ρ st' => ∃ m2 x5 x9, ρ = env10 rows ws F G st.length (!m2.isEmpty) (some (.int u)) x5 (some (.int v)) x9 ∧ st' = st ++ [.lst ((L0 ++ m2).map rowD')] ∧ LC rows F (L0 ++ m2) ∧ (m2 = [] → m1 = []) ∧ (m2 = [] → ∀ w ∈ (nxt (L0 ++ m1) u).take j, OkL F L0 v w)) ⟨m1, _, _, rfl, rfl, c1, id, fun _ w hw => by rw [List.take_zero] at hw; cases hw⟩ ?_ ?_
  · rintro j d ρ st' hd ⟨m2, y5, y9, rfl, rfl, c2, hm, hok⟩
    rw [List.getElem?_map] at hd
    obtain ⟨w, hw, rfl⟩ := Option.map_eq_some_iff.mp hd
    have hwm := (nxt_mem c1.pair).mp (List.mem_of_getElem? hw)
    have len2 := c2.len h hf hl
    have hg2 := get_mid st [] (.lst ((L0 ++ m2).map rowD'))
    refine ⟨True.intro, _, rfl, ?_⟩
    simp only [List.set]
    have t1 : mTst (mBin neD (mV 5) (mV 8)) (env10 rows ws F G st.length (!m2.isEmpty) (some (.int u)) (some (.int w)) (some (.int v)) y9) (st ++ [.lst ((L0 ++ m2).map rowD')]) = .ok (!decide (w = v)) (st ++ [.lst ((L0 ++ m2).map rowD')]) := tst_ok ((bin_ok rfl rfl).trans neD_int)
    have t2 : mTst (mBin (inD true) (mTup (mCons (mV 8) (mCons (mV 5) mNil))) (mV 6)) (env10 rows ws F G st.length (!m2.isEmpty) (some (.int u)) (some (.int w)) (some (.int v)) y9) (st ++ [.lst ((L0 ++ m2).map rowD')]) = .ok (!decide ([v, w] ∈ L0 ++ m2)) (st ++ [.lst ((L0 ++ m2).map rowD')]) := tst_ok ((bin_ok (tup2 rfl) rfl).trans ((inD_rowsLoc hg2).trans (by rw [Bool.xor_true])))
    have t3 : mTst (mBin (inD false) (mV 5) (mBin ixD (mV 2) (mV 8))) (env10 rows ws F G st.length (!m2.isEmpty) (some (.int u)) (some (.int w)) (some (.int v)) y9) (st ++ [.lst ((L0 ++ m2).map rowD')]) = .ok (decide (w ∈ rowAt F v)) (st ++ [.lst ((L0 ++ m2).map rowD')]) := tst_ok ((bin_ok rfl ((bin_ok rfl rfl).trans (webD_ix rv.1 (by omega) _))).trans (inD_row.trans (by rw [Bool.xor_false])))
    have test : mAnd (mTst (mBin neD (mV 5) (mV 8))) (mAnd (mTst (mBin (inD true) (mTup (mCons (mV 8) (mCons (mV 5) mNil))) (mV 6))) (mTst (mBin (inD false) (mV 5) (mBin ixD (mV 2) (mV 8))))) (env10 rows ws F G st.length (!m2.isEmpty) (some (.int u)) (some (.int w)) (some (.int v)) y9) (st ++ [.lst ((L0 ++ m2).map rowD')])
        = .ok (decide (w ≠ v ∧ [v, w] ∉ L0 ++ m2 ∧ w ∈ rowAt F v)) (st ++ [.lst ((L0 ++ m2).map rowD')]) := by
      by_cases h1 : w = v
      · rw [decide_eq_true h1] at t1
        rw [and_f t1]
        simp [h1]
      · rw [decide_eq_false h1] at t1
        rw [and_t t1]
        by_cases h2 : [v, w] ∈ L0 ++ m2
        · rw [decide_eq_true h2] at t2
          rw [and_f t2, decide_eq_false fun z => z.2.1 h2]
        · rw [decide_eq_false h2] at t2
          rw [and_t t2, t3]
          congr 1
          rw [Bool.eq_iff_iff, decide_eq_true_iff, decide_eq_true_iff]
          exact ⟨fun z => ⟨h1, h2, z⟩, fun z => z.2.2⟩
    by_cases hc : w ≠ v ∧ [v, w] ∉ L0 ++ m2 ∧ w ∈ rowAt F v
    · rw [decide_eq_true hc] at test
      rw [ifS_t test]
      have a1 : mExpr (mMeth appD (mV 6) (mCons (mTup (mCons (mV 8) (mCons (mV 5) mNil))) mNil)) (env10 rows ws F G st.length (!m2.isEmpty) (some (.int u)) (some (.int w)) (some (.int v)) y9) (st ++ [.lst ((L0 ++ m2).map rowD')]) = .nx (env10 rows ws F G st.length (!m2.isEmpty) (some (.int u)) (some (.int w)) (some (.int v)) y9) (st ++ [.lst ((L0 ++ (m2 ++ [[v, w]])).map rowD')]) := by
        refine expr_ok (d := .non) ?_
        unfold mMeth
        rw [show mV 6 (env10 rows ws F G st.length (!m2.isEmpty) (some (.int u)) (some (.int w)) (some (.int v)) y9) (st ++ [C.lst ((L0 ++ m2).map rowD')]) = .ok (.loc st.length) (st ++ [.lst ((L0 ++ m2).map rowD')]) from rfl]
        simp only [R.ok_bind, itemsL_loc hg2, ofOpt_some]
        rw [one_ok (tup2 rfl)]
        simp only [R.ok_bind, appD, lstOf_loc hg2, ofOpt_some]
        rw [guardR_pos (by rw [List.length_map]; exact lim_of (by omega)), set_mid]
        simp
      rw [seq_nx a1, set_ok (m := mC (.bl true)) rfl]
      simp only [wp_nx, List.set]
      have cvw : Clo rows F v w := by
        rcases hwm with z | z
        · rw [z] at hc ⊢
          exact .own cuv.2 hc.1 hc.2.2
        · exact .step cuv.2 (inl c1 z).2 hc.1 hc.2.2
      have ev : ((v.toNat : Nat) : Int) = v := by omega
      refine ⟨m2 ++ [[v, w]], some (.int w), y9, by rw [show (m2 ++ [[v, w]]).isEmpty = false by simp]; rfl, rfl, ?_, fun z => absurd z (by simp), fun z => absurd z (by simp)⟩
      rw [← List.append_assoc, ← ev]
      exact c2.add (by omega) (by rw [ev]; exact hc.2.1) (by rw [ev]; exact cvw)
    · rw [decide_eq_false hc] at test
      rw [ifS_fN test]
      simp only [wp_nx]
      refine ⟨m2, _, _, rfl, rfl, c2, hm, fun z x hx => ?_⟩
      rw [List.take_add_one, hw] at hx
      rcases List.mem_append.mp hx with q | q
      · exact hok z x q
      · rw [List.mem_singleton.mp q]
        rw [z, List.append_nil] at hc
        exact hc
  · rintro ρ st' ⟨m2, y5, y9, rfl, rfl, c2, hm, hok⟩
    refine ⟨True.intro, m2, _, _, rfl, rfl, c2, hm, fun z w hw => ?_⟩
    refine hok z w ?_
    rw [List.length_map, List.take_length, hm z, List.append_nil]
    exact hw
theorem full_pass (h : IsWeb rows) (hf : InRange F) (hl : F.length = rows.length) {L0 : List (List Int)} (c1 : LC rows F L0) {x4 x5 x8 x9 : Option D} :
    (mFor (mIt (mCall listD (mCons (mV 6) mNil))) (.tp [(.nm 4), (.nm 8)]) (mFor (mIt (mBin addD (mLst (mCons (mV 4) mNil)) (mComp (mIt (mV 6)) [9] (.nm 9) (mTst (mBin eqD (mBin ixD (mV 9) (mC (.int 0))) (mV 4))) (mBin ixD (mV 9) (mC (.int 1)))))) (.nm 5) (mIfS (mAnd (mTst (mBin neD (mV 5) (mV 8))) (mAnd (mTst (mBin (inD true) (mTup (mCons (mV 8) (mCons (mV 5) mNil))) (mV 6))) (mTst (mBin (inD false) (mV 5) (mBin ixD (mV 2) (mV 8)))))) (mSeq (mExpr (mMeth appD (mV 6) (mCons (mTup (mCons (mV 8) (mCons (mV 5) mNil))) mNil)))
    (mSet 7 (mC (.bl true)))) mNext)) (env10 rows ws F G st.length false x4 x5 x8 x9) (st ++ [.lst (L0.map rowD')])).wp
      { nx := fun ρ st' => ∃ m2 x4 x5 x8 x9, ρ = env10 rows ws F G st.length (!m2.isEmpty) x4 x5 x8 x9 ∧ st' = st ++ [.lst ((L0 ++ m2).map rowD')] ∧ LC rows F (L0 ++ m2) ∧ (m2 = [] → ClosedL F L0) } := by
  have hg := get_mid st [] (.lst (L0.map rowD'))
  have hmi : mIt (mCall listD (mCons (mV 6) mNil)) (env10 rows ws F G st.length false x4 x5 x8 x9) (st ++ [.lst (L0.map rowD')]) = .ok ⟨L0.map rowD', none⟩ (st ++ [.lst (L0.map rowD')]) := by
    refine itm_lst ((call_ok (one_ok rfl)).trans ?_)
    unfold listD
    simp only [itemsS_loc hg, ofOpt_some]
  refine wp_for hmi (fun j ρ st' => ∃ m2 x4 x5 x8 x9, ρ = env10 rows ws F G st.length (!m2.isEmpty) x4 x5 x8 x9 ∧ st' = st ++ [.lst ((L0 ++ m2).map rowD')] ∧ LC rows F (L0 ++ m2) ∧ (m2 = [] → ∀ x ∈ L0.take j, ∀ w ∈ nxt L0 (x.getD 0 0), OkL F L0 (x.getD 1 0) w)) ⟨[], _, _, _, _, rfl, by rw [List.append_nil], by rw [List.append_nil]; exact c1, fun _ x hx => by rw [List.take_zero] at hx; cases hx⟩ ?_ ?_
  · rintro j d ρ st' hd ⟨m1, y4, y5, y8, y9, rfl, rfl, c2, hok⟩
    rw [List.getElem?_map] at hd
    obtain ⟨x, hx, rfl⟩ := Option.map_eq_some_iff.mp hd
    have hxm := List.mem_of_getElem? hx
    obtain ⟨u, v, rfl⟩ := c1.pair x hxm
    refine ⟨True.intro, _, rfl, ?_⟩
    simp only [List.set]
    refine wp_mono (full_in h hf hl c2 hxm) (fun ρ st' q => ?_) (fun _ _ z => z.elim) (fun _ _ z => z.elim) (fun _ _ z => z.elim) (fun _ _ z => z.elim)
    obtain ⟨m2, z5, z9, rfl, rfl, c3, hm, hok2⟩ := q
    refine ⟨m2, _, _, _, _, rfl, rfl, c3, fun z y hy => ?_⟩
    rw [List.take_add_one, hx] at hy
    rcases List.mem_append.mp hy with q | q
    · exact hok (hm z) y q
    · rw [List.mem_singleton.mp q]
      exact hok2 z
  · rintro ρ st' ⟨m1, y4, y5, y8, y9, rfl, rfl, c2, hok⟩
    refine ⟨True.intro, m1, _, _, _, _, rfl, rfl, c2, fun z u v huv w hw => ?_⟩
    rw [List.length_map, List.take_length] at hok
    exact hok z [u, v] huv w ((nxt_mem c1.pair).mpr hw)
theorem full_while (h : IsWeb rows) (hf : InRange F) (hl : F.length = rows.length) {x4 x5 x8 x9 : Option D} :
    (mWhile (mTru (mV 7)) (mSeq (mSet 7 (mC (.bl false)))
    (mFor (mIt (mCall listD (mCons (mV 6) mNil))) (.tp [(.nm 4), (.nm 8)]) (mFor (mIt (mBin addD (mLst (mCons (mV 4) mNil)) (mComp (mIt (mV 6)) [9] (.nm 9) (mTst (mBin eqD (mBin ixD (mV 9) (mC (.int 0))) (mV 4))) (mBin ixD (mV 9) (mC (.int 1)))))) (.nm 5) (mIfS (mAnd (mTst (mBin neD (mV 5) (mV 8))) (mAnd (mTst (mBin (inD true) (mTup (mCons (mV 8) (mCons (mV 5) mNil))) (mV 6))) (mTst (mBin (inD false) (mV 5) (mBin ixD (mV 2) (mV 8)))))) (mSeq (mExpr (mMeth appD (mV 6) (mCons (mTup (mCons (mV 8) (mCons (mV 5) mNil))) mNil)))
    (mSet 7 (mC (.bl true)))) mNext)))) (env10 rows ws F G st.length true x4 x5 x8 x9) (st ++ [.lst ((cardsOf rows).map rowD')])).wp
      { nx := fun ρ st' => ∃ L x4 x5 x8 x9, ρ = env10 rows ws F G st.length false x4 x5 x8 x9 ∧ st' = st ++ [.lst (L.map rowD')] ∧ LC rows F L ∧ ClosedL F L } := by
  refine wp_while (fun k ρ st' => ∃ L ag x4 x5 x8 x9, ρ = env10 rows ws F G st.length ag x4 x5 x8 x9 ∧ st' = st ++ [.lst (L.map rowD')] ∧ LC rows F L ∧ (ag = false → ClosedL F L) ∧ k = 2 * (82 - L.length) + (if ag = true then 1 else 0)) _ ⟨cardsOf rows, true, _, _, _, _, rfl, rfl, .start h, fun z => (by cases z), rfl⟩ ?_
  rintro k ρ st' ⟨L, ag, y4, y5, y8, y9, rfl, rfl, c, hc, rfl⟩
  rw [show mTru (mV 7) (env10 rows ws F G st.length ag y4 y5 y8 y9) (st ++ [.lst (L.map rowD')]) = .ok ag (st ++ [.lst (L.map rowD')]) from tru_bl rfl]
  simp only [post_okR]
  cases ag with
  | false =>
    simp only [Bool.false_eq_true, if_false]
    exact ⟨L, _, _, _, _, rfl, rfl, c, hc rfl⟩
  | true =>
    simp only [if_true]
    rw [seq_nx (set_ok (m := mC (.bl false)) rfl)]
    simp only [List.set]
    refine wp_mono (full_pass h hf hl c) (fun ρ st' q => ?_) (fun _ _ z => z.elim) (fun _ _ z => z.elim) (fun _ _ z => z.elim) (fun _ _ z => z.elim)
    obtain ⟨m2, z4, z5, z8, z9, rfl, rfl, c3, hok⟩ := q
    have len3 := c3.len h hf hl
    rw [List.length_append] at len3
    refine ⟨_, ?_, L ++ m2, !m2.isEmpty, _, _, _, _, rfl, rfl, c3, fun z => ?_, rfl⟩
    · rw [List.length_append]
      cases m2 with
      | nil => simp
      | cons a m2 => simp only [List.isEmpty_cons, Bool.not_false, if_true, List.length_cons] at len3 ⊢; omega
    · cases m2 with
      | nil => rw [List.append_nil]; exact hok rfl
      | cons a m2 => cases z
end
end Pl

set_option maxHeartbeats 4000000
/-! _law_full, _law_lack -/
namespace Pl
open PySem PySem.Spec PyProof.Rows L2 Hn
section
variable {rows ws : List (List Int)} {st : Sto}
theorem rng_find {n : Nat} {f : D → Option D} {g : Nat → Option D} (h : ∀ k : Nat, f (.int (k : Int)) = g k) : (rngD 0 n).findSome? f = (List.range n).findSome? g := by
  unfold rngD
  rw [findSome_map]
  refine congrArg (fun f => (List.range n).findSome? f) (funext fun k => ?_)
  rw [Int.zero_add]
  exact h k
theorem S_lfull (h : IsWeb rows) (k : IsWeb ws) (hl : ws.length = rows.length) : M__law_full [webD rows, webD ws] st = .ok (fullOf rows ws) st := by
  have h9 := h.few
  obtain ⟨n, hn⟩ : ∃ n : Nat, rows.length = n := ⟨_, rfl⟩
  obtain ⟨N, hN⟩ : ∃ N : Int, (n : Int) = N := ⟨_, rfl⟩
  have hlenN : ∀ st, lenD [webD rows] st = .ok (.int N) st := fun st => by rw [← hN, ← hn]; exact webD_len
  unfold M__law_full
  have ef : mCall M__law_finds (mCons (mV 1) mNil) (List.map some [webD rows, webD ws] ++ List.replicate (10 - 2) none) st = .ok (webD (findsOf ws)) st := (call_ok (one_ok rfl)).trans (S_lfinds k)
  have eg : mCall M__law_finds (mCons (mV 0) mNil) [some (webD rows), some (webD ws), some (webD (findsOf ws)), none, none, none, none, none, none, none] st = .ok (webD (findsOf rows)) st := (call_ok (one_ok rfl)).trans (S_lfinds h)
  have hmi : mItA rng1R (mCons (mCall lenD (mCons (mV 0) mNil)) mNil) [some (webD rows), some (webD ws), some (webD (findsOf ws)), some (webD (findsOf rows)), none, none, none, none, none, none] st = .ok ⟨rngD 0 n, none⟩ st := itA_ok (one_ok ((call_ok (one_ok rfl)).trans (hlenN _))) (by rw [← hN]; exact rng_ok (by omega))
  have key := mFor_find (p := .nm 4) (b := mIfS (mNot (mTru (mCall allD (mCons (mComp (mIt (mBin ixD (mV 3) (mV 4))) [5] (.nm 5) mYes (mBin (inD false) (mV 5) (mBin ixD (mV 2) (mV 4)))) mNil)))) (mRet (mC .non)) mNext)
    (fun d => match d with | .int u => if ((rowAt (findsOf rows) u).all fun w => decide (w ∈ rowAt (findsOf ws) u)) = true then none else some D.non | _ => none)
    (fun ρ => ∃ x4, ρ = [some (webD rows), some (webD ws), some (webD (findsOf ws)), some (webD (findsOf rows)), x4, none, none, none, none, none]) hmi True.intro ⟨none, rfl⟩ (fun d hd ρ ⟨x4, hρ⟩ => by
      subst hρ
      obtain ⟨u, hu, rfl⟩ := rng_mem hd
      generalize hU : (u : Int) = U
      refine ⟨_, rfl, ?_⟩
      simp only [List.set]
      have i1 : mBin ixD (mV 3) (mV 4) [some (webD rows), some (webD ws), some (webD (findsOf ws)), some (webD (findsOf rows)), some (.int U), none, none, none, none, none] st = .ok (rowD' (rowAt (findsOf rows) U)) st := (bin_ok rfl rfl).trans (webD_ix (by omega) (by rw [findsOf_len]; omega) st)
      have i2 : ∀ y5, mBin ixD (mV 2) (mV 4) [some (webD rows), some (webD ws), some (webD (findsOf ws)), some (webD (findsOf rows)), some (.int U), y5, none, none, none, none] st = .ok (rowD' (rowAt (findsOf ws) U)) st := fun y5 => (bin_ok rfl rfl).trans (webD_ix (by omega) (by rw [findsOf_len]; omega) st)
      have hll : (rowAt (findsOf rows) U).length ≤ 9 := by
        rw [findsOf_at (by omega)]
        have := few_below (n := rows.length) (asc_nodup (foundOf_up (rows := rows) (u := U))) fun w hw => ((foundOf_mem h.inr (by omega) w).mp hw).range h.inr (by omega)
        omega
      have ha := all_comp (vs := [5]) (p := .nm 5) (m := mBin (inD false) (mV 5) (mBin ixD (mV 2) (mV 4))) (fun d => match d with | .int w => decide (w ∈ rowAt (findsOf ws) U) | _ => false) (itm_row i1) True.intro (by show ((rowAt (findsOf rows) U).map D.int).length ≤ lim; rw [List.length_map]; exact lim_of (by omega)) (fun d hd => by
        obtain ⟨w, hw, rfl⟩ := List.mem_map.mp hd
        exact ⟨_, rfl, (bin_ok rfl (i2 _)).trans (inD_row.trans (by rw [Bool.xor_false]))⟩)
      have hb : ((rowAt (findsOf rows) U).map D.int).all (fun d => match d with | .int w => decide (w ∈ rowAt (findsOf ws) U) | _ => false) = (rowAt (findsOf rows) U).all fun w => decide (w ∈ rowAt (findsOf ws) U) := by
        rw [List.all_map]
        rfl
      rw [show (Wk.items ⟨(rowAt (findsOf rows) U).map D.int, none⟩) = (rowAt (findsOf rows) U).map D.int from rfl, hb] at ha
      by_cases hc : ((rowAt (findsOf rows) U).all fun w => decide (w ∈ rowAt (findsOf ws) U)) = true
      · rw [if_pos hc]
        rw [hc] at ha
        exact ⟨_, ifS_f (not_ok (b := true) (tru_bl ha)), _, rfl⟩
      · rw [if_neg hc]
        rw [Bool.not_eq_true _ |>.mp hc] at ha
        exact (ifS_t (not_ok (b := false) (tru_bl ha))).trans (ret_ok rfl))
  rw [show (Wk.items ⟨rngD 0 n, none⟩) = rngD 0 n from rfl, rng_find (g := fun (u : Nat) => if ((rowAt (findsOf rows) (u : Int)).all fun w => decide (w ∈ rowAt (findsOf ws) (u : Int))) = true then none else some D.non) fun _ => rfl] at key
  unfold fullOf
  by_cases hfb : firstB (findsOf rows) (findsOf ws) = none
  · rw [if_pos hfb]
    have hno : (List.range n).findSome? (fun (u : Nat) => if ((rowAt (findsOf rows) (u : Int)).all fun w => decide (w ∈ rowAt (findsOf ws) (u : Int))) = true then none else some D.non) = none := by
      rw [List.findSome?_eq_none_iff]
      intro u hu
      rw [if_pos (List.all_eq_true.mpr fun w hw => decide_eq_true (firstB_none.mp hfb u (by rw [findsOf_len, hn]; exact List.mem_range.mp hu) w hw))]
    rw [hno] at key
    obtain ⟨ρ', e, x4, rfl⟩ := key
    obtain ⟨ρ2, st2, e2, L, y4, y5, y8, y9, rfl, rfl, c, cl⟩ := wp_ex (full_while (rows := rows) (ws := ws) (F := findsOf ws) (G := findsOf rows) (st := st) (x4 := x4) (x5 := none) (x8 := none) (x9 := none) h findsOf_inr (by rw [findsOf_len]; exact hl))
    refine def_rtA (x := [.lst (L.map rowD')]) rfl ?_ cl_web
    refine (seq_nx (set_ok ef)).trans ((seq_nx (set_ok eg)).trans ((seq_nx e).trans ((seq_nx (set_ok ((call_ok (one_ok rfl)).trans (S_cards h)))).trans ((seq_nx (set_ok (m := mC (.bl true)) rfl)).trans ((seq_nx e2).trans (ret_ok ?_))))))
    refine (call_ok (cons_ok rfl (one_ok ((call_ok (one_ok rfl)).trans (hlenN _))))).trans ((S_lweb (L := L) hN (by omega) fun u w => (inD_rowsLoc (get_mid st [] _)).trans (by rw [Bool.xor_false])).trans ?_)
    rw [← hn, c.done h findsOf_inr (by rw [findsOf_len]; exact hl) cl]
    rfl
  · rw [if_neg hfb]
    cases hs : (List.range n).findSome? (fun (u : Nat) => if ((rowAt (findsOf rows) (u : Int)).all fun w => decide (w ∈ rowAt (findsOf ws) (u : Int))) = true then none else some D.non) with
    | none =>
      refine absurd (firstB_none.mpr fun u hu w hw => ?_) hfb
      rw [List.findSome?_eq_none_iff] at hs
      have := hs u (List.mem_range.mpr (by rw [findsOf_len, hn] at hu; exact hu))
      by_cases q : ((rowAt (findsOf rows) (u : Int)).all fun w => decide (w ∈ rowAt (findsOf ws) (u : Int))) = true
      · exact of_decide_eq_true (List.all_eq_true.mp q w hw)
      · rw [if_neg q] at this
        cases this
    | some r =>
      have hr : r = .non := by
        obtain ⟨u, _, e⟩ := List.exists_of_findSome?_eq_some hs
        split at e
        · cases e
        · cases e; rfl
      subst hr
      rw [hs] at key
      exact def_rt rfl ((seq_nx (set_ok ef)).trans ((seq_nx (set_ok eg)).trans (seq_rt key)))
theorem nest_find {A B : List (List Int)} {E : Option D → Option D → Env} {ia ib : Nat} {tag : Str} {ms : Env → Sto → R (List D)} {n : Nat} {N : Int} {x y : Option D} (hA : ∀ x y, (E x y)[ia]? = some (some (webD A))) (hB : ∀ x y, (E x y)[ib]? = some (some (webD B))) (h4 : ∀ x y, (E x y)[4]? = some x) (h5 : ∀ x y, (E x y)[5]? = some y)
    (s4 : ∀ x y z, (E x y).set 4 z = E z y) (s5 : ∀ x y z, (E x y).set 5 z = E x z) (hn : A.length = n) (hN : (n : Int) = N) (e : ms (E x y) st = .ok [.int N] st) (hl : n ≤ 1000) (hr : B.length = n) :
    match firstB A B with
    | some p => mFor (mItA rng1R ms) (.nm 4) (mFor (mIt (mBin ixD (mV ia) (mV 4))) (.nm 5) (mIfS (mTst (mBin (inD true) (mV 5) (mBin ixD (mV ib) (mV 4)))) (mRet (mTup (mCons (mC (.str tag)) (mCons (mV 4) (mCons (mV 5) mNil))))) mNext)) (E x y) st = .rt (.tup [.str tag, .int p.1, .int p.2]) st
    | none => ∃ x' y', mFor (mItA rng1R ms) (.nm 4) (mFor (mIt (mBin ixD (mV ia) (mV 4))) (.nm 5) (mIfS (mTst (mBin (inD true) (mV 5) (mBin ixD (mV ib) (mV 4)))) (mRet (mTup (mCons (mC (.str tag)) (mCons (mV 4) (mCons (mV 5) mNil))))) mNext)) (E x y) st = .nx (E x' y') st := by
  have vA : ∀ x y, mV ia (E x y) st = .ok (webD A) st := fun x y => by simp only [mV, hA]
  have vB : ∀ x y, mV ib (E x y) st = .ok (webD B) st := fun x y => by simp only [mV, hB]
  have v4 : ∀ x y, mV 4 (E (some x) y) st = .ok x st := fun x y => by simp only [mV, h4]
  have v5 : ∀ x y, mV 5 (E x (some y)) st = .ok y st := fun x y => by simp only [mV, h5]
  have hmi : mItA rng1R ms (E x y) st = .ok ⟨rngD 0 n, none⟩ st := itA_ok e (by rw [← hN]; exact rng_ok (by omega))
  have key := mFor_find (p := .nm 4) (b := mFor (mIt (mBin ixD (mV ia) (mV 4))) (.nm 5) (mIfS (mTst (mBin (inD true) (mV 5) (mBin ixD (mV ib) (mV 4)))) (mRet (mTup (mCons (mC (.str tag)) (mCons (mV 4) (mCons (mV 5) mNil))))) mNext))
    (fun d => match d with | .int u => (((rowAt A u).findSome? fun w => if w ∈ rowAt B u then none else some (u, w)).map fun p => D.tup [.str tag, .int p.1, .int p.2]) | _ => none)
    (fun ρ => ∃ x y, ρ = E x y) hmi True.intro ⟨_, _, rfl⟩ (fun d hd ρ ⟨x2, x3, hρ⟩ => by
      subst hρ
      obtain ⟨u, hu, rfl⟩ := rng_mem hd
      generalize hU : (u : Int) = U
      refine ⟨_, rfl, ?_⟩
      rw [s4]
      dsimp only
      have i1 : ∀ y3, mBin ixD (mV ia) (mV 4) (E (some (.int U)) y3) st = .ok (rowD' (rowAt A U)) st := fun y3 => (bin_ok (vA _ _) (v4 _ _)).trans (webD_ix (by omega) (by omega) st)
      have i2 : ∀ y3, mBin ixD (mV ib) (mV 4) (E (some (.int U)) y3) st = .ok (rowD' (rowAt B U)) st := fun y3 => (bin_ok (vB _ _) (v4 _ _)).trans (webD_ix (by omega) (by omega) st)
      have k2 := mFor_find (p := .nm 5) (b := mIfS (mTst (mBin (inD true) (mV 5) (mBin ixD (mV ib) (mV 4)))) (mRet (mTup (mCons (mC (.str tag)) (mCons (mV 4) (mCons (mV 5) mNil))))) mNext)
        (fun d => match d with | .int w => (if w ∈ rowAt B U then none else some (U, w)).map (fun p => D.tup [.str tag, .int p.1, .int p.2]) | _ => none)
        (fun ρ => ∃ x3, ρ = E (some (.int U)) x3) (itm_row (i1 x3)) True.intro ⟨x3, rfl⟩ (fun d hd ρ ⟨y3, hρ⟩ => by
          subst hρ
          obtain ⟨w, hw, rfl⟩ := List.mem_map.mp hd
          refine ⟨_, rfl, ?_⟩
          rw [s5]
          dsimp only
          have t1 : mTst (mBin (inD true) (mV 5) (mBin ixD (mV ib) (mV 4))) (E (some (.int U)) (some (.int w))) st = .ok (!decide (w ∈ rowAt B U)) st := tst_ok ((bin_ok (v5 _ _) (i2 _)).trans (inD_row.trans (by rw [Bool.xor_true])))
          by_cases hm : w ∈ rowAt B U
          · rw [if_pos hm]
            rw [decide_eq_true hm] at t1
            exact ⟨_, ifS_f t1, _, rfl⟩
          · rw [if_neg hm]
            rw [decide_eq_false hm] at t1
            refine (ifS_t t1).trans (ret_ok ?_)
            unfold mTup
            rw [cons_ok (m := mC (.str tag)) rfl (cons_ok (v4 _ _) (one_ok (v5 _ _)))]
            simp only [R.ok_bind, List.length_cons, List.length_nil]
            rw [guardR_pos (lim_of (by decide))])
      rw [findSome_map] at k2
      rw [findSome_opt] at k2
      cases hf : ((rowAt A U).findSome? fun w => if w ∈ rowAt B U then none else some (U, w)) with
      | some r =>
        rw [hf] at k2
        exact k2
      | none =>
        rw [hf] at k2
        obtain ⟨ρ', e, x3', rfl⟩ := k2
        exact ⟨_, e, _, _, rfl⟩)
  have hfind : (rngD 0 n).findSome? (fun d => match d with | .int u => (((rowAt A u).findSome? fun w => if w ∈ rowAt B u then none else some (u, w)).map fun p => D.tup [.str tag, .int p.1, .int p.2]) | _ => none) = (firstB A B).map fun p => D.tup [.str tag, .int p.1, .int p.2] := by
    rw [rng_find (g := fun (u : Nat) => (((rowAt A (u : Int)).findSome? fun w => if w ∈ rowAt B (u : Int) then none else some ((u : Int), w)).map fun p => D.tup [.str tag, .int p.1, .int p.2])) fun _ => rfl, findSome_opt]
    unfold firstB
    rw [hn]
  rw [show (Wk.items ⟨rngD 0 n, none⟩) = rngD 0 n from rfl, hfind] at key
  cases hf : firstB A B with
  | some r =>
    rw [hf] at key
    exact key
  | none =>
    rw [hf] at key
    obtain ⟨ρ', e, x2, x3, rfl⟩ := key
    exact ⟨_, _, e⟩
theorem S_llack (h : IsWeb rows) (k : IsWeb ws) (hl : ws.length = rows.length) : M__law_lack [webD rows, webD ws] st = .ok (barOf rows ws) st := by
  have h9 := h.few
  obtain ⟨n, hn⟩ : ∃ n : Nat, rows.length = n := ⟨_, rfl⟩
  obtain ⟨N, hN⟩ : ∃ N : Int, (n : Int) = N := ⟨_, rfl⟩
  have hlenN : ∀ st, lenD [webD rows] st = .ok (.int N) st := fun st => by rw [← hN, ← hn]; exact webD_len
  unfold M__law_lack
  refine def_rt rfl ?_
  have p1 : mPar 2 3 (mCons (mCall M__law_finds (mCons (mV 0) mNil)) (mCons (mCall M__law_finds (mCons (mV 1) mNil)) mNil)) (List.map some [webD rows, webD ws] ++ List.replicate (7 - 2) none) st = .nx [some (webD rows), some (webD ws), some (webD (findsOf rows)), some (webD (findsOf ws)), none, none, none] st := by
    unfold mPar
    rw [cons_ok ((call_ok (one_ok (m := mV 0) rfl)).trans (S_lfinds h)) (one_ok ((call_ok (one_ok (m := mV 1) rfl)).trans (S_lfinds k)))]
    rfl
  refine (seq_nx p1).trans ?_
  have k1 := nest_find (A := findsOf rows) (B := findsOf ws) (E := fun x y => [some (webD rows), some (webD ws), some (webD (findsOf rows)), some (webD (findsOf ws)), x, y, none]) (ia := 2) (ib := 3) (tag := "found") (ms := mCons (mCall lenD (mCons (mV 0) mNil)) mNil) (n := n) (N := N) (x := none) (y := none) (st := st)
    (fun _ _ => rfl) (fun _ _ => rfl) (fun _ _ => rfl) (fun _ _ => rfl) (fun _ _ _ => rfl) (fun _ _ _ => rfl) (by rw [findsOf_len]; exact hn) hN (one_ok ((call_ok (one_ok rfl)).trans (hlenN _))) (by omega) (by rw [findsOf_len]; omega)
  unfold barOf
  cases e1 : firstB (findsOf rows) (findsOf ws) with
  | some p =>
    rw [e1] at k1
    exact seq_rt k1
  | none =>
    rw [e1] at k1
    obtain ⟨x', y', k1⟩ := k1
    have ef : mCall M__law_full (mCons (mV 0) (mCons (mV 1) mNil)) [some (webD rows), some (webD ws), some (webD (findsOf rows)), some (webD (findsOf ws)), x', y', none] st = .ok (webD (wideOf rows ws)) st := by
      refine (call_ok (cons_ok rfl (one_ok rfl))).trans ((S_lfull h k hl).trans ?_)
      unfold fullOf
      rw [if_pos e1]
    refine (seq_nx k1).trans ((seq_nx (set_ok ef)).trans ?_)
    have k2 := nest_find (A := ws) (B := wideOf rows ws) (E := fun x y => [some (webD rows), some (webD ws), some (webD (findsOf rows)), some (webD (findsOf ws)), x, y, some (webD (wideOf rows ws))]) (ia := 1) (ib := 6) (tag := "card") (ms := mCons (mCall lenD (mCons (mV 0) mNil)) mNil) (n := n) (N := N) (x := x') (y := y') (st := st)
      (fun _ _ => rfl) (fun _ _ => rfl) (fun _ _ => rfl) (fun _ _ => rfl) (fun _ _ _ => rfl) (fun _ _ _ => rfl) (by omega) hN (one_ok ((call_ok (one_ok rfl)).trans (hlenN _))) (by omega) (by unfold wideOf; rw [widOf_len]; exact hn)
    cases e2 : firstB ws (wideOf rows ws) with
    | some p =>
      rw [e2] at k2
      exact seq_rt k2
    | none =>
      rw [e2] at k2
      obtain ⟨x2, y2, k2⟩ := k2
      exact (seq_nx k2).trans (ret_ok rfl)
end
end Pl

set_option maxHeartbeats 4000000
/-! _law_drawn_web, _law_union -/
namespace Pl
open PySem PySem.Spec PyProof.Rows L2 Hn
theorem S_drawn {st : Sto} {p g n : Nat} {N R : Int} (hp : Pot st p g) (hN : (n : Int) = N) (h1 : 1 ≤ n) (h9 : n ≤ 9) (r0 : 0 < R) (r1 : R < 1073741824) :
    ∃ d st', M__law_drawn_web [.loc p, .int N, .int R] st = .ok d st' ∧ Keep p g st st' ∧ Pot st' p g ∧ ∃ rows, d = webD rows ∧ IsWeb rows ∧ rows.length = n := by
  unfold M__law_drawn_web
  refine def_keep hp rfl ?_
  obtain ⟨lp, lg⟩ := hp.lt
  have hpairs : mCall M__law_pairs (mCons (mV 1) mNil) (List.map some [D.loc p, D.int N, D.int R] ++ List.replicate (4 - 3) none) st = .ok (.loc st.length) (st ++ [.lst ((pairsOf n).map rowD')]) := (call_ok (one_ok rfl)).trans (S_pairs hN h9)
  have hcell := get_mid st [] (.lst ((pairsOf n).map rowD'))
  have hmi := itm_loc hpairs hcell
  have plen := pairsOf_len h9
  have stay : ∀ st', Keep p g (st ++ [.lst ((pairsOf n).map rowD')]) st' → (Wk.mk ((pairsOf n).map rowD') (some (st.length, (pairsOf n).map rowD'))).stay st' := fun st' k => k.get hcell (by omega) (by omega)
  obtain ⟨st', acc, e, hI⟩ := mComp_inv (vs := [3]) (p := .nm 3) (t := mTst (mBin eqD (mCall M__law_draw (mCons (mV 0) (mCons (mV 2) mNil))) (mC (.int 0)))) (m := mV 3) hmi
    (fun i st' acc => Keep p g (st ++ [.lst ((pairsOf n).map rowD')]) st' ∧ Pot st' p g ∧ ∃ L : List (List Int), acc = L.map rowD' ∧ (∀ x ∈ L, x ∈ pairsOf n) ∧ L.length ≤ i) ⟨.refl, hp.app, [], rfl, fun x hx => (by cases hx), Nat.le_refl _⟩ (fun i d st1 acc hd hI => by
      obtain ⟨k1, pot1, L, rfl, hL, hlen⟩ := hI
      have hd' : ((pairsOf n).map rowD')[i]? = some d := hd
      rw [List.getElem?_map] at hd'
      obtain ⟨x, hx, rfl⟩ := Option.map_eq_some_iff.mp hd'
      have hi := (List.getElem?_eq_some_iff.mp hx).1
      obtain ⟨dd, st2, e2, k2, pot2, r, rfl, _, _⟩ := S_draw pot1 r0 r1
      refine ⟨stay _ k1, by rw [List.length_map]; exact lim_of (by omega), _, rfl, decide (r = 0), st2, tst_ok ((bin_ok ((call_ok (cons_ok rfl (one_ok rfl))).trans e2) rfl).trans eqD_int), fun _ => ⟨rowD' x, st2, rfl, k1.trans k2, pot2, L ++ [x], by simp, fun y hy => ?_, by simp; omega⟩, fun _ => ⟨k1.trans k2, pot2, L, rfl, hL, by omega⟩⟩
      rcases List.mem_append.mp hy with z | z
      · exact hL y z
      · rw [List.mem_singleton.mp z]
        exact List.mem_of_getElem? hx) (fun st' acc h => stay _ h.1)
  obtain ⟨k1, pot1, L, rfl, hL, hlen⟩ := hI
  have fin : mRet (mCall M__law_web (mCons (mComp (mIt (mCall M__law_pairs (mCons (mV 1) mNil))) [3] (.nm 3) (mTst (mBin eqD (mCall M__law_draw (mCons (mV 0) (mCons (mV 2) mNil))) (mC (.int 0)))) (mV 3)) (mCons (mV 1) mNil))) (List.map some [D.loc p, D.int N, D.int R] ++ List.replicate (4 - 3) none) st = .rt (webD (lwebOf L n)) st' :=
    ret_ok ((call_ok (cons_ok e (one_ok rfl))).trans (S_lweb hN h9 fun u w => inD_rows.trans (by rw [Bool.xor_false])))
  rw [fin]
  simp only [wp_rt]
  refine ⟨Keep.app.trans k1, pot1, _, rfl, lwebOf_web h1 h9 fun u hu hm => ?_, lwebOf_len⟩
  obtain ⟨a, b, _, _, ne, e⟩ := pairsOf_mem.mp (hL _ hm)
  injection e with e1 e
  injection e with e2 _
  omega
/-- letters on the way -/
structure IsLets (n : Nat) (ls : List (List Int)) : Prop where
  ok : ∀ x ∈ ls, ∃ a b : Nat, a < n ∧ b < n ∧ a ≠ b ∧ x = [(a : Int), (b : Int)]
theorem S_union {st : Sto} {rows ls : List (List Int)} (h : IsWeb rows) (hls : IsLets rows.length ls) (hlen : ls.length ≤ 1000) : ∃ ws, M__law_union [webD rows, webD ls] st = .ok (webD ws) st ∧ IsWeb ws ∧ ws.length = rows.length := by
  have h9 := h.few
  obtain ⟨n, hn⟩ : ∃ n : Nat, rows.length = n := ⟨_, rfl⟩
  obtain ⟨N, hN⟩ : ∃ N : Int, (n : Int) = N := ⟨_, rfl⟩
  have hlenN : ∀ st, lenD [webD rows] st = .ok (.int N) st := fun st => by rw [← hN, ← hn]; exact webD_len
  have cl := cardsOf_len h
  unfold M__law_union
  refine ⟨lwebOf (cardsOf rows ++ ls) n, ?_, lwebOf_web (by have := h.pos; omega) (by omega) fun u hu hm => ?_, by rw [lwebOf_len, hn]⟩
  · refine def_rtA (x := [.lst ((cardsOf rows).map rowD')]) rfl ?_ cl_web
    have a1 : mBin addD (mCall M__law_cards (mCons (mV 0) mNil)) (mCall listD (mCons (mV 1) mNil)) (List.map some [webD rows, webD ls] ++ List.replicate (3 - 2) none) st = .ok (.lst ((cardsOf rows ++ ls).map rowD')) (st ++ [.lst ((cardsOf rows).map rowD')]) := by
      refine (bin_ok ((call_ok (one_ok rfl)).trans (S_cards h)) ((call_ok (one_ok rfl)).trans (show listD [webD ls] _ = .ok (.lst (ls.map rowD')) _ from rfl))).trans ?_
      unfold addD
      simp only [itemsL_loc (get_mid st [] (C.lst ((cardsOf rows).map rowD'))), itemsL_lst, ofOpt_some]
      rw [guardR_pos (by rw [List.length_map, List.length_map]; exact lim_of (by omega)), List.map_append]
    refine (seq_nx (set_ok a1)).trans (ret_ok ?_)
    exact (call_ok (cons_ok rfl (one_ok ((call_ok (one_ok rfl)).trans (hlenN _))))).trans (S_lweb hN (by omega) fun u w => inD_rows.trans (by rw [Bool.xor_false]))
  · rcases List.mem_append.mp hm with z | z
    · obtain ⟨a, w, ha, hw, e⟩ := cardsOf_mem.mp z
      injection e with e1 e
      injection e with e2 _
      exact (h.rng a ha w hw).2.2 (by omega)
    · obtain ⟨a, b, _, _, ne, e⟩ := hls.ok _ z
      injection e with e1 e
      injection e with e2 _
      omega
end Pl

set_option maxHeartbeats 4000000
/-! _law_deeds (without turns) -/
namespace Pl
open PySem PySem.Spec PyProof.Rows L2 Hn
def comeD (x : List Int) : D := .tup (.str "come" :: x.map D.int)
def showD (u v w : Int) : D := .tup [.str "show", .int u, .int v, .int w]
def giveD (u v w : Int) : D := .tup [.str "give", .int u, .int v, .int w]
def DeedIs (rows ls : List (List Int)) (d : D) : Prop :=
  (∃ x ∈ ls, d = comeD x) ∨ (∃ u v w : Nat, u < rows.length ∧ v < rows.length ∧ w < rows.length ∧ w ≠ v ∧ (d = showD u v w ∨ (d = giveD u v w ∧ (w : Int) ∈ rowAt rows (u : Nat))))
theorem four_ok {tag : Str} {a b c : Env → Sto → R D} {ρ : Env} {st : Sto} {u v w : D} (e1 : a ρ st = .ok u st) (e2 : b ρ st = .ok v st) (e3 : c ρ st = .ok w st) : mTup (mCons (mC (.str tag)) (mCons a (mCons b (mCons c mNil)))) ρ st = .ok (.tup [.str tag, u, v, w]) st := by
  unfold mTup
  rw [cons_ok (m := mC (.str tag)) rfl (cons_ok e1 (cons_ok e2 (one_ok e3)))]
  simp only [R.ok_bind, List.length_cons, List.length_nil]
  rw [guardR_pos (lim_of (by decide))]
theorem app_ok {mo ma : Env → Sto → R D} {ρ : Env} {st : Sto} {xs : List D} {d : D} (e1 : mo ρ (st ++ [.lst xs]) = .ok (.loc st.length) (st ++ [.lst xs])) (e2 : ma ρ (st ++ [.lst xs]) = .ok d (st ++ [.lst xs])) (hl : xs.length ≤ 1000000) : mExpr (mMeth appD mo (mCons ma mNil)) ρ (st ++ [.lst xs]) = .nx ρ (st ++ [.lst (xs ++ [d])]) := by
  have hg := get_mid st [] (.lst xs)
  refine expr_ok (d := .non) ?_
  unfold mMeth
  rw [e1]
  simp only [R.ok_bind, itemsL_loc hg, ofOpt_some]
  rw [one_ok e2]
  simp only [R.ok_bind, appD, lstOf_loc hg, ofOpt_some]
  rw [guardR_pos (lim_of hl), set_mid]
theorem extL_ok {mo ma : Env → Sto → R D} {ρ : Env} {st : Sto} {xs ys : List D} (e1 : mo ρ (st ++ [.lst xs]) = .ok (.loc st.length) (st ++ [.lst xs])) (e2 : ma ρ (st ++ [.lst xs]) = .ok (.lst ys) (st ++ [.lst xs])) (hl : xs.length + ys.length ≤ 1000000) : mExpr (mMeth extD mo (mCons ma mNil)) ρ (st ++ [.lst xs]) = .nx ρ (st ++ [.lst (xs ++ ys)]) := by
  have hg := get_mid st [] (.lst xs)
  refine expr_ok (d := .non) ?_
  unfold mMeth
  rw [e1]
  simp only [R.ok_bind, itemsL_loc hg, ofOpt_some]
  rw [one_ok e2]
  simp only [R.ok_bind]
  rw [ext_ok rfl itemsL_lst hl]
section
variable {rows ls : List (List Int)} {st : Sto} {n : Nat} {N : Int}
abbrev env9 (rows ls : List (List Int)) (b : Nat) (x5 x6 x7 x8 : Option D) : Env := [some (.tup [webD rows, webD ls]), some (.bl false), some (webD rows), some (webD ls), some (.loc b), x5, x6, x7, x8]
theorem S_deeds (h : IsWeb rows) (hls : IsLets rows.length ls) (hll : ls.length ≤ 1000) : ∃ ds, M__law_deeds [.tup [webD rows, webD ls], .bl false] st = .ok (.loc st.length) (st ++ [.lst ds]) ∧ (∀ d ∈ ds, DeedIs rows ls d) ∧ ds.length ≤ 10000 := by
  have h9 := h.few
  obtain ⟨n, hn⟩ : ∃ n : Nat, rows.length = n := ⟨_, rfl⟩
  obtain ⟨N, hN⟩ : ∃ N : Int, (n : Int) = N := ⟨_, rfl⟩
  have hlenN : ∀ st, lenD [webD rows] st = .ok (.int N) st := fun st => by rw [← hN, ← hn]; exact webD_len
  unfold M__law_deeds
  have c0 : mCompM (mIt (mV 3)) [5] (.nm 5) mYes (mBin addD (mTup (mCons (mC (.str "come")) mNil)) (mV 5)) [some (.tup [webD rows, webD ls]), some (.bl false), some (webD rows), some (webD ls), none, none, none, none, none] st = .ok (.loc st.length) (st ++ [.lst (ls.map comeD)]) := by
    rw [mCompM_pure (fun _ => true) (fun d => match d with | .tup xs => .tup (.str "come" :: xs) | d => d) (itm_web (r := ls) rfl) True.intro (by show (ls.map rowD').length ≤ lim; rw [List.length_map]; exact lim_of (by omega)) (fun d hd => by
      obtain ⟨x, hx, rfl⟩ := List.mem_map.mp hd
      refine ⟨_, rfl, rfl, fun _ => ?_⟩
      refine (bin_ok (x := .tup [.str "come"]) (y := rowD' x) (st1 := st) (st2 := st) ?_ rfl).trans ?_
      · simp only [mTup, mCons, mNil, mC, R.ok_bind, List.length_cons, List.length_nil]
        rw [guardR_pos (lim_of (by decide))]
      · unfold rowD'
        rw [addD_tup]
        have hx2 : (x.map D.int).length ≤ 1000 := by
          obtain ⟨a, b, _, _, _, rfl⟩ := hls.ok x hx
          show 2 ≤ 1000
          decide
        rw [guardR_pos (by simp only [List.length_cons, List.length_nil]; exact lim_of (by omega))]
        rfl)]
    rw [List.filter_eq_self.mpr fun _ _ => rfl]
    show R.ok (D.loc st.length) (st ++ [C.lst ((ls.map rowD').map _)]) = _
    rw [List.map_map]
    rfl
  have key : (mFor (mItA rng1R (mCons (mCall lenD (mCons (mV 2) mNil)) mNil)) (.nm 6) (mFor (mIt (mBin ixD (mV 2) (mV 6))) (.nm 7) (mSeq (mExpr (mMeth appD (mV 4) (mCons (mTup (mCons (mC (.str "show")) (mCons (mV 6) (mCons (mV 7) (mCons (mV 6) mNil))))) mNil)))
    (mSeq (mFor (mIt (mBin ixD (mV 2) (mV 6))) (.nm 8) (mIfS (mTst (mBin neD (mV 8) (mV 7))) (mExpr (mMeth extD (mV 4) (mCons (mLst (mCons (mTup (mCons (mC (.str "show")) (mCons (mV 6) (mCons (mV 7) (mCons (mV 8) mNil))))) (mCons (mTup (mCons (mC (.str "give")) (mCons (mV 6) (mCons (mV 7) (mCons (mV 8) mNil))))) mNil))) mNil))) mNext))
    (mIfS (mTru (mV 1)) (mExpr (mMeth appD (mV 4) (mCons (mTup (mCons (mC (.str "turn")) (mCons (mV 6) (mCons (mV 7) mNil)))) mNil))) mNext)))) (env9 rows ls st.length none none none none) (st ++ [.lst (ls.map comeD)])).wp
      { nx := fun ρ st' => ∃ ds x5 x6 x7 x8, ρ = env9 rows ls st.length x5 x6 x7 x8 ∧ st' = st ++ [.lst ds] ∧ (∀ d ∈ ds, DeedIs rows ls d) ∧ ds.length ≤ 1000 + 200 * n } := by
    refine wp_rngN (st1 := st ++ [.lst (ls.map comeD)]) n hN (one_ok ((call_ok (one_ok rfl)).trans (hlenN _))) (by omega) (fun i ρ st' => ∃ ds x5 x6 x7 x8, ρ = env9 rows ls st.length x5 x6 x7 x8 ∧ st' = st ++ [.lst ds] ∧ (∀ d ∈ ds, DeedIs rows ls d) ∧ ds.length ≤ 1000 + 200 * i) ⟨_, _, _, _, _, rfl, rfl, fun d hd => ?_, by rw [List.length_map]; omega⟩ ?_ (fun ρ st' h => h)
    · obtain ⟨x, hx, rfl⟩ := List.mem_map.mp hd
      exact .inl ⟨x, hx, rfl⟩
    rintro u U ρ st' hU hu ⟨ds, x5, x6, x7, x8, rfl, rfl, hds, hlen⟩
    refine ⟨_, rfl, ?_⟩
    simp only [List.set]
    have hr := h.row (u := u) (by omega)
    have ix : ∀ y5 y7 y8 st', mBin ixD (mV 2) (mV 6) (env9 rows ls st.length y5 (some (.int U)) y7 y8) st' = .ok (rowD' (rowAt rows U)) st' := fun y5 y7 y8 st' => (bin_ok rfl rfl).trans (webD_ix (by omega) (by omega) _)
    rw [hU] at hr
    refine wp_for (itm_row (ix _ _ _ _)) (fun j ρ st' => ∃ ds' x5 x7 x8, ρ = env9 rows ls st.length x5 (some (.int U)) x7 x8 ∧ st' = st ++ [.lst ds'] ∧ (∀ d ∈ ds', DeedIs rows ls d) ∧ ds'.length ≤ ds.length + 20 * j) ⟨ds, _, _, _, rfl, rfl, hds, by omega⟩ ?_ ?_
    · rintro j d ρ st' hd ⟨ds1, y5, y7, y8, rfl, rfl, hds1, hlen1⟩
      rw [List.getElem?_map] at hd
      obtain ⟨v, hv, rfl⟩ := Option.map_eq_some_iff.mp hd
      have hvm := List.mem_of_getElem? hv
      have hj := (List.getElem?_eq_some_iff.mp hv).1
      have hvr := h.rng u (by omega) v (by rw [hU]; exact hvm)
      have ev : ((v.toNat : Nat) : Int) = v := by omega
      refine ⟨True.intro, _, rfl, ?_⟩
      simp only [List.set]
      rw [seq_nx (app_ok (d := showD U v U) rfl (four_ok rfl rfl rfl) (by omega))]
      refine wp_seq ?_
      refine wp_for (itm_row (ix _ _ _ _)) (fun i ρ st' => ∃ ds' x8, ρ = env9 rows ls st.length y5 (some (.int U)) (some (.int v)) x8 ∧ st' = st ++ [.lst ds'] ∧ (∀ d ∈ ds', DeedIs rows ls d) ∧ ds'.length ≤ ds1.length + 1 + 2 * i) ⟨_, _, rfl, rfl, fun d hd => ?_, by simp⟩ ?_ ?_
      · rcases List.mem_append.mp hd with z | z
        · exact hds1 d z
        · rw [List.mem_singleton.mp z]
          refine .inr ⟨u, v.toNat, u, by omega, by omega, by omega, by omega, .inl ?_⟩
          rw [ev, hU]
      · rintro i d ρ st' hd2 ⟨ds2, z8, rfl, rfl, hds2, hlen2⟩
        rw [List.getElem?_map] at hd2
        obtain ⟨w, hw, rfl⟩ := Option.map_eq_some_iff.mp hd2
        have hwm := List.mem_of_getElem? hw
        have hi := (List.getElem?_eq_some_iff.mp hw).1
        have hwr := h.rng u (by omega) w (by rw [hU]; exact hwm)
        have ew : ((w.toNat : Nat) : Int) = w := by omega
        refine ⟨True.intro, _, rfl, ?_⟩
        simp only [List.set]
        have t1 : mTst (mBin neD (mV 8) (mV 7)) (env9 rows ls st.length y5 (some (.int U)) (some (.int v)) (some (.int w))) (st ++ [.lst ds2]) = .ok (!decide (w = v)) (st ++ [.lst ds2]) := tst_ok ((bin_ok rfl rfl).trans neD_int)
        by_cases hwv : w = v
        · rw [decide_eq_true hwv] at t1
          rw [ifS_fN t1]
          simp only [wp_nx]
          exact ⟨ds2, _, rfl, rfl, hds2, by omega⟩
        · rw [decide_eq_false hwv] at t1
          rw [ifS_t t1]
          have l1 : mLst (mCons (mTup (mCons (mC (.str "show")) (mCons (mV 6) (mCons (mV 7) (mCons (mV 8) mNil))))) (mCons (mTup (mCons (mC (.str "give")) (mCons (mV 6) (mCons (mV 7) (mCons (mV 8) mNil))))) mNil)) (env9 rows ls st.length y5 (some (.int U)) (some (.int v)) (some (.int w))) (st ++ [.lst ds2]) = .ok (.lst [showD U v w, giveD U v w]) (st ++ [.lst ds2]) := by
            unfold mLst
            rw [cons_ok (four_ok rfl rfl rfl) (one_ok (four_ok rfl rfl rfl))]
            simp only [R.ok_bind, List.length_cons, List.length_nil]
            rw [guardR_pos (lim_of (by decide))]
            rfl
          rw [extL_ok rfl l1 (by simp only [List.length_cons, List.length_nil]; omega)]
          simp only [wp_nx]
          refine ⟨_, _, rfl, rfl, fun d hd => ?_, by simp; omega⟩
          rcases List.mem_append.mp hd with z | z
          · exact hds2 d z
          · refine .inr ⟨u, v.toNat, w.toNat, by omega, by omega, by omega, by omega, ?_⟩
            rw [ev, ew, hU]
            rcases List.mem_cons.mp z with z | z
            · exact .inl z
            · exact .inr ⟨List.mem_singleton.mp z, hwm⟩
      · rintro ρ st' ⟨ds2, z8, rfl, rfl, hds2, hlen2⟩
        refine ⟨True.intro, ?_⟩
        dsimp only
        rw [ifS_fN (tru_bl rfl)]
        simp only [wp_nx]
        rw [List.length_map] at hlen2
        exact ⟨ds2, _, _, _, rfl, rfl, hds2, by omega⟩
    · rintro ρ st' ⟨ds2, z5, z7, z8, rfl, rfl, hds2, hlen2⟩
      refine ⟨True.intro, ds2, _, _, _, _, rfl, rfl, hds2, ?_⟩
      rw [List.length_map] at hlen2
      omega
  obtain ⟨ρ', st', e, ds, x5, x6, x7, x8, rfl, rfl, hds, hlen⟩ := wp_ex key
  refine ⟨ds, ?_, hds, by omega⟩
  rw [mDef_eq (k := 2) (ds := [.tup [webD rows, webD ls], .bl false]) rfl]
  rw [seq_nx (show mAsg (.tp [(.nm 2), (.nm 3)]) (mV 0) (List.map some [D.tup [webD rows, webD ls], D.bl false] ++ List.replicate (9 - 2) none) st = .nx [some (.tup [webD rows, webD ls]), some (.bl false), some (webD rows), some (webD ls), none, none, none, none, none] st from rfl)]
  rw [seq_nx (set_ok c0)]
  simp only [List.set]
  rw [seq_nx e, ret_ok (m := mV 4) (d := .loc st.length) rfl]
  simp only [toR_rt]
  unfold gc
  simp only
  rw [if_neg]
  intro z
  exact absurd (show st.length < st.length from z.1) (Nat.lt_irrefl _)
end
end Pl

set_option maxHeartbeats 4000000
/-! _law_done -/
namespace Pl
open PySem PySem.Spec PyProof.Rows L2 Hn
theorem eqD_str {a b : Str} {st : Sto} {c : Bool} (ha : SeqAt.shaped (.str a) = true) (hb : SeqAt.shaped (.str b) = true) (hc : PyData.eqv (.str a) (.str b) = c) : eqD (.str a) (.str b) st = .ok (.bl c) st := by
  unfold eqD
  simp only [show ∀ s : Str, toQ st (.str s) = some (PyData.str s) from fun _ => rfl, ofOpt_some]
  rw [guardR_pos ⟨ha, hb⟩, hc]
theorem place_row {ls : List (List Int)} {x : List Int} (h : x ∈ ls) : ∃ j, SeqAt.dataPlace (ls.map rowD) (rowD x) = some j := by
  unfold SeqAt.dataPlace
  cases e : (ls.map rowD).findIdx? fun y => PyData.eqv y (rowD x) with
  | some j => exact ⟨j, rfl⟩
  | none =>
    rw [List.findIdx?_eq_none_iff] at e
    have := e (rowD x) (List.mem_map.mpr ⟨x, h, rfl⟩)
    rw [eqv_row] at this
    simp at this
theorem place_int {ns : List Int} {x : Int} (h : x ∈ ns) : ∃ j, SeqAt.dataPlace (ns.map PyData.int) (.int x) = some j := by
  unfold SeqAt.dataPlace
  cases e : (ns.map PyData.int).findIdx? fun y => PyData.eqv y (.int x) with
  | some j => exact ⟨j, rfl⟩
  | none =>
    rw [List.findIdx?_eq_none_iff] at e
    have := e (.int x) (List.mem_map.mpr ⟨x, h, rfl⟩)
    rw [eqv_int] at this
    simp at this
theorem erase_map {α β : Type} (f : α → β) : ∀ (l : List α) (j : Nat), (l.map f).eraseIdx j = (l.eraseIdx j).map f
  | [], _ => rfl
  | _ :: _, 0 => rfl
  | a :: l, j + 1 => by
    show f a :: (l.map f).eraseIdx j = f a :: (l.eraseIdx j).map f
    rw [erase_map f l j]
theorem erase_sub {α : Type} {l : List α} {j : Nat} {x : α} (h : x ∈ l.eraseIdx j) : x ∈ l := List.mem_of_mem_eraseIdx h
section
variable {rows ls kss : List (List Int)} {st : Sto} {n : Nat} {N : Int}
theorem cell_get2 {y : Sto} {u : Nat} (h : u < kss.length) : ((st ++ kss.map cell) ++ y)[st.length + u]? = some (.lst ((rowAt kss (u : Nat)).map D.int)) := by
  rw [List.getElem?_append_left (by rw [List.length_append, List.length_map]; omega)]
  exact cell_get h
theorem cell_set2 {y : Sto} {u : Nat} {r : List Int} (h : u < kss.length) : ((st ++ kss.map cell) ++ y).set (st.length + u) (C.lst (r.map D.int)) = (st ++ (kss.set u r).map cell) ++ y := by
  rw [List.set_append_left _ _ (by rw [List.length_append, List.length_map]; omega), cell_set]
theorem last_get {xs : List D} (h : kss.length = n) : ((st ++ kss.map cell) ++ [C.lst xs])[st.length + n]? = some (.lst xs) := by
  have := get_mid (st ++ kss.map cell) [] (.lst xs)
  rw [List.length_append, List.length_map, h] at this
  exact this
theorem last_set {xs ys : List D} (h : kss.length = n) : ((st ++ kss.map cell) ++ [C.lst xs]).set (st.length + n) (C.lst ys) = (st ++ kss.map cell) ++ [C.lst ys] := by
  have := set_mid (st ++ kss.map cell) [] (.lst xs) (.lst ys)
  rw [List.length_append, List.length_map, h] at this
  exact this
abbrev env7 (rows ls : List (List Int)) (d : D) (b n : Nat) : Env := [some (.tup [webD rows, webD ls]), some d, some (webD rows), some (webD ls), some (.lst (locs b n)), none, some (.loc (b + n))]
/-- a pocket that is being changed -/
structure Pkt (n : Nat) (kss : List (List Int)) : Prop where
  len : kss.length = n
  few : ∀ u : Nat, u < n → (rowAt kss (u : Nat)).length ≤ 20
  rng : ∀ u : Nat, u < n → ∀ w ∈ rowAt kss (u : Nat), 0 ≤ w ∧ w < (n : Int) ∧ w ≠ (u : Int)
theorem Pkt.set {n : Nat} {kss : List (List Int)} (k : Pkt n kss) {u : Nat} (hu : u < n) {r : List Int} (h1 : r.length ≤ 20) (h2 : ∀ w ∈ r, 0 ≤ w ∧ w < (n : Int) ∧ w ≠ (u : Int)) : Pkt n (kss.set u r) := by
  refine ⟨by rw [List.length_set]; exact k.len, fun v hv => ?_, fun v hv w hw => ?_⟩
  · rw [rowAt_set (by rw [k.len]; exact hu)]
    split
    · exact h1
    · exact k.few v hv
  · rw [rowAt_set (by rw [k.len]; exact hu)] at hw
    split at hw
    · rename_i e
      subst e
      exact h2 w hw
    · exact k.rng v hv w hw
theorem done_tail {d : D} (k : Pkt n kss) (h1 : 1 ≤ n) (h9 : n ≤ 9) (hls : IsLets n ls) (hl : ls.length ≤ 61) {rows0 ls0 : List (List Int)} :
    ∃ rows' ls', mRet (mTup (mCons (mCall tupleD (mCons (mComp (mIt (mV 4)) [5] (.nm 5) mYes (mCall tupleD (mCons (mUn sortSetD (mV 5)) mNil))) mNil)) (mCons (mCall tupleD (mCons (mUn sortSetD (mV 6)) mNil)) mNil))) (env7 rows0 ls0 d st.length n) ((st ++ kss.map cell) ++ [.lst (ls.map rowD')]) = .rt (.tup [webD rows', webD ls']) ((st ++ kss.map cell) ++ [.lst (ls.map rowD')])
      ∧ IsWeb rows' ∧ rows'.length = n ∧ IsLets n ls' ∧ ls'.length ≤ ls.length := by
  have hk := k.len
  have c1 : mComp (mIt (mV 4)) [5] (.nm 5) mYes (mCall tupleD (mCons (mUn sortSetD (mV 5)) mNil)) (env7 rows0 ls0 d st.length n) ((st ++ kss.map cell) ++ [.lst (ls.map rowD')]) = .ok (.lst ((kss.map sortU).map rowD')) ((st ++ kss.map cell) ++ [.lst (ls.map rowD')]) := by
    rw [comp_map (fun d => match d with | .loc k => rowD' (sortU (rowAt kss ((k - st.length : Nat) : Nat))) | d => d) (itm_lst (r := locs st.length n) rfl) True.intro (by show (locs st.length n).length ≤ lim; unfold locs; rw [List.length_map, List.length_range]; exact lim_of (by omega)) (fun d hd => by
      obtain ⟨i, hi, rfl⟩ := List.mem_map.mp hd
      have hi2 := List.mem_range.mp hi
      have hg := cell_get2 (st := st) (kss := kss) (y := [.lst (ls.map rowD')]) (u := i) (by omega)
      refine ⟨_, rfl, (call_ok (one_ok (d := .lst ((sortU (rowAt kss (i : Nat))).map D.int)) (st1 := (st ++ kss.map cell) ++ [.lst (ls.map rowD')]) ?_)).trans ?_⟩
      · unfold mUn
        rw [show mV 5 (((wipeD (env7 rows0 ls0 d st.length n) [5])).set 5 (some (.loc (st.length + i)))) ((st ++ kss.map cell) ++ [C.lst (ls.map rowD')]) = .ok (.loc (st.length + i)) ((st ++ kss.map cell) ++ [C.lst (ls.map rowD')]) from rfl]
        simp only [R.ok_bind, sortSetD, itemsL_loc hg, ofOpt_some]
        rw [sortSetL_ints, guardR_pos (by have := k.few i hi2; omega)]
      · rw [tupleD_lst]
        show _ = R.ok (rowD' (sortU (rowAt kss ((st.length + i - st.length : Nat) : Int)))) _
        rw [show st.length + i - st.length = i by omega]
        rfl)]
    congr 2
    show (locs st.length n).map _ = _
    unfold locs
    refine List.ext_getElem (by simp [hk]) fun i h1 h2 => ?_
    simp only [List.length_map, List.length_range] at h1
    simp only [List.getElem_map, List.getElem_range]
    show rowD' (sortU (rowAt kss ((st.length + i - st.length : Nat) : Int))) = _
    rw [show st.length + i - st.length = i by omega, rowAt_nat (by omega)]
  have hg6 := last_get (st := st) (kss := kss) (xs := ls.map rowD') hk
  have web : IsWeb (kss.map sortU) := by
    have at_ : ∀ u : Nat, u < n → rowAt (kss.map sortU) (u : Nat) = sortU (rowAt kss (u : Nat)) := fun u hu => by
      rw [rowAt_nat (by rw [List.length_map]; omega), List.getElem_map, rowAt_nat (by omega)]
    refine ⟨by rw [List.length_map]; omega, by rw [List.length_map]; omega, fun u hu => ?_, fun u hu w hw => ?_⟩
    · rw [List.length_map, hk] at hu
      rw [at_ u hu]
      exact sortU_lt _
    · rw [List.length_map, hk] at hu
      rw [at_ u hu] at hw
      rw [List.length_map, hk]
      exact k.rng u hu w (sortU_mem.mp hw)
  have c2 : ∃ ls', mCall tupleD (mCons (mUn sortSetD (mV 6)) mNil) (env7 rows0 ls0 d st.length n) ((st ++ kss.map cell) ++ [.lst (ls.map rowD')]) = .ok (webD ls') ((st ++ kss.map cell) ++ [.lst (ls.map rowD')]) ∧ IsLets n ls' ∧ ls'.length ≤ ls.length := by
    have u6 : mUn sortSetD (mV 6) (env7 rows0 ls0 d st.length n) ((st ++ kss.map cell) ++ [.lst (ls.map rowD')]) = sortSetL (ls.map rowD') ((st ++ kss.map cell) ++ [.lst (ls.map rowD')]) := by
      unfold mUn
      rw [show mV 6 (env7 rows0 ls0 d st.length n) ((st ++ kss.map cell) ++ [C.lst (ls.map rowD')]) = .ok (.loc (st.length + n)) ((st ++ kss.map cell) ++ [C.lst (ls.map rowD')]) from rfl]
      simp only [R.ok_bind, sortSetD, itemsL_loc hg6, ofOpt_some]
    by_cases hz : ls = []
    · subst hz
      refine ⟨[], (call_ok (one_ok (u6.trans ((sortSetL_ints (ns := [])).trans (guardR_pos (by decide)))))).trans (by rw [show sortU [] = [] by simp [sortU, uniq, sortZ]]; rfl), ⟨fun x hx => (by cases hx)⟩, Nat.le_refl _⟩
    · refine ⟨sortRs ls, (call_ok (one_ok (u6.trans ((sortSetL_rows hz).trans (guardR_pos ⟨by omega, fun r hr => ?_⟩))))).trans rfl, ⟨fun x hx => hls.ok x (sortRs_mem.mp hx)⟩, ?_⟩
      · obtain ⟨a, b, _, _, _, rfl⟩ := hls.ok r hr
        exact List.cons_ne_nil _ _
      · exact List.Nodup.length_le_of_subset (sortRs_nodup ls) fun x hx => sortRs_mem.mp hx
  obtain ⟨ls', e2, l1, l2⟩ := c2
  refine ⟨kss.map sortU, ls', ret_ok ?_, web, by rw [List.length_map, hk], l1, l2⟩
  unfold mTup
  rw [cons_ok ((call_ok (one_ok c1)).trans rfl) (one_ok e2)]
  simp only [R.ok_bind, List.length_cons, List.length_nil]
  rw [guardR_pos (lim_of (by decide))]
  rfl
end
end Pl

set_option maxHeartbeats 4000000
/-! _law_done -/
namespace Pl
open PySem PySem.Spec PyProof.Rows L2 Hn
section
variable {rows ls kss : List (List Int)} {st : Sto} {n : Nat}
/-- the head of _law_done -/
theorem done_head (h : IsWeb rows) (hn : rows.length = n) {d : D} :
    (mComp (mIt (mV 2)) [5] (.nm 5) mYes (mCall listM (mCons (mV 5) mNil))) [some (.tup [webD rows, webD ls]), some d, some (webD rows), some (webD ls), none, none, none] st = .ok (.lst (locs st.length n)) (st ++ rows.map cell)
    ∧ (mCall listM (mCons (mV 3) mNil)) [some (.tup [webD rows, webD ls]), some d, some (webD rows), some (webD ls), some (.lst (locs st.length n)), none, none] (st ++ rows.map cell) = .ok (.loc (st.length + n)) ((st ++ rows.map cell) ++ [.lst (ls.map rowD')]) := by
  have h9 := h.few
  constructor
  · obtain ⟨st', acc, e, h1, h2⟩ := mComp_inv (vs := [5]) (p := .nm 5) (t := mYes) (m := mCall listM (mCons (mV 5) mNil)) (itm_web (r := rows) (m := mV 2) (ρ := [some (.tup [webD rows, webD ls]), some d, some (webD rows), some (webD ls), none, none, none]) (st := st) rfl)
      (fun i st' acc => st' = st ++ (rows.take i).map cell ∧ acc = locs st.length i) ⟨by simp, rfl⟩ (fun i dd st' acc hd hI => by
        obtain ⟨rfl, rfl⟩ := hI
        have hd' : (rows.map rowD')[i]? = some dd := hd
        rw [List.getElem?_map] at hd'
        obtain ⟨r, hr, rfl⟩ := Option.map_eq_some_iff.mp hd'
        have hi := (List.getElem?_eq_some_iff.mp hr).1
        refine ⟨True.intro, by unfold locs; rw [List.length_map, List.length_range]; exact lim_of (by omega), _, rfl, true, _, rfl, fun _ => ⟨.loc (st.length + i), st ++ (rows.take (i + 1)).map cell, ?_, rfl, ?_⟩, fun z => by cases z⟩
        · refine (call_ok (one_ok (d := rowD' r) (st1 := st ++ (rows.take i).map cell) rfl)).trans ?_
          unfold rowD'
          rw [listM_tup]
          congr 1
          · rw [List.length_append, List.length_map, List.length_take, Nat.min_eq_left (by omega)]
          · rw [List.take_add_one, hr, List.map_append, ← List.append_assoc]
            rfl
        · unfold locs
          rw [List.range_succ, List.map_append]
          rfl) (fun _ _ _ => True.intro)
    rw [show (Wk.items ⟨rows.map rowD', none⟩).length = rows.length from List.length_map _] at h1 h2
    rw [e, h1, h2, List.take_length, hn]
  · refine (call_ok (one_ok rfl)).trans ?_
    show R.ok (D.loc (st ++ rows.map cell).length) ((st ++ rows.map cell) ++ [C.lst (ls.map rowD')]) = _
    rw [List.length_append, List.length_map, hn]
theorem pkt_start (h : IsWeb rows) (hn : rows.length = n) : Pkt n rows := ⟨hn, fun u hu => by have := h.row (u := u) (by omega); omega, fun u hu w hw => by
  have := h.rng u (by omega) w hw
  rw [hn] at this
  exact this⟩
theorem S_done (h : IsWeb rows) (hls : IsLets rows.length ls) (hl : ls.length ≤ 60) {d : D} (hd : DeedIs rows ls d) :
    ∃ rows' ls', M__law_done [.tup [webD rows, webD ls], d] st = .ok (.tup [webD rows', webD ls']) st ∧ IsWeb rows' ∧ rows'.length = rows.length ∧ IsLets rows.length ls' ∧ ls'.length ≤ ls.length + 1 := by
  have h9 := h.few
  have h1 := h.pos
  obtain ⟨n, hn⟩ : ∃ n : Nat, rows.length = n := ⟨_, rfl⟩
  rw [hn] at hls h9 h1 ⊢
  obtain ⟨e0, e1⟩ := done_head (ls := ls) (st := st) h hn (d := d)
  have pk := pkt_start h hn
  have hg6 := last_get (st := st) (kss := rows) (xs := ls.map rowD') hn
  unfold M__law_done
  have start : mAsg (.tp [(.nm 2), (.nm 3)]) (mV 0) (List.map some [D.tup [webD rows, webD ls], d] ++ List.replicate (7 - 2) none) st = .nx [some (.tup [webD rows, webD ls]), some d, some (webD rows), some (webD ls), none, none, none] st := rfl
  -- what is left to be shown: the middle's outcome
  have fin : ∀ {mid rest : Env → Sto → O} {kss' ls2 : List (List Int)}, mid (env7 rows ls d st.length n) ((st ++ rows.map cell) ++ [.lst (ls.map rowD')]) = .nx (env7 rows ls d st.length n) ((st ++ kss'.map cell) ++ [.lst (ls2.map rowD')]) → Pkt n kss' → IsLets n ls2 → ls2.length ≤ ls.length + 1 →
      (∀ s, rest (env7 rows ls d st.length n) s = mRet (mTup (mCons (mCall tupleD (mCons (mComp (mIt (mV 4)) [5] (.nm 5) mYes (mCall tupleD (mCons (mUn sortSetD (mV 5)) mNil))) mNil)) (mCons (mCall tupleD (mCons (mUn sortSetD (mV 6)) mNil)) mNil))) (env7 rows ls d st.length n) s) →
      ∃ rows' ls', mDef 2 7 (mSeq (mAsg (.tp [(.nm 2), (.nm 3)]) (mV 0)) (mSeq (mSet 4 (mComp (mIt (mV 2)) [5] (.nm 5) mYes (mCall listM (mCons (mV 5) mNil)))) (mSeq (mSet 6 (mCall listM (mCons (mV 3) mNil))) (mSeq mid rest)))) [.tup [webD rows, webD ls], d] st = .ok (.tup [webD rows', webD ls']) st ∧ IsWeb rows' ∧ rows'.length = n ∧ IsLets n ls' ∧ ls'.length ≤ ls.length + 1 := by
    intro mid rest kss' ls2 hm hp hl2 hlen hrest
    obtain ⟨rows', ls', e2, w1, w2, w3, w4⟩ := done_tail (st := st) (d := d) (rows0 := rows) (ls0 := ls) hp h1 h9 hl2 (by omega)
    refine ⟨rows', ls', ?_, w1, w2, w3, by omega⟩
    refine def_rtA (x := kss'.map cell ++ [.lst (ls2.map rowD')]) rfl ?_ ⟨cl_web, cl_web, True.intro⟩
    rw [← List.append_assoc]
    refine (seq_nx start).trans ((seq_nx (set_ok e0)).trans ((seq_nx (set_ok e1)).trans ((seq_nx hm).trans ((hrest _).trans e2))))
  -- a letter more
  have appL : ∀ (kss' : List (List Int)) (ma : Env → Sto → R D) (a b : Int), kss'.length = n → (∀ s, ma (env7 rows ls d st.length n) s = .ok (rowD' [a, b]) s) → mExpr (mMeth appD (mV 6) (mCons ma mNil)) (env7 rows ls d st.length n) ((st ++ kss'.map cell) ++ [.lst (ls.map rowD')]) = .nx (env7 rows ls d st.length n) ((st ++ kss'.map cell) ++ [.lst ((ls ++ [[a, b]]).map rowD')]) := fun kss' ma a b hk hma => by
    have hg := last_get (st := st) (kss := kss') (xs := ls.map rowD') hk
    refine expr_ok (d := .non) ?_
    unfold mMeth
    rw [show mV 6 (env7 rows ls d st.length n) ((st ++ kss'.map cell) ++ [C.lst (ls.map rowD')]) = .ok (.loc (st.length + n)) ((st ++ kss'.map cell) ++ [C.lst (ls.map rowD')]) from rfl]
    simp only [R.ok_bind, itemsL_loc hg, ofOpt_some]
    rw [one_ok (hma _)]
    simp only [R.ok_bind, appD, lstOf_loc hg, ofOpt_some]
    rw [guardR_pos (by rw [List.length_map]; exact lim_of (by omega)), last_set hk, List.map_append]
    rfl
  have lets1 : ∀ {a b : Nat}, a < n → b < n → a ≠ b → IsLets n (ls ++ [[(a : Int), (b : Int)]]) := fun {a b} ha hb ne => ⟨fun x hx => by
    rcases List.mem_append.mp hx with z | z
    · exact hls.ok x z
    · exact ⟨a, b, ha, hb, ne, List.mem_singleton.mp z⟩⟩
  have sCome : SeqAt.shaped (.str "come") = true := by decide +kernel
  have sShow : SeqAt.shaped (.str "show") = true := by decide +kernel
  have sGive : SeqAt.shaped (.str "give") = true := by decide +kernel
  have sTurn : SeqAt.shaped (.str "turn") = true := by decide +kernel
  rcases hd with ⟨x, hx, rfl⟩ | ⟨u, v, w, hu, hv, hw, ne, hd⟩
  · -- come
    obtain ⟨a, b, ha, hb, ne, rfl⟩ := hls.ok x hx
    obtain ⟨j, hj⟩ := place_row hx
    refine fin (kss' := rows.set a (rowAt rows (a : Nat) ++ [(b : Int)])) (ls2 := ls.eraseIdx j) ?_ (pk.set ha ?_ fun w hw => ?_) ⟨fun y hy => hls.ok y (erase_sub hy)⟩ (by have := len_erase ls j; omega) fun s => rfl
    · rw [ifS_t (tst_ok ((bin_ok ((bin_ok rfl rfl).trans (show ixD (comeD [(a : Int), (b : Int)]) (.int 0) _ = .ok (.str "come") _ from rfl)) rfl).trans (eqD_str sCome sCome (by decide +kernel))))]
      have r1 : mExpr (mMeth remD (mV 6) (mCons (mSl (mV 1) (mPart (mC (.int 1))) mNoPart) mNil)) (env7 rows ls (comeD [(a : Int), (b : Int)]) st.length n) ((st ++ rows.map cell) ++ [.lst (ls.map rowD')]) = .nx (env7 rows ls (comeD [(a : Int), (b : Int)]) st.length n) ((st ++ rows.map cell) ++ [.lst ((ls.eraseIdx j).map rowD')]) := by
        refine expr_ok (d := .non) ?_
        unfold mMeth
        rw [show mV 6 (env7 rows ls (comeD [(a : Int), (b : Int)]) st.length n) ((st ++ rows.map cell) ++ [C.lst (ls.map rowD')]) = .ok (.loc (st.length + n)) ((st ++ rows.map cell) ++ [C.lst (ls.map rowD')]) from rfl]
        simp only [R.ok_bind, itemsL_loc hg6, ofOpt_some]
        rw [one_ok (d := rowD' [(a : Int), (b : Int)]) (st1 := (st ++ rows.map cell) ++ [.lst (ls.map rowD')]) rfl]
        simp only [R.ok_bind, remD, lstOf_loc hg6, ofOpt_some, toQ_row, toPs_rows]
        rw [guardR_pos ⟨shaped_row _, (shaped_rows ls).1⟩, hj]
        simp only [ofOpt_some]
        rw [last_set hn, erase_map]
      have hg := cell_get2 (st := st) (kss := rows) (y := [.lst ((ls.eraseIdx j).map rowD')]) (u := a) (by omega)
      have r2 : mExpr (mMeth appD (mBin ixD (mV 4) (mBin ixD (mV 1) (mC (.int 1)))) (mCons (mBin ixD (mV 1) (mC (.int 2))) mNil)) (env7 rows ls (comeD [(a : Int), (b : Int)]) st.length n) ((st ++ rows.map cell) ++ [.lst ((ls.eraseIdx j).map rowD')]) = .nx (env7 rows ls (comeD [(a : Int), (b : Int)]) st.length n) ((st ++ (rows.set a (rowAt rows (a : Nat) ++ [(b : Int)])).map cell) ++ [.lst ((ls.eraseIdx j).map rowD')]) := by
        refine expr_ok (d := .non) ?_
        unfold mMeth
        rw [bin_ok (x := .lst (locs st.length n)) (y := .int (a : Int)) (st1 := (st ++ rows.map cell) ++ [.lst ((ls.eraseIdx j).map rowD')]) (st2 := (st ++ rows.map cell) ++ [.lst ((ls.eraseIdx j).map rowD')]) rfl rfl, ixD_lst, locs_at ha rfl]
        simp only [R.ok_bind, itemsL_loc hg, ofOpt_some]
        rw [one_ok (d := .int (b : Int)) (st1 := (st ++ rows.map cell) ++ [.lst ((ls.eraseIdx j).map rowD')]) rfl]
        simp only [R.ok_bind, appD, lstOf_loc hg, ofOpt_some]
        have := pk.few a ha
        rw [guardR_pos (by rw [List.length_map]; exact lim_of (by omega)), show (rowAt rows (a : Nat)).map D.int ++ [D.int (b : Int)] = (rowAt rows (a : Nat) ++ [(b : Int)]).map D.int by simp, cell_set2 (by omega)]
      exact (seq_nx r1).trans r2
    · have := h.row (u := a) (by omega)
      simp
      omega
    · rcases List.mem_append.mp hw with z | z
      · exact pk.rng a ha w z
      · rw [List.mem_singleton.mp z]
        omega
  · rw [hn] at hu hv hw
    rcases hd with rfl | ⟨rfl, hm⟩
    · refine fin (kss' := rows) (ls2 := ls ++ [[(v : Int), (w : Int)]]) ?_ pk (lets1 hv hw (Ne.symm ne)) (by simp) fun s => rfl
      rw [ifS_f (tst_ok ((bin_ok ((bin_ok rfl rfl).trans (show ixD (showD u v w) (.int 0) _ = .ok (.str "show") _ from rfl)) rfl).trans (eqD_str sShow sCome (by decide +kernel))))]
      rw [ifS_f (tst_ok ((bin_ok ((bin_ok rfl rfl).trans (show ixD (showD u v w) (.int 0) _ = .ok (.str "show") _ from rfl)) rfl).trans (eqD_str sShow sTurn (by decide +kernel))))]
      rw [seq_nx (ifS_fN (tst_ok ((bin_ok ((bin_ok rfl rfl).trans (show ixD (showD u v w) (.int 0) _ = .ok (.str "show") _ from rfl)) rfl).trans (eqD_str sShow sGive (by decide +kernel)))))]
      exact appL rows _ _ _ hn fun s => rfl
    · have hmm : (w : Int) ∈ rowAt rows (u : Nat) := hm
      obtain ⟨j, hj⟩ := place_int hmm
      refine fin (kss' := rows.set u ((rowAt rows (u : Nat)).eraseIdx j)) (ls2 := ls ++ [[(v : Int), (w : Int)]]) ?_ (pk.set hu (by have := pk.few u hu; have := len_erase (rowAt rows (u : Nat)) j; omega) fun y hy => pk.rng u hu y (erase_sub hy)) (lets1 hv hw (Ne.symm ne)) (by simp) fun s => rfl
      rw [ifS_f (tst_ok ((bin_ok ((bin_ok rfl rfl).trans (show ixD (giveD u v w) (.int 0) _ = .ok (.str "give") _ from rfl)) rfl).trans (eqD_str sGive sCome (by decide +kernel))))]
      rw [ifS_f (tst_ok ((bin_ok ((bin_ok rfl rfl).trans (show ixD (giveD u v w) (.int 0) _ = .ok (.str "give") _ from rfl)) rfl).trans (eqD_str sGive sTurn (by decide +kernel))))]
      have hg := cell_get2 (st := st) (kss := rows) (y := [.lst (ls.map rowD')]) (u := u) (by omega)
      have r1 : mExpr (mMeth remD (mBin ixD (mV 4) (mBin ixD (mV 1) (mC (.int 1)))) (mCons (mBin ixD (mV 1) (mC (.int 3))) mNil)) (env7 rows ls (giveD u v w) st.length n) ((st ++ rows.map cell) ++ [.lst (ls.map rowD')]) = .nx (env7 rows ls (giveD u v w) st.length n) ((st ++ (rows.set u ((rowAt rows (u : Nat)).eraseIdx j)).map cell) ++ [.lst (ls.map rowD')]) := by
        refine expr_ok (d := .non) ?_
        unfold mMeth
        rw [bin_ok (x := .lst (locs st.length n)) (y := .int (u : Int)) (st1 := (st ++ rows.map cell) ++ [.lst (ls.map rowD')]) (st2 := (st ++ rows.map cell) ++ [.lst (ls.map rowD')]) rfl rfl, ixD_lst, locs_at hu rfl]
        simp only [R.ok_bind, itemsL_loc hg, ofOpt_some]
        rw [one_ok (d := .int (w : Int)) (st1 := (st ++ rows.map cell) ++ [.lst (ls.map rowD')]) rfl]
        simp only [R.ok_bind, remD, lstOf_loc hg, ofOpt_some, show toQ ((st ++ rows.map cell) ++ [C.lst (ls.map rowD')]) (D.int (w : Int)) = some (PyData.int (w : Int)) from rfl, toPs_ints]
        rw [guardR_pos ⟨rfl, (shaped_ints _).1⟩, hj]
        simp only [ofOpt_some]
        rw [erase_map, cell_set2 (by omega)]
      rw [seq_nx ((ifS_t (tst_ok ((bin_ok ((bin_ok rfl rfl).trans (show ixD (giveD u v w) (.int 0) _ = .ok (.str "give") _ from rfl)) rfl).trans (eqD_str sGive sGive (by decide +kernel))))).trans r1)]
      exact appL _ _ _ _ (by rw [List.length_set]; exact hn) fun s => rfl
end
end Pl

set_option maxHeartbeats 4000000
/-! _law_wish -/
namespace Pl
open PySem PySem.Spec PyProof.Rows L2 Hn
def Apart (L : List (List Int)) : Prop := ∀ x ∈ L, ∃ a b : Int, a ≠ b ∧ x = [a, b]
theorem apart_web {L : List (List Int)} {n : Nat} (h : Apart L) (h1 : 1 ≤ n) (h9 : n ≤ 9) : IsWeb (lwebOf L n) := lwebOf_web h1 h9 fun u _ hm => by
  obtain ⟨a, b, ne, e⟩ := h _ hm
  injection e with e1 e
  injection e with e2 _
  omega
theorem apart_cards {rows : List (List Int)} (h : IsWeb rows) : Apart (cardsOf rows) := fun x hx => by
  obtain ⟨u, w, hu, hw, rfl⟩ := cardsOf_mem.mp hx
  exact ⟨_, _, fun e => (h.rng u hu w hw).2.2 e.symm, rfl⟩
section
variable {rows : List (List Int)} {st : Sto} {p g n : Nat} {N K : Int}
abbrev env12 (rows : List (List Int)) (p : Nat) (N K : Int) (s x6 x7 x8 x9 x10 : Option D) : Env := [some (.loc p), some (webD rows), some (.bl false), some (.int N), some (.int K), s, x6, x7, x8, x9, x10, none]
theorem wish_walk {st0 : Sto} (h : IsWeb rows) (hn : rows.length = n) (hN : (n : Int) = N) (pot0 : Pot st0 p g) :
    (mFor (mItA rng1R (mCons (mCall M__law_draw (mCons (mV 0) (mCons (mBin mulD (mC (.int 6)) (mV 3)) mNil))) mNil)) (.nm 6) (mSeq (mSet 7 (mCall M__law_deeds (mCons (mV 5) (mCons (mV 2) mNil))))
    (mIfS (mTst (mBin (cmpI fun i j => decide (j < i)) (mCall lenD (mCons (mV 7) mNil)) (mC (.int 0)))) (mSet 5 (mCall M__law_done (mCons (mV 5) (mCons (mBin ixD (mV 7) (mCall M__law_draw (mCons (mV 0) (mCons (mCall lenD (mCons (mV 7) mNil)) mNil)))) mNil)))) mNext)) (env12 rows p N K (some (.tup [webD rows, webD []])) none none none none none) st0).wp
      { nx := fun ρ st' => ∃ ws ls x6 x7, ρ = env12 rows p N K (some (.tup [webD ws, webD ls])) x6 x7 none none none ∧ Keep p g st0 st' ∧ Pot st' p g ∧ IsWeb ws ∧ ws.length = n ∧ IsLets n ls ∧ ls.length ≤ 54 } := by
  have h9 := h.few
  have h1 := h.pos
  obtain ⟨dd, st1, e1, k1, pot1, r, rfl, r0, r1⟩ := S_draw (m := 6 * N) pot0 (by omega) (by omega)
  have hms : mCons (mCall M__law_draw (mCons (mV 0) (mCons (mBin mulD (mC (.int 6)) (mV 3)) mNil))) mNil (env12 rows p N K (some (.tup [webD rows, webD []])) none none none none none) st0 = .ok [.int r] st1 :=
    one_ok ((call_ok (cons_ok rfl (one_ok ((bin_ok rfl rfl).trans (mul_ok (.inl (by decide))))))).trans e1)
  refine wp_rngN (st1 := st1) r.toNat (N := r) (by omega) hms (by omega) (fun i ρ st' => ∃ ws ls x6 x7, ρ = env12 rows p N K (some (.tup [webD ws, webD ls])) x6 x7 none none none ∧ Keep p g st0 st' ∧ Pot st' p g ∧ IsWeb ws ∧ ws.length = n ∧ IsLets n ls ∧ ls.length ≤ i) ⟨rows, [], _, _, rfl, k1, pot1, h, hn, ⟨fun x hx => (by cases hx)⟩, Nat.le_refl _⟩ ?_ ?_
  · rintro i I ρ st' hI hi ⟨ws, ls, x6, x7, rfl, k2, pot2, hw, hwn, hls, hlen⟩
    refine ⟨_, rfl, ?_⟩
    simp only [List.set]
    have hls' : IsLets ws.length ls := by rw [hwn]; exact hls
    obtain ⟨ds, e2, hds, hdl⟩ := S_deeds (st := st') hw hls' (by omega)
    rw [seq_nx (set_ok ((call_ok (cons_ok rfl (one_ok rfl))).trans e2))]
    simp only [List.set]
    have hcell := get_mid st' [] (.lst ds)
    have test : mTst (mBin (cmpI fun i j => decide (j < i)) (mCall lenD (mCons (mV 7) mNil)) (mC (.int 0))) (env12 rows p N K (some (.tup [webD ws, webD ls])) (some (.int I)) (some (.loc st'.length)) none none none) (st' ++ [.lst ds]) = .ok (decide ((0 : Int) < (ds.length : Int))) (st' ++ [.lst ds]) :=
      tst_ok ((bin_ok (x := .int ds.length) (y := .int 0) (st1 := st' ++ [.lst ds]) (st2 := st' ++ [.lst ds]) ((call_ok (one_ok rfl)).trans (lenD_loc hcell)) rfl).trans rfl)
    by_cases hz : (0 : Int) < (ds.length : Int)
    · rw [decide_eq_true hz] at test
      rw [ifS_t test]
      obtain ⟨dd, st3, e3, k3, pot3, q, rfl, q0, q1⟩ := S_draw (m := (ds.length : Int)) (pot2.app (x := [.lst ds])) hz (by omega)
      obtain ⟨l1, l2⟩ := pot2.lt
      have hcell3 := k3.get hcell (by omega) (by omega)
      obtain ⟨dv, hdv, hdv2⟩ := atI_in (xs := ds) q0 q1
      obtain ⟨ws', ls', e4, hw', hwn', hls2, hlen'⟩ := S_done (st := st3) hw hls' (by omega) (hds dv (List.mem_of_getElem? hdv2))
      have c5 : mCall M__law_done (mCons (mV 5) (mCons (mBin ixD (mV 7) (mCall M__law_draw (mCons (mV 0) (mCons (mCall lenD (mCons (mV 7) mNil)) mNil)))) mNil)) (env12 rows p N K (some (.tup [webD ws, webD ls])) (some (.int I)) (some (.loc st'.length)) none none none) (st' ++ [.lst ds]) = .ok (.tup [webD ws', webD ls']) st3 := by
        refine (call_ok (cons_ok rfl (one_ok ((bin_ok (x := .loc st'.length) (st1 := st' ++ [.lst ds]) rfl ((call_ok (cons_ok rfl (one_ok ((call_ok (one_ok rfl)).trans (lenD_loc hcell))))).trans e3)).trans (ix_at hcell3 hdv))))).trans e4
      rw [set_ok c5]
      simp only [wp_nx, List.set]
      exact ⟨ws', ls', _, _, rfl, (k2.trans Keep.app).trans k3, pot3, hw', by omega, by rw [hwn] at hls2; exact hls2, by omega⟩
    · rw [decide_eq_false hz] at test
      rw [ifS_fN test]
      simp only [wp_nx]
      exact ⟨ws, ls, _, _, rfl, k2.trans Keep.app, pot2.app, hw, hwn, hls, by omega⟩
  · rintro ρ st' ⟨ws, ls, x6, x7, rfl, k2, pot2, hw, hwn, hls, hlen⟩
    exact ⟨ws, ls, _, _, rfl, k2, pot2, hw, hwn, hls, by omega⟩
theorem S_wish (h : IsWeb rows) (hp : Pot st p g) : ∃ d st', M__law_wish [.loc p, webD rows, .bl false] st = .ok d st' ∧ Keep p g st st' ∧ Pot st' p g ∧ ∃ ws, d = webD ws ∧ IsWeb ws ∧ ws.length = rows.length := by
  have h9 := h.few
  have h1 := h.pos
  obtain ⟨n, hn⟩ : ∃ n : Nat, rows.length = n := ⟨_, rfl⟩
  obtain ⟨N, hN⟩ : ∃ N : Int, (n : Int) = N := ⟨_, rfl⟩
  have hlenN : ∀ st, lenD [webD rows] st = .ok (.int N) st := fun st => by rw [← hN, ← hn]; exact webD_len
  rw [hn]
  unfold M__law_wish
  refine def_keep hp rfl ?_
  rw [show (List.map some [D.loc p, webD rows, D.bl false] ++ List.replicate (12 - 3) none : Env) = [some (.loc p), some (webD rows), some (.bl false), none, none, none, none, none, none, none, none, none] from rfl]
  rw [seq_nx (set_ok ((call_ok (one_ok rfl)).trans (hlenN _)))]
  simp only [List.set]
  obtain ⟨dd, st1, e1, k1, pot1, K, rfl, K0, K1⟩ := S_draw (m := 4) hp (by decide) (by decide)
  rw [seq_nx (set_ok ((call_ok (cons_ok rfl (one_ok rfl))).trans e1))]
  simp only [List.set]
  have t0 : ∀ (c : Int) s x6 x7 x8 x9 x10 st, mTst (mBin eqD (mV 4) (mC (.int c))) (env12 rows p N K s x6 x7 x8 x9 x10) st = .ok (decide (K = c)) st := fun c s x6 x7 x8 x9 x10 st => tst_ok ((bin_ok rfl rfl).trans eqD_int)
  refine wp_seq ?_
  by_cases hK : K = 0
  · rw [ifS_t ((t0 0 none none none none none none st1).trans (by rw [decide_eq_true hK]))]
    obtain ⟨dd, st2, e2, k2, pot2, R, rfl, R0, R1⟩ := S_draw (m := 3) pot1 (by decide) (by decide)
    obtain ⟨dd, st3, e3, k3, pot3, ws, rfl, hw, hwn⟩ := S_drawn (N := N) (R := 2 + R) pot2 hN (by omega) (by omega) (by omega) (by omega)
    rw [ret_ok ((call_ok (cons_ok rfl (cons_ok rfl (one_ok (d := .int (2 + R)) (st1 := st2) ((bin_ok rfl ((call_ok (cons_ok rfl (one_ok rfl))).trans e2)).trans rfl))))).trans e3)]
    simp only [wp_rt]
    exact ⟨(k1.trans k2).trans k3, pot3, ws, rfl, hw, hwn⟩
  · rw [ifS_fN ((t0 0 none none none none none none st1).trans (by rw [decide_eq_false hK]))]
    simp only [wp_nx]
    rw [seq_nx (set_ok (d := .tup [webD rows, webD []]) (st1 := st1) (by
      unfold mTup
      rw [cons_ok (d := webD rows) (st1 := st1) rfl (one_ok (d := webD []) (st1 := st1) (by
        unfold mNil
        simp only [R.ok_bind, List.length_nil]
        rw [guardR_pos (lim_of (by decide))]
        rfl))]
      simp only [R.ok_bind, List.length_cons, List.length_nil]
      rw [guardR_pos (lim_of (by decide))]))]
    simp only [List.set]
    refine wp_seq (wp_mono (wish_walk h hn hN pot1) (fun ρ st' q => ?_) (fun _ _ z => z.elim) (fun _ _ z => z.elim) (fun _ _ z => z.elim) (fun _ _ z => z.elim))
    obtain ⟨ws, ls, x6, x7, rfl, k2, pot2, hw, hwn, hls, hlen⟩ := q
    obtain ⟨us, eu, hu, hun⟩ := S_union (st := st') hw (by rw [hwn]; exact hls) (by omega)
    have c8 : mCall M__law_cards (mCons (mCall M__law_union (mCons (mBin ixD (mV 5) (mC (.int 0))) (mCons (mBin ixD (mV 5) (mC (.int 1))) mNil))) mNil) (env12 rows p N K (some (.tup [webD ws, webD ls])) x6 x7 none none none) st' = .ok (.loc st'.length) (st' ++ [.lst ((cardsOf us).map rowD')]) :=
      (call_ok (one_ok ((call_ok (cons_ok (d := webD ws) (st1 := st') rfl (one_ok (d := webD ls) (st1 := st') rfl))).trans eu))).trans (S_cards hu)
    dsimp only
    rw [seq_nx (set_ok c8)]
    simp only [List.set]
    have hcell := get_mid st' [] (.lst ((cardsOf us).map rowD'))
    obtain ⟨l1, l2⟩ := pot2.lt
    have pot3 : Pot (st' ++ [.lst ((cardsOf us).map rowD')]) p g := pot2.app
    have k3 : Keep p g st (st' ++ [.lst ((cardsOf us).map rowD')]) := (k1.trans k2).trans Keep.app
    have cl := cardsOf_len hu
    have wfin : ∀ {cd : D} {L : List (List Int)} {s x6 x7 x9 x10 : Option D} {st5 : Sto}, (∀ u w : Int, inD false (rowD' [u, w]) cd st5 = .ok (.bl (decide ([u, w] ∈ L))) st5) → Apart L → Keep p g st st5 → Pot st5 p g → (mRet (mCall M__law_web (mCons (mV 8) (mCons (mV 3) mNil))) (env12 rows p N K s x6 x7 (some cd) x9 x10) st5).wp { nx := fun _ s => Keep p g st s ∧ Pot s p g ∧ ∃ ws, D.non = webD ws ∧ IsWeb ws ∧ ws.length = n, rt := fun d s => Keep p g st s ∧ Pot s p g ∧ ∃ ws, d = webD ws ∧ IsWeb ws ∧ ws.length = n } := fun hc ha k q => by
      rw [ret_ok ((call_ok (cons_ok rfl (one_ok rfl))).trans (S_lweb hN (by omega) hc))]
      exact ⟨k, q, _, rfl, apart_web ha (by omega) (by omega), lwebOf_len⟩
    refine wp_seq ?_
    by_cases hK1 : K = 1
    · rw [ifS_t ((t0 1 _ _ _ _ _ _ _).trans (by rw [decide_eq_true hK1]))]
      rw [seq_nx (set_ok ((call_ok (one_ok rfl)).trans (S_pairs hN (by omega))))]
      simp only [List.set]
      generalize hst4 : st' ++ [C.lst ((cardsOf us).map rowD')] = st4 at *
      have hc9 := get_mid st4 [] (.lst ((pairsOf n).map rowD'))
      have pl := pairsOf_len (n := n) (by omega)
      have l8 : st'.length < st4.length := by rw [← hst4]; simp
      have l4 : p < st4.length ∧ g < st4.length := pot3.lt
      have hcell' : (st4 ++ [C.lst ((pairsOf n).map rowD')])[st'.length]? = some (.lst ((cardsOf us).map rowD')) := by rw [List.getElem?_append_left l8]; exact hcell
      have test : mTst (mBin (cmpI fun i j => decide (j < i)) (mCall lenD (mCons (mV 9) mNil)) (mC (.int 0))) (env12 rows p N K (some (.tup [webD ws, webD ls])) x6 x7 (some (.loc st'.length)) (some (.loc st4.length)) none) (st4 ++ [.lst ((pairsOf n).map rowD')]) = .ok (decide ((0 : Int) < (((pairsOf n).length : Nat) : Int))) (st4 ++ [.lst ((pairsOf n).map rowD')]) :=
        tst_ok ((bin_ok (x := .int ((pairsOf n).length : Nat)) (y := .int 0) (st1 := st4 ++ [.lst ((pairsOf n).map rowD')]) (st2 := st4 ++ [.lst ((pairsOf n).map rowD')]) ((call_ok (one_ok rfl)).trans ((lenD_loc hc9).trans (by rw [List.length_map]))) rfl).trans rfl)
      by_cases hz : (0 : Int) < (((pairsOf n).length : Nat) : Int)
      · rw [decide_eq_true hz] at test
        rw [ifS_t test]
        obtain ⟨dd, st5, e5, k5, pot5, q, rfl, q0, q1⟩ := S_draw (m := (((pairsOf n).length : Nat) : Int)) (pot3.app (x := [.lst ((pairsOf n).map rowD')])) hz (by omega)
        have hc9' := k5.get hc9 (by omega) (by omega)
        have hc8' := k5.get hcell' (by omega) (by omega)
        obtain ⟨x, hx, hx2⟩ := atI_in (xs := pairsOf n) q0 q1
        obtain ⟨a, b, ha, hb, ne, rfl⟩ := pairsOf_mem.mp (List.mem_of_getElem? hx2)
        have c10 : mBin ixD (mV 9) (mCall M__law_draw (mCons (mV 0) (mCons (mCall lenD (mCons (mV 9) mNil)) mNil))) (env12 rows p N K (some (.tup [webD ws, webD ls])) x6 x7 (some (.loc st'.length)) (some (.loc st4.length)) none) (st4 ++ [.lst ((pairsOf n).map rowD')]) = .ok (rowD' [(a : Int), (b : Int)]) st5 :=
          (bin_ok (x := .loc st4.length) (st1 := st4 ++ [.lst ((pairsOf n).map rowD')]) rfl ((call_ok (cons_ok rfl (one_ok ((call_ok (one_ok rfl)).trans ((lenD_loc hc9).trans (by rw [List.length_map])))))).trans e5)).trans (ix_at hc9' (by rw [atI_map, hx]; rfl))
        rw [seq_nx (set_ok c10)]
        simp only [List.set]
        obtain ⟨dd, st6, e6, k6, pot6, t, rfl, t1, t2⟩ := S_draw (m := 2) pot5 (by decide) (by decide)
        have c11 : mComp (mIt (mV 8)) [11] (.nm 11) (mTst (mBin neD (mV 11) (mV 10))) (mV 11) (env12 rows p N K (some (.tup [webD ws, webD ls])) x6 x7 (some (.loc st'.length)) (some (.loc st4.length)) (some (rowD' [(a : Int), (b : Int)]))) st5 = .ok (.lst (((cardsOf us).filter fun y => decide (y ≠ [(a : Int), (b : Int)])).map rowD')) st5 := by
          rw [mComp_pure (fun d => match rowOf d with | some y => decide (y ≠ [(a : Int), (b : Int)]) | none => false) (fun d => d) (itm_loc (m := mV 8) rfl hc8') hc8' (by show ((cardsOf us).map rowD').length ≤ lim; rw [List.length_map]; exact lim_of (by omega)) (fun d hd => by
            obtain ⟨y, hy, rfl⟩ := List.mem_map.mp hd
            have ry : rowOf (rowD' y) = some y := by unfold rowD' rowOf; exact ints_map y
            refine ⟨_, rfl, (tst_ok ((bin_ok rfl rfl).trans neD_row)).trans ?_, fun _ => rfl⟩
            rw [ry]
            congr 1
            by_cases e : y = [(a : Int), (b : Int)] <;> simp [e])]
          congr 2
          show (((cardsOf us).map rowD').filter _).map _ = _
          rw [List.map_id', List.filter_map]
          congr 1
          refine List.filter_congr fun y _ => ?_
          have ry : rowOf (rowD' y) = some y := by unfold rowD' rowOf; exact ints_map y
          simp only [Function.comp, ry]
        have c12 : mBin mulD (mLst (mCons (mV 10) mNil)) (mCall M__law_draw (mCons (mV 0) (mCons (mC (.int 2)) mNil))) (env12 rows p N K (some (.tup [webD ws, webD ls])) x6 x7 (some (.loc st'.length)) (some (.loc st4.length)) (some (rowD' [(a : Int), (b : Int)]))) st5 = .ok (.lst ((List.replicate t.toNat [(a : Int), (b : Int)]).map rowD')) st6 := by
          refine (bin_ok (x := .lst [rowD' [(a : Int), (b : Int)]]) (st1 := st5) ?_ ((call_ok (cons_ok rfl (one_ok rfl))).trans e6)).trans ?_
          · unfold mLst
            rw [one_ok (d := rowD' [(a : Int), (b : Int)]) (st1 := st5) rfl]
            simp only [R.ok_bind, List.length_cons, List.length_nil]
            rw [guardR_pos (lim_of (by decide))]
          · rw [mulD_lst, guardR_pos ⟨t1, by omega, by simp⟩]
            simp [List.flatten_replicate_singleton]
        have c13 : mBin addD (mComp (mIt (mV 8)) [11] (.nm 11) (mTst (mBin neD (mV 11) (mV 10))) (mV 11)) (mBin mulD (mLst (mCons (mV 10) mNil)) (mCall M__law_draw (mCons (mV 0) (mCons (mC (.int 2)) mNil)))) (env12 rows p N K (some (.tup [webD ws, webD ls])) x6 x7 (some (.loc st'.length)) (some (.loc st4.length)) (some (rowD' [(a : Int), (b : Int)]))) st5
            = .ok (.lst ((((cardsOf us).filter fun y => decide (y ≠ [(a : Int), (b : Int)])) ++ List.replicate t.toNat [(a : Int), (b : Int)]).map rowD')) st6 := by
          refine (bin_ok c11 c12).trans ?_
          have := List.length_filter_le (fun y => decide (y ≠ [(a : Int), (b : Int)])) (cardsOf us)
          rw [addD_lst, guardR_pos (by rw [List.length_map, List.length_map, List.length_replicate]; exact lim_of (by omega)), List.map_append]
        rw [set_ok c13]
        simp only [List.set, wp_nx]
        refine wfin (fun u w => inD_rows.trans (by rw [Bool.xor_false])) (fun y hy => ?_) (((k3.trans Keep.app).trans k5).trans k6) pot6
        rcases List.mem_append.mp hy with z | z
        · exact apart_cards hu y (List.mem_filter.mp z).1
        · rw [List.eq_of_mem_replicate z]
          exact ⟨_, _, by omega, rfl⟩
      · rw [decide_eq_false hz] at test
        rw [ifS_fN test]
        simp only [wp_nx]
        exact wfin (fun u w => (inD_rowsLoc hcell').trans (by rw [Bool.xor_false])) (apart_cards hu) (k3.trans Keep.app) pot3.app
    · rw [ifS_fN ((t0 1 _ _ _ _ _ _ _).trans (by rw [decide_eq_false hK1]))]
      simp only [wp_nx]
      exact wfin (fun u w => (inD_rowsLoc hcell).trans (by rw [Bool.xor_false])) (apart_cards hu) k3 pot3
end
end Pl

set_option maxHeartbeats 4000000
/-! _law_shown -/
namespace Pl
open PySem PySem.Spec PyProof.Rows L2 Hn
def AddOk (rows F L : List (List Int)) (x : List Int) : Prop := ∃ (v : Nat) (w : Int), v < rows.length ∧ x = [(v : Int), w] ∧ x ∉ L ∧ Clo rows F (v : Nat) w
section
variable {rows F L : List (List Int)} {st : Sto} {p b : Nat}
abbrev envS (rows F : List (List Int)) (p b c : Nat) (x4 x6 x7 x8 x9 : Option D) : Env := [some (.loc p), some (webD rows), some (webD F), some (.loc b), x4, some (.loc c), x6, x7, x8, x9]
theorem shown_in (h : IsWeb rows) (hf : InRange F) (hl : F.length = rows.length) (c1 : LC rows F L) (hb : st[b]? = some (.lst (L.map rowD'))) {u v : Int} (huv : [u, v] ∈ L) {S0 : List (List Int)} (hS0 : ∀ x ∈ S0, AddOk rows F L x) (hS1 : S0.length ≤ 10000) {x4 x8 x9 : Option D} :
    (mFor (mIt (mBin addD (mLst (mCons (mV 6) mNil)) (mComp (mIt (mV 3)) [9] (.nm 9) (mTst (mBin eqD (mBin ixD (mV 9) (mC (.int 0))) (mV 6))) (mBin ixD (mV 9) (mC (.int 1)))))) (.nm 8) (mIfS (mAnd (mTst (mBin neD (mV 8) (mV 7))) (mAnd (mTst (mBin (inD true) (mTup (mCons (mV 7) (mCons (mV 8) mNil))) (mV 3))) (mTst (mBin (inD false) (mV 8) (mBin ixD (mV 2) (mV 7)))))) (mExpr (mMeth appD (mV 5) (mCons (mTup (mCons (mV 7) (mCons (mV 8) mNil))) mNil))) mNext) (envS rows F p b st.length x4 (some (.int u)) (some (.int v)) x8 x9) (st ++ [.lst (S0.map rowD')])).wp
      { nx := fun ρ st' => ∃ S x8 x9, ρ = envS rows F p b st.length x4 (some (.int u)) (some (.int v)) x8 x9 ∧ st' = st ++ [.lst (S.map rowD')] ∧ (∀ x ∈ S, AddOk rows F L x) ∧ S.length ≤ S0.length + 82 ∧ (S = [] → S0 = [] ∧ ∀ w ∈ nxt L u, OkL F L v w) } := by
  have len1 := c1.len h hf hl
  have hbx : ∀ y : Sto, (st ++ y)[b]? = some (.lst (L.map rowD')) := fun y => by rw [List.getElem?_append_left (List.getElem?_eq_some_iff.mp hb).1]; exact hb
  have hmi := itm_lst (nxt_ok (mu := mV 6) (mc := mV 3) (ρ := envS rows F p b st.length x4 (some (.int u)) (some (.int v)) x8 x9) (st := st ++ [.lst (S0.map rowD')]) (c := b) (i := 9) (u := u) (fun y => rfl) rfl rfl (hbx _) c1.pair (by omega) (by show 9 < 10; decide))
  have inl : ∀ {a b : Int}, [a, b] ∈ L → 0 ≤ a ∧ Clo rows F a b := fun {a b} hx => by
    obtain ⟨u', w', _, e, q⟩ := c1.clo _ hx
    injection e with e1 e
    injection e with e2 _
    rw [e1, e2]
    exact ⟨by omega, q⟩
  have cuv := inl huv
  have rv := (cuv.2.rng h hf hl).2.1
  have nl : (nxt L u).length ≤ 82 := by
    unfold nxt
    rw [List.length_cons, List.length_map]
    have := List.length_filter_le (fun x : List Int => decide (x.getD 0 0 = u)) L
    omega
  refine wp_for hmi (fun j ρ st' => ∃ S x8 x9, ρ = envS rows F p b st.length x4 (some (.int u)) (some (.int v)) x8 x9 ∧ st' = st ++ [.lst (S.map rowD')] ∧ (∀ x ∈ S, AddOk rows F L x) ∧ S.length ≤ S0.length + j ∧ (S = [] → S0 = [] ∧ ∀ w ∈ (nxt L u).take j, OkL F L v w)) ⟨S0, _, _, rfl, rfl, hS0, Nat.le_refl _, fun z => ⟨z, fun w hw => by rw [List.take_zero] at hw; cases hw⟩⟩ ?_ ?_
  · rintro j d ρ st' hd ⟨S, y8, y9, rfl, rfl, hS, hlen, hok⟩
    rw [List.getElem?_map] at hd
    obtain ⟨w, hw, rfl⟩ := Option.map_eq_some_iff.mp hd
    have hwm := (nxt_mem c1.pair).mp (List.mem_of_getElem? hw)
    have hj := (List.getElem?_eq_some_iff.mp hw).1
    refine ⟨True.intro, _, rfl, ?_⟩
    simp only [List.set]
    have t1 : mTst (mBin neD (mV 8) (mV 7)) (envS rows F p b st.length x4 (some (.int u)) (some (.int v)) (some (.int w)) y9) (st ++ [.lst (S.map rowD')]) = .ok (!decide (w = v)) (st ++ [.lst (S.map rowD')]) := tst_ok ((bin_ok rfl rfl).trans neD_int)
    have t2 : mTst (mBin (inD true) (mTup (mCons (mV 7) (mCons (mV 8) mNil))) (mV 3)) (envS rows F p b st.length x4 (some (.int u)) (some (.int v)) (some (.int w)) y9) (st ++ [.lst (S.map rowD')]) = .ok (!decide ([v, w] ∈ L)) (st ++ [.lst (S.map rowD')]) := tst_ok ((bin_ok (tup2 rfl) rfl).trans ((inD_rowsLoc (hbx _)).trans (by rw [Bool.xor_true])))
    have t3 : mTst (mBin (inD false) (mV 8) (mBin ixD (mV 2) (mV 7))) (envS rows F p b st.length x4 (some (.int u)) (some (.int v)) (some (.int w)) y9) (st ++ [.lst (S.map rowD')]) = .ok (decide (w ∈ rowAt F v)) (st ++ [.lst (S.map rowD')]) := tst_ok ((bin_ok rfl ((bin_ok rfl rfl).trans (webD_ix rv.1 (by omega) _))).trans (inD_row.trans (by rw [Bool.xor_false])))
    have test : mAnd (mTst (mBin neD (mV 8) (mV 7))) (mAnd (mTst (mBin (inD true) (mTup (mCons (mV 7) (mCons (mV 8) mNil))) (mV 3))) (mTst (mBin (inD false) (mV 8) (mBin ixD (mV 2) (mV 7))))) (envS rows F p b st.length x4 (some (.int u)) (some (.int v)) (some (.int w)) y9) (st ++ [.lst (S.map rowD')])
        = .ok (decide (w ≠ v ∧ [v, w] ∉ L ∧ w ∈ rowAt F v)) (st ++ [.lst (S.map rowD')]) := by
      by_cases h1 : w = v
      · rw [decide_eq_true h1] at t1
        rw [and_f t1]
        simp [h1]
      · rw [decide_eq_false h1] at t1
        rw [and_t t1]
        by_cases h2 : [v, w] ∈ L
        · rw [decide_eq_true h2] at t2
          rw [and_f t2, decide_eq_false fun z => z.2.1 h2]
        · rw [decide_eq_false h2] at t2
          rw [and_t t2, t3]
          congr 1
          rw [Bool.eq_iff_iff, decide_eq_true_iff, decide_eq_true_iff]
          exact ⟨fun z => ⟨h1, h2, z⟩, fun z => z.2.2⟩
    by_cases hc : w ≠ v ∧ [v, w] ∉ L ∧ w ∈ rowAt F v
    · rw [decide_eq_true hc] at test
      rw [ifS_t test, app_ok (d := rowD' [v, w]) rfl (tup2 rfl) (by rw [List.length_map]; omega)]
      simp only [wp_nx]
      have cvw : Clo rows F v w := by
        rcases hwm with z | z
        · rw [z] at hc ⊢
          exact .own cuv.2 hc.1 hc.2.2
        · exact .step cuv.2 (inl z).2 hc.1 hc.2.2
      have ev : ((v.toNat : Nat) : Int) = v := by omega
      refine ⟨S ++ [[v, w]], some (.int w), y9, rfl, by simp, fun x hx => ?_, by rw [List.length_append]; simp only [List.length_cons, List.length_nil]; omega, fun z => absurd z (by simp)⟩
      rcases List.mem_append.mp hx with z | z
      · exact hS x z
      · rw [List.mem_singleton.mp z]
        exact ⟨v.toNat, w, by omega, by rw [ev], hc.2.1, by rw [ev]; exact cvw⟩
    · rw [decide_eq_false hc] at test
      rw [ifS_fN test]
      simp only [wp_nx]
      refine ⟨S, _, _, rfl, rfl, hS, by omega, fun z => ⟨(hok z).1, fun x hx => ?_⟩⟩
      rw [List.take_add_one, hw] at hx
      rcases List.mem_append.mp hx with q | q
      · exact (hok z).2 x q
      · rw [List.mem_singleton.mp q]
        exact hc
  · rintro ρ st' ⟨S, y8, y9, rfl, rfl, hS, hlen, hok⟩
    rw [List.length_map] at hlen hok
    refine ⟨True.intro, S, _, _, rfl, rfl, hS, by omega, fun z => ⟨(hok z).1, fun w hw => ?_⟩⟩
    have := (hok z).2
    rw [List.take_length] at this
    exact this w hw
theorem shown_pass (h : IsWeb rows) (hf : InRange F) (hl : F.length = rows.length) (c1 : LC rows F L) (hb : st[b]? = some (.lst (L.map rowD'))) {x4 x6 x7 x8 x9 : Option D} :
    (mFor (mIt (mV 3)) (.tp [(.nm 6), (.nm 7)]) (mFor (mIt (mBin addD (mLst (mCons (mV 6) mNil)) (mComp (mIt (mV 3)) [9] (.nm 9) (mTst (mBin eqD (mBin ixD (mV 9) (mC (.int 0))) (mV 6))) (mBin ixD (mV 9) (mC (.int 1)))))) (.nm 8) (mIfS (mAnd (mTst (mBin neD (mV 8) (mV 7))) (mAnd (mTst (mBin (inD true) (mTup (mCons (mV 7) (mCons (mV 8) mNil))) (mV 3))) (mTst (mBin (inD false) (mV 8) (mBin ixD (mV 2) (mV 7)))))) (mExpr (mMeth appD (mV 5) (mCons (mTup (mCons (mV 7) (mCons (mV 8) mNil))) mNil))) mNext)) (envS rows F p b st.length x4 x6 x7 x8 x9) (st ++ [.lst []])).wp
      { nx := fun ρ st' => ∃ S x6 x7 x8 x9, ρ = envS rows F p b st.length x4 x6 x7 x8 x9 ∧ st' = st ++ [.lst (S.map rowD')] ∧ (∀ x ∈ S, AddOk rows F L x) ∧ S.length ≤ 10000 ∧ (S = [] → ClosedL F L) } := by
  have len1 := c1.len h hf hl
  have hbx : ∀ y : Sto, (st ++ y)[b]? = some (.lst (L.map rowD')) := fun y => by rw [List.getElem?_append_left (List.getElem?_eq_some_iff.mp hb).1]; exact hb
  refine wp_for (itm_loc (m := mV 3) rfl (hbx _)) (fun j ρ st' => ∃ S x6 x7 x8 x9, ρ = envS rows F p b st.length x4 x6 x7 x8 x9 ∧ st' = st ++ [.lst (S.map rowD')] ∧ (∀ x ∈ S, AddOk rows F L x) ∧ S.length ≤ 82 * j ∧ (S = [] → ∀ x ∈ L.take j, ∀ w ∈ nxt L (x.getD 0 0), OkL F L (x.getD 1 0) w)) ⟨[], _, _, _, _, rfl, rfl, fun x hx => (by cases hx), Nat.zero_le _, fun _ x hx => by rw [List.take_zero] at hx; cases hx⟩ ?_ ?_
  · rintro j d ρ st' hd ⟨S, y6, y7, y8, y9, rfl, rfl, hS, hlen, hok⟩
    rw [List.getElem?_map] at hd
    obtain ⟨x, hx, rfl⟩ := Option.map_eq_some_iff.mp hd
    have hxm := List.mem_of_getElem? hx
    have hj := (List.getElem?_eq_some_iff.mp hx).1
    obtain ⟨u, v, rfl⟩ := c1.pair x hxm
    refine ⟨hbx _, _, rfl, ?_⟩
    simp only [List.set]
    refine wp_mono (shown_in h hf hl c1 hb hxm hS (by omega)) (fun ρ st' q => ?_) (fun _ _ z => z.elim) (fun _ _ z => z.elim) (fun _ _ z => z.elim) (fun _ _ z => z.elim)
    obtain ⟨S2, z8, z9, rfl, rfl, hS2, hlen2, hok2⟩ := q
    refine ⟨S2, _, _, _, _, rfl, rfl, hS2, by omega, fun z y hy => ?_⟩
    rw [List.take_add_one, hx] at hy
    rcases List.mem_append.mp hy with q | q
    · exact hok (hok2 z).1 y q
    · rw [List.mem_singleton.mp q]
      exact (hok2 z).2
  · rintro ρ st' ⟨S, y6, y7, y8, y9, rfl, rfl, hS, hlen, hok⟩
    rw [List.length_map] at hlen hok
    refine ⟨hbx _, S, _, _, _, _, rfl, rfl, hS, by omega, fun z u v huv w hw => ?_⟩
    have := hok z
    rw [List.take_length] at this
    exact this [u, v] huv w ((nxt_mem c1.pair).mpr hw)
theorem S_shown {p g : Nat} (h : IsWeb rows) (hf : InRange F) (hl : F.length = rows.length) (hp : Pot st p g) : ∃ d st', M__law_shown [.loc p, webD rows, webD F] st = .ok d st' ∧ Keep p g st st' ∧ Pot st' p g ∧ d = webD (widOf rows F) := by
  have h9 := h.few
  obtain ⟨n, hn⟩ : ∃ n : Nat, rows.length = n := ⟨_, rfl⟩
  obtain ⟨N, hN⟩ : ∃ N : Int, (n : Int) = N := ⟨_, rfl⟩
  have hlenN : ∀ st, lenD [webD rows] st = .ok (.int N) st := fun st => by rw [← hN, ← hn]; exact webD_len
  obtain ⟨lp, lg⟩ := hp.lt
  unfold M__law_shown
  refine def_keep hp rfl ?_
  rw [show (List.map some [D.loc p, webD rows, webD F] ++ List.replicate (10 - 3) none : Env) = [some (.loc p), some (webD rows), some (webD F), none, none, none, none, none, none, none] from rfl]
  rw [seq_nx (set_ok ((call_ok (one_ok rfl)).trans (S_cards h)))]
  simp only [List.set]
  refine wp_seq ?_
  have hms : mCons (mC (.int 100)) mNil [some (.loc p), some (webD rows), some (webD F), some (.loc st.length), none, none, none, none, none, none] (st ++ [.lst ((cardsOf rows).map rowD')]) = .ok [.int 100] (st ++ [.lst ((cardsOf rows).map rowD')]) := rfl
  refine wp_rngN (st1 := st ++ [.lst ((cardsOf rows).map rowD')]) 100 (N := 100) rfl hms (by omega) (fun t ρ st' => ∃ L x4 x5 x6 x7 x8 x9, ρ = [some (.loc p), some (webD rows), some (webD F), some (.loc st.length), x4, x5, x6, x7, x8, x9] ∧ Keep p g st st' ∧ Pot st' p g ∧ st'[st.length]? = some (.lst (L.map rowD')) ∧ LC rows F L ∧ (ClosedL F L ∨ t ≤ L.length))
    ⟨_, _, _, _, _, _, _, rfl, Keep.app, hp.app, get_mid st [] _, .start h, .inr (Nat.zero_le _)⟩ ?_ ?_
  · rintro t T ρ st' hT ht ⟨L, x4, x5, x6, x7, x8, x9, rfl, k1, pot1, hb, c1, hcl⟩
    have len1 := c1.len h hf hl
    refine ⟨_, rfl, ?_⟩
    simp only [List.set]
    rw [seq_nx (set_ok (d := .loc st'.length) (st1 := st' ++ [.lst []]) (by
      simp only [mLstM, mNil, R.ok_bind]
      rw [guardR_pos (lim_of (by decide))]))]
    simp only [List.set]
    refine wp_seq (wp_mono (shown_pass h hf hl c1 hb) (fun ρ st2 q => ?_) (fun _ _ z => z.elim) (fun _ _ z => z.elim) (fun _ _ z => z.elim) (fun _ _ z => z.elim))
    obtain ⟨S, y6, y7, y8, y9, rfl, rfl, hS, hlen, hok⟩ := q
    dsimp only
    have hcell := get_mid st' [] (.lst (S.map rowD'))
    have hbx : ∀ y : Sto, (st' ++ y)[st.length]? = some (.lst (L.map rowD')) := fun y => by rw [List.getElem?_append_left (List.getElem?_eq_some_iff.mp hb).1]; exact hb
    have test : mTst (mBin (cmpI fun i j => decide (j < i)) (mCall lenD (mCons (mV 5) mNil)) (mC (.int 0))) (envS rows F p st.length st'.length (some (.int T)) y6 y7 y8 y9) (st' ++ [.lst (S.map rowD')]) = .ok (decide ((0 : Int) < ((S.length : Nat) : Int))) (st' ++ [.lst (S.map rowD')]) :=
      tst_ok ((bin_ok (x := .int ((S.length : Nat) : Int)) (y := .int 0) (st1 := st' ++ [.lst (S.map rowD')]) (st2 := st' ++ [.lst (S.map rowD')]) ((call_ok (one_ok rfl)).trans ((lenD_loc hcell).trans (by rw [List.length_map]))) rfl).trans rfl)
    have pot2 : Pot (st' ++ [.lst (S.map rowD')]) p g := pot1.app
    by_cases hz : S = []
    · have hz2 : ¬ (0 : Int) < ((S.length : Nat) : Int) := by rw [hz]; simp
      rw [decide_eq_false hz2] at test
      rw [ifS_fN test]
      simp only [wp_nx]
      exact ⟨L, _, _, _, _, _, _, rfl, k1.trans Keep.app, pot2, hbx _, c1, .inl (hok hz)⟩
    · have hz2 : (0 : Int) < ((S.length : Nat) : Int) := by have := List.length_pos_iff.mpr hz; omega
      rw [decide_eq_true hz2] at test
      rw [ifS_t test]
      obtain ⟨dd, st3, e3, k3, pot3, q, rfl, q0, q1⟩ := S_draw (m := ((S.length : Nat) : Int)) pot2 hz2 (by omega)
      have l1 := pot1.lt
      have hc3 := k3.get hcell (by omega) (by omega)
      have hb3 := k3.get (hbx _) (by omega) (by omega)
      obtain ⟨x, hx, hx2⟩ := atI_in (xs := S) q0 q1
      obtain ⟨v, w, hv, rfl, hnot, hclo⟩ := hS x (List.mem_of_getElem? hx2)
      have a1 : mExpr (mMeth appD (mV 3) (mCons (mBin ixD (mV 5) (mCall M__law_draw (mCons (mV 0) (mCons (mCall lenD (mCons (mV 5) mNil)) mNil)))) mNil)) (envS rows F p st.length st'.length (some (.int T)) y6 y7 y8 y9) (st' ++ [.lst (S.map rowD')]) = .nx (envS rows F p st.length st'.length (some (.int T)) y6 y7 y8 y9) (st3.set st.length (.lst ((L ++ [[(v : Int), w]]).map rowD'))) := by
        refine expr_ok (d := .non) ?_
        unfold mMeth
        rw [show mV 3 (envS rows F p st.length st'.length (some (.int T)) y6 y7 y8 y9) (st' ++ [C.lst (S.map rowD')]) = .ok (.loc st.length) (st' ++ [C.lst (S.map rowD')]) from rfl]
        simp only [R.ok_bind, itemsL_loc (hbx _), ofOpt_some]
        rw [one_ok ((bin_ok (x := .loc st'.length) (st1 := st' ++ [.lst (S.map rowD')]) rfl ((call_ok (cons_ok rfl (one_ok ((call_ok (one_ok rfl)).trans ((lenD_loc hcell).trans (by rw [List.length_map])))))).trans e3)).trans (ix_at hc3 (d := rowD' [(v : Int), w]) (by rw [atI_map, hx]; rfl)))]
        simp only [R.ok_bind, appD, lstOf_loc hb3, ofOpt_some]
        rw [guardR_pos (by rw [List.length_map]; exact lim_of (by omega)), List.map_append]
        rfl
      rw [a1]
      simp only [wp_nx]
      have k4 : Keep p g st st3 := (k1.trans Keep.app).trans k3
      refine ⟨L ++ [[(v : Int), w]], _, _, _, _, _, _, rfl, ⟨by rw [List.length_set]; exact k4.le, fun i hi n1 n2 => by rw [get_set_ne (by omega)]; exact k4.at_ i hi n1 n2⟩, ?_, get_set_eq hb3, c1.add hv hnot hclo, ?_⟩
      · obtain ⟨ne, gs, ss, t', c, p1, p2, r⟩ := pot3
        exact ⟨ne, gs, ss, t', c, by rw [get_set_ne (by omega)]; exact p1, by rw [get_set_ne (by omega)]; exact p2, r⟩
      · rcases hcl with z | z
        · -- closed: nothing could be added
          exfalso
          obtain ⟨u0, w0, _, _, _⟩ := (⟨v, w, hv, hnot, hclo⟩ : ∃ (a : Nat) (b : Int), a < rows.length ∧ [(a : Int), b] ∉ L ∧ Clo rows F (a : Nat) b)
          have hw := c1.done h hf hl z
          have m1 := (widOf_mem h hf hl hv w).mpr hclo
          rw [← hw] at m1
          exact hnot ((lwebOf_mem hv w).mp m1).2
        · right
          rw [List.length_append]
          simp only [List.length_cons, List.length_nil]
          omega
  · rintro ρ st' ⟨L, x4, x5, x6, x7, x8, x9, rfl, k1, pot1, hb, c1, hcl⟩
    have len1 := c1.len h hf hl
    have cl : ClosedL F L := hcl.elim id fun z => by omega
    have fin := S_lweb (L := L) (cd := .loc st.length) (st := st') hN (by omega) fun u w => (inD_rowsLoc hb).trans (by rw [Bool.xor_false])
    rw [← hn, c1.done h hf hl cl] at fin
    dsimp only
    rw [ret_ok ((call_ok (cons_ok rfl (one_ok ((call_ok (one_ok rfl)).trans (hlenN _))))).trans fin)]
    exact ⟨k1, pot1, rfl⟩
end
end Pl

set_option maxHeartbeats 4000000
/-! what full webs find -/
namespace Pl
open PySem PySem.Spec PyProof.Rows L2 Hn
section
variable {rows ws : List (List Int)}
theorem reach_sub {a b : List (List Int)} (h : IsWeb a) (s : Sub a b) {u w : Int} (hu : 0 ≤ u ∧ u < (a.length : Int)) (r : Reach a u w) : Reach b u w := by
  induction r with
  | refl => exact .refl
  | step r1 hw ih =>
    rename_i v w
    have rv := r1.range h.inr hu
    have ev : ((v.toNat : Nat) : Int) = v := by omega
    have := s.2 v.toNat (by omega) w (by rw [ev]; exact hw)
    rw [ev] at this
    exact .step ih this
theorem first_none (h : IsWeb rows) (k : IsWeb ws) (hl : ws.length = rows.length) : firstB (findsOf rows) (findsOf ws) = none ↔ ∀ u : Nat, u < rows.length → ∀ w, Reach rows (u : Nat) w → Reach ws (u : Nat) w := by
  rw [firstB_none]
  rw [findsOf_len]
  refine forall_congr' fun u => forall_congr' fun hu => forall_congr' fun w => ?_
  rw [findsOf_at (by omega), findsOf_at (by omega), foundOf_mem h.inr (by omega), foundOf_mem k.inr (by omega)]
theorem wide_reach (h : IsWeb rows) (k : IsWeb ws) (hl : ws.length = rows.length) (f : firstB (findsOf rows) (findsOf ws) = none) {u : Nat} (hu : u < rows.length) {w : Int} (r : Reach (wideOf rows ws) (u : Nat) w) : Reach ws (u : Nat) w := by
  have fl : (findsOf ws).length = rows.length := by rw [findsOf_len]; exact hl
  have webW : IsWeb (wideOf rows ws) := widOf_web h findsOf_inr fl
  have f2 := (first_none h k hl).mp f
  have card : ∀ {v w : Int}, Clo rows (findsOf ws) v w → Reach ws v w := fun {v w} c => by
    induction c with
    | base h0 hw =>
      rename_i v w
      by_cases hv : v < (rows.length : Int)
      · have ev : ((v.toNat : Nat) : Int) = v := by omega
        have := f2 v.toNat (by omega) w (by rw [ev]; exact .step .refl hw)
        rw [ev] at this
        exact this
      · rw [rowAt_out (by omega)] at hw
        cases hw
    | step c1 c2 ne hm ih1 ih2 =>
      have rv := (c1.rng h findsOf_inr fl).2.1
      rw [findsOf_at (by omega)] at hm
      exact (foundOf_mem k.inr (by omega) _).mp hm
    | own c1 ne hm ih1 =>
      have rv := (c1.rng h findsOf_inr fl).2.1
      rw [findsOf_at (by omega)] at hm
      exact (foundOf_mem k.inr (by omega) _).mp hm
  induction r with
  | refl => exact .refl
  | step r1 hw ih =>
    rename_i v w
    have rv := r1.range webW.inr (by unfold wideOf; rw [widOf_len]; omega)
    unfold wideOf at rv
    rw [widOf_len] at rv
    have ev : ((v.toNat : Nat) : Int) = v := by omega
    have c := (widOf_mem h findsOf_inr fl (v := v.toNat) (by omega) w).mp (by rw [ev]; exact hw)
    rw [ev] at c
    exact ih.trans (card c)
theorem wide_full (h : IsWeb rows) (k : IsWeb ws) (hl : ws.length = rows.length) (f : firstB (findsOf rows) (findsOf ws) = none) : firstB (findsOf (wideOf rows ws)) (findsOf ws) = none ∧ wideOf (wideOf rows ws) ws = wideOf rows ws := by
  have fl : (findsOf ws).length = rows.length := by rw [findsOf_len]; exact hl
  have webW : IsWeb (wideOf rows ws) := widOf_web h findsOf_inr fl
  have lW : (wideOf rows ws).length = rows.length := widOf_len
  refine ⟨(first_none webW k (by omega)).mpr fun u hu w r => wide_reach h k hl f (by omega) r, ?_⟩
  exact (wid_eq webW findsOf_inr (by omega) webW .refl (widOf_closed h findsOf_inr fl) fun u hu w hw => .base (by omega) hw).symm
theorem whole_finds (k : IsWeb ws) : findsOf (wideOf ws ws) = findsOf ws := by
  have f0 : firstB (findsOf ws) (findsOf ws) = none := firstB_none.mpr fun _ _ _ h => h
  have fl : (findsOf ws).length = ws.length := findsOf_len
  have webW : IsWeb (wideOf ws ws) := widOf_web k findsOf_inr fl
  have lW : (wideOf ws ws).length = ws.length := widOf_len
  refine List.ext_getElem (by rw [findsOf_len, findsOf_len, lW]) fun i h1 h2 => ?_
  rw [← rowAt_nat h1, ← rowAt_nat h2]
  rw [findsOf_len] at h1 h2
  rw [findsOf_at (by omega), findsOf_at (by omega)]
  refine asc_ext foundOf_up foundOf_up fun w => ?_
  rw [foundOf_mem webW.inr (by omega), foundOf_mem k.inr (by omega)]
  exact ⟨fun r => wide_reach k k rfl f0 h2 r, fun r => reach_sub k (widOf_sub k findsOf_inr fl) (by omega) r⟩
/-- where nothing is lacking, the wish's whole web is led to, and is told -/
theorem whole_led (h : IsWeb rows) (k : IsWeb ws) (hl : ws.length = rows.length) (f : firstB (findsOf rows) (findsOf ws) = none) (b : firstB ws (wideOf rows ws) = none) :
    firstB (findsOf rows) (findsOf (wideOf ws ws)) = none ∧ wideOf rows (wideOf ws ws) = wideOf rows ws ∧ firstB (wideOf ws ws) (wideOf rows ws) = none := by
  have fl : (findsOf ws).length = rows.length := by rw [findsOf_len]; exact hl
  have fl2 : (findsOf ws).length = ws.length := findsOf_len
  have e := whole_finds k
  have lW : (wideOf rows ws).length = rows.length := widOf_len
  refine ⟨by rw [e]; exact f, by unfold wideOf at e ⊢; rw [e], firstB_none.mpr fun u hu w hw => ?_⟩
  have hu2 : u < ws.length := by unfold wideOf at hu; rw [widOf_len] at hu; exact hu
  have c := (widOf_mem k findsOf_inr fl2 hu2 w).mp hw
  exact c.least k findsOf_inr fl2 ⟨by omega, fun u hu w hw => firstB_none.mp b u hu w hw⟩ (widOf_closed h findsOf_inr fl)
end
theorem neD_same {d : D} {p : PyData} {st : Sto} (h : toQ st d = some p) (hs : SeqAt.shaped p = true) (he : PyData.eqv p p = true) : neD d d st = .ok (.bl false) st := by
  unfold neD
  rw [h]
  simp only [ofOpt_some]
  rw [guardR_pos ⟨hs, hs⟩, he]
  rfl
theorem ne_web {a : List (List Int)} {st : Sto} : neD (webD a) (webD a) st = .ok (.bl false) st := by rw [neD_web]; simp
theorem ne_non {st : Sto} : neD .non .non st = .ok (.bl false) st := neD_same (p := .none) rfl rfl rfl
theorem ne_three {tag : Str} {a b : Int} {st : Sto} (h : SeqAt.shaped (.str tag) = true) (he : PyData.eqv (.str tag) (.str tag) = true) (hs : SeqAt.shaped (.tuple [.str tag, .int 0, .int 0]) = true) : neD (.tup [.str tag, .int a, .int b]) (.tup [.str tag, .int a, .int b]) st = .ok (.bl false) st := by
  refine neD_same (p := .tuple [.str tag, .int a, .int b]) rfl hs ?_
  show (PyData.eqv (.str tag) (.str tag) && (PyData.eqv (.int a) (.int a) && (PyData.eqv (.int b) (.int b) && true))) = true
  rw [he, eqv_int, eqv_int]
  simp
theorem ne_bar {o1 o2 : Option (Int × Int)} {st : Sto} : neD (barD o1 o2) (barD o1 o2) st = .ok (.bl false) st := by
  unfold barD
  cases o1 with
  | some q => exact ne_three (by decide +kernel) (by decide +kernel) (by decide +kernel)
  | none => cases o2 with
    | some q => exact ne_three (by decide +kernel) (by decide +kernel) (by decide +kernel)
    | none => exact ne_non
end Pl

set_option maxHeartbeats 4000000
/-! the law -/
namespace Pl
open PySem PySem.Spec PyProof.Rows L2 Hn
abbrev env13 (s : D) (p : Nat) (x2 x3 x4 x5 x6 x7 x8 x9 x10 x11 x12 : Option D) : Env := [some s, some (.loc p), x2, x3, x4, x5, x6, x7, x8, x9, x10, x11, x12]
noncomputable def bodyM : Env → Sto → O := 
  (mSeq (mSet 3 (mBin addD (mC (.int 1)) (mCall M__law_draw (mCons (mV 1) (mCons (mIf (mTst (mBin eqD (mCall M__law_draw (mCons (mV 1) (mCons (mC (.int 4)) mNil))) (mC (.int 0)))) (mC (.int 9)) (mC (.int 5))) mNil)))))
    (mSeq (mSet 4 (mCall M__law_drawn_web (mCons (mV 1) (mCons (mV 3) (mCons (mBin addD (mC (.int 2)) (mCall M__law_draw (mCons (mV 1) (mCons (mC (.int 3)) mNil)))) mNil)))))
    (mSeq (mSet 5 (mCall M__law_wish (mCons (mV 1) (mCons (mV 4) (mCons (mC (.bl false)) mNil)))))
    (mSeq (mSet 6 (mCall M_full (mCons (mV 4) (mCons (mV 5) mNil))))
    (mSeq (mIfS (mOr (mTst (mBin neD (mV 6) (mCall M__law_full (mCons (mV 4) (mCons (mV 5) mNil))))) (mTst (mBin neD (mCall M_lack (mCons (mV 4) (mCons (mV 5) mNil))) (mCall M__law_lack (mCons (mV 4) (mCons (mV 5) mNil)))))) (mRet (mC (.bl false))) mNext)
    (mIfS (mTst (mBin (isD true) (mV 6) (mC .non))) (mSeq (mAsg (.tp [(.nm 7), (.nm 8), (.nm 9)]) (mTup (mCons (mCall M__law_finds (mCons (mV 6) mNil)) (mCons (mCall M__law_finds (mCons (mV 5) mNil)) (mCons (mCall M__law_finds (mCons (mV 4) mNil)) mNil)))))
    (mSeq (mFor (mItA rng1R (mCons (mV 3) mNil)) (.nm 10) (mIfS (mOr (mNot (mTru (mCall allD (mCons (mComp (mIt (mBin ixD (mV 7) (mV 10))) [11] (.nm 11) mYes (mBin (inD false) (mV 11) (mBin ixD (mV 8) (mV 10)))) mNil)))) (mNot (mTru (mCall allD (mCons (mComp (mIt (mBin ixD (mV 9) (mV 10))) [11] (.nm 11) mYes (mBin (inD false) (mV 11) (mBin ixD (mV 7) (mV 10)))) mNil))))) (mRet (mC (.bl false))) mNext))
    (mSeq (mIfS (mAnd (mTst (mBin ltD (mV 3) (mC (.int 6)))) (mTst (mBin neD (mCall M__law_shown (mCons (mV 1) (mCons (mV 4) (mCons (mV 8) mNil)))) (mV 6)))) (mRet (mC (.bl false))) mNext)
    (mSeq (mIfS (mOr (mTst (mBin neD (mCall M_full (mCons (mV 6) (mCons (mV 5) mNil))) (mV 6))) (mTst (mBin neD (mCall M_finds (mCons (mV 6) mNil)) (mV 7)))) (mRet (mC (.bl false))) mNext)
    (mIfS (mTst (mBin (isD false) (mCall M_lack (mCons (mV 4) (mCons (mV 5) mNil))) (mC .non))) (mSeq (mSet 12 (mCall M_full (mCons (mV 5) (mCons (mV 5) mNil))))
    (mIfS (mOr (mTst (mBin (isBD true) (mCall M_leads (mCons (mV 4) (mCons (mV 12) (mCons (mC (.bl false)) mNil)))) (mC (.bl true)))) (mTst (mBin neD (mCall M_full (mCons (mV 4) (mCons (mV 12) mNil))) (mV 6)))) (mRet (mC (.bl false))) mNext)) mNext))))) mNext))))))
theorem all_in {E : Option D → Env} {A B : List (List Int)} {U : Int} {u : Nat} {st : Sto} {ia ib : Nat} (hU : (u : Int) = U) (hA : ∀ y, (E y)[ia]? = some (some (webD A))) (hB : ∀ y, (E y)[ib]? = some (some (webD B))) (h10 : ∀ y, (E y)[10]? = some (some (.int U))) (h11 : ∀ y, (E (some y))[11]? = some (some y)) (s11 : ∀ y z, (E y).set 11 z = E z)
    (ha : u < A.length) (hb : u < B.length) (hl : (rowAt A U).length ≤ 1000) (sub : ∀ w ∈ rowAt A U, w ∈ rowAt B U) {y : Option D} :
    (mTru (mCall allD (mCons (mComp (mIt (mBin ixD (mV ia) (mV 10))) [11] (.nm 11) mYes (mBin (inD false) (mV 11) (mBin ixD (mV ib) (mV 10)))) mNil))) (E y) st = .ok true st := by
  have i1 : ∀ y, mBin ixD (mV ia) (mV 10) (E y) st = .ok (rowD' (rowAt A U)) st := fun y => (bin_ok (x := webD A) (y := .int U) (st1 := st) (st2 := st) (by simp only [mV, hA]) (by simp only [mV, h10])).trans (webD_ix (by omega) (by omega) st)
  have i2 : ∀ y, mBin ixD (mV ib) (mV 10) (E y) st = .ok (rowD' (rowAt B U)) st := fun y => (bin_ok (x := webD B) (y := .int U) (st1 := st) (st2 := st) (by simp only [mV, hB]) (by simp only [mV, h10])).trans (webD_ix (by omega) (by omega) st)
  have hq := all_comp (vs := [11]) (p := .nm 11) (m := mBin (inD false) (mV 11) (mBin ixD (mV ib) (mV 10))) (ρ := E y) (fun _ => true) (itm_row (i1 _)) True.intro (by show ((rowAt A U).map D.int).length ≤ lim; rw [List.length_map]; exact lim_of (by omega)) (fun d hd => by
    obtain ⟨w, hw, rfl⟩ := List.mem_map.mp hd
    refine ⟨_, rfl, ?_⟩
    rw [wipeD_cons, wipeD_nil, s11, s11]
    refine (bin_ok (x := .int w) (st1 := st) (by simp only [mV, h11]) (i2 _)).trans (inD_row.trans ?_)
    rw [decide_eq_true (sub w hw)]
    rfl)
  refine tru_bl (hq.trans ?_)
  rw [List.all_eq_true.mpr fun _ _ => rfl]
section
variable {st : Sto} {p g : Nat} {s : D}
theorem finds_row {rows : List (List Int)} (h : IsWeb rows) {u : Nat} (hu : u < rows.length) : (rowAt (findsOf rows) (u : Nat)).length ≤ 1000 := by
  rw [findsOf_at (by omega)]
  have := few_below (n := rows.length) (asc_nodup (foundOf_up (rows := rows) (u := (u : Nat)))) fun w hw => ((foundOf_mem h.inr (by omega) w).mp hw).range h.inr (by omega)
  have := h.few
  omega
theorem S_body (hp : Pot st p g) {x2 x3 x4 x5 x6 x7 x8 x9 x10 x11 x12 : Option D} : (bodyM (env13 s p x2 x3 x4 x5 x6 x7 x8 x9 x10 x11 x12) st).wp { nx := fun ρ st' => (∃ x2 x3 x4 x5 x6 x7 x8 x9 x10 x11 x12, ρ = env13 s p x2 x3 x4 x5 x6 x7 x8 x9 x10 x11 x12) ∧ Pot st' p g } := by
  unfold bodyM
  obtain ⟨dd, st1, e1, k1, pot1, r1, rfl, a1, b1⟩ := S_draw (m := 4) hp (by decide) (by decide)
  obtain ⟨m, hm0, hm1, hm⟩ : ∃ m : Int, 0 < m ∧ m ≤ 9 ∧ mIf (mTst (mBin eqD (mCall M__law_draw (mCons (mV 1) (mCons (mC (.int 4)) mNil))) (mC (.int 0)))) (mC (.int 9)) (mC (.int 5)) (env13 s p x2 x3 x4 x5 x6 x7 x8 x9 x10 x11 x12) st = .ok (.int m) st1 := by
    have t : mTst (mBin eqD (mCall M__law_draw (mCons (mV 1) (mCons (mC (.int 4)) mNil))) (mC (.int 0))) (env13 s p x2 x3 x4 x5 x6 x7 x8 x9 x10 x11 x12) st = .ok (decide (r1 = 0)) st1 := tst_ok ((bin_ok ((call_ok (cons_ok rfl (one_ok rfl))).trans e1) rfl).trans eqD_int)
    by_cases hr : r1 = 0
    · refine ⟨9, by decide, by decide, ?_⟩
      unfold mIf
      rw [t, decide_eq_true hr]
      rfl
    · refine ⟨5, by decide, by decide, ?_⟩
      unfold mIf
      rw [t, decide_eq_false hr]
      rfl
  obtain ⟨dd, st2, e2, k2, pot2, r2, rfl, a2, b2⟩ := S_draw (m := m) pot1 hm0 (by omega)
  obtain ⟨n, hn⟩ : ∃ n : Nat, (n : Int) = 1 + r2 := ⟨(1 + r2).toNat, by omega⟩
  rw [seq_nx (set_ok (d := .int (1 + r2)) (st1 := st2) ((bin_ok rfl ((call_ok (cons_ok rfl (one_ok hm))).trans e2)).trans rfl))]
  simp only [List.set]
  generalize hN : 1 + r2 = N at *
  obtain ⟨dd, st3, e3, k3, pot3, r3, rfl, a3, b3⟩ := S_draw (m := 3) pot2 (by decide) (by decide)
  obtain ⟨dd, st4, e4, k4, pot4, web, rfl, hw, hwn⟩ := S_drawn (N := N) (R := 2 + r3) pot3 hn (by omega) (by omega) (by omega) (by omega)
  rw [seq_nx (set_ok ((call_ok (cons_ok rfl (cons_ok rfl (one_ok (d := .int (2 + r3)) (st1 := st3) ((bin_ok rfl ((call_ok (cons_ok rfl (one_ok rfl))).trans e3)).trans rfl))))).trans e4))]
  simp only [List.set]
  obtain ⟨dd, st5, e5, k5, pot5, wish, rfl, hv, hvn⟩ := S_wish hw pot4
  rw [seq_nx (set_ok ((call_ok (cons_ok rfl (cons_ok rfl (one_ok rfl)))).trans e5))]
  simp only [List.set]
  rw [seq_nx (set_ok ((call_ok (cons_ok rfl (one_ok rfl))).trans (S_full hw hv hvn)))]
  simp only [List.set]
  have ne1 : ∀ st : Sto, neD (fullOf web wish) (fullOf web wish) st = .ok (.bl false) st := fun st => by
    unfold fullOf
    split
    · exact ne_web
    · exact ne_non
  rw [seq_nx (ifS_fN ((or_f (tst_ok ((bin_ok rfl ((call_ok (cons_ok rfl (one_ok rfl))).trans (S_lfull hw hv hvn))).trans (ne1 _)))).trans (tst_ok ((bin_ok ((call_ok (cons_ok rfl (one_ok rfl))).trans (S_lack hw hv hvn)) ((call_ok (cons_ok rfl (one_ok rfl))).trans (S_llack hw hv hvn))).trans ne_bar))))]
  unfold fullOf
  by_cases hf : firstB (findsOf web) (findsOf wish) = none
  · rw [if_pos hf]
    have fl : (findsOf wish).length = web.length := by rw [findsOf_len]; exact hvn
    have webW : IsWeb (wideOf web wish) := widOf_web hw findsOf_inr fl
    have lW : (wideOf web wish).length = web.length := widOf_len
    obtain ⟨f2, wf⟩ := wide_full hw hv hvn hf
    rw [ifS_t (tst_ok (b := true) rfl)]
    have tup3 : mTup (mCons (mCall M__law_finds (mCons (mV 6) mNil)) (mCons (mCall M__law_finds (mCons (mV 5) mNil)) (mCons (mCall M__law_finds (mCons (mV 4) mNil)) mNil))) (env13 s p x2 (some (.int N)) (some (webD web)) (some (webD wish)) (some (webD (wideOf web wish))) x7 x8 x9 x10 x11 x12) st5 = .ok (.tup [webD (findsOf (wideOf web wish)), webD (findsOf wish), webD (findsOf web)]) st5 := by
      unfold mTup
      rw [cons_ok ((call_ok (one_ok (m := mV 6) rfl)).trans (S_lfinds webW)) (cons_ok ((call_ok (one_ok (m := mV 5) rfl)).trans (S_lfinds hv)) (one_ok ((call_ok (one_ok (m := mV 4) rfl)).trans (S_lfinds hw))))]
      simp only [R.ok_bind, List.length_cons, List.length_nil]
      rw [guardR_pos (lim_of (by decide))]
    have asg : mAsg (.tp [(.nm 7), (.nm 8), (.nm 9)]) (mTup (mCons (mCall M__law_finds (mCons (mV 6) mNil)) (mCons (mCall M__law_finds (mCons (mV 5) mNil)) (mCons (mCall M__law_finds (mCons (mV 4) mNil)) mNil)))) (env13 s p x2 (some (.int N)) (some (webD web)) (some (webD wish)) (some (webD (wideOf web wish))) x7 x8 x9 x10 x11 x12) st5 = .nx (env13 s p x2 (some (.int N)) (some (webD web)) (some (webD wish)) (some (webD (wideOf web wish))) (some (webD (findsOf (wideOf web wish)))) (some (webD (findsOf wish))) (some (webD (findsOf web))) x10 x11 x12) st5 := by
      unfold mAsg
      rw [tup3]
      rfl
    rw [seq_nx asg]
    have sub1 := firstB_none.mp f2
    have sub2 : ∀ u : Nat, u < web.length → ∀ w ∈ rowAt (findsOf web) (u : Nat), w ∈ rowAt (findsOf (wideOf web wish)) (u : Nat) := fun u hu w hx => by
      rw [findsOf_at (by omega), foundOf_mem hw.inr (by omega)] at hx
      rw [findsOf_at (by omega), foundOf_mem webW.inr (by omega)]
      exact reach_sub hw (widOf_sub hw findsOf_inr fl) (by omega) hx
    refine wp_seq ?_
    refine wp_rngN (st1 := st5) n hn rfl (by omega) (fun i ρ st' => (∃ x10, ρ = env13 s p x2 (some (.int N)) (some (webD web)) (some (webD wish)) (some (webD (wideOf web wish))) (some (webD (findsOf (wideOf web wish)))) (some (webD (findsOf wish))) (some (webD (findsOf web))) x10 x11 x12) ∧ st' = st5) ⟨⟨_, rfl⟩, rfl⟩ ?_ ?_
    · rintro i I ρ st' hI hi ⟨⟨y10, rfl⟩, rfl⟩
      refine ⟨_, rfl, ?_⟩
      simp only [List.set]
      have r1 := finds_row webW (u := i) (by omega)
      have r2 := finds_row hw (u := i) (by omega)
      rw [hI] at r1 r2
      have q1 := all_in (E := fun y => env13 s p x2 (some (.int N)) (some (webD web)) (some (webD wish)) (some (webD (wideOf web wish))) (some (webD (findsOf (wideOf web wish)))) (some (webD (findsOf wish))) (some (webD (findsOf web))) (some (.int I)) y x12) (A := findsOf (wideOf web wish)) (B := findsOf wish) (ia := 7) (ib := 8) (st := st') (y := x11) hI (fun _ => rfl) (fun _ => rfl) (fun _ => rfl) (fun _ => rfl) (fun _ _ => rfl) (by rw [findsOf_len]; omega) (by rw [findsOf_len]; omega) r1 (by rw [← hI]; exact sub1 i (by rw [findsOf_len]; omega))
      have q2 := all_in (E := fun y => env13 s p x2 (some (.int N)) (some (webD web)) (some (webD wish)) (some (webD (wideOf web wish))) (some (webD (findsOf (wideOf web wish)))) (some (webD (findsOf wish))) (some (webD (findsOf web))) (some (.int I)) y x12) (A := findsOf web) (B := findsOf (wideOf web wish)) (ia := 9) (ib := 7) (st := st') (y := x11) hI (fun _ => rfl) (fun _ => rfl) (fun _ => rfl) (fun _ => rfl) (fun _ _ => rfl) (by rw [findsOf_len]; omega) (by rw [findsOf_len]; omega) r2 (by rw [← hI]; exact sub2 i (by omega))
      rw [ifS_fN ((or_f (not_ok (b := true) q1)).trans (not_ok (b := true) q2))]
      exact ⟨⟨_, rfl⟩, rfl⟩
    · rintro ρ st' ⟨⟨y10, rfl⟩, rfl⟩
      dsimp only
      -- shown
      have shown : ∃ st6, (mAnd (mTst (mBin ltD (mV 3) (mC (.int 6)))) (mTst (mBin neD (mCall M__law_shown (mCons (mV 1) (mCons (mV 4) (mCons (mV 8) mNil)))) (mV 6)))) (env13 s p x2 (some (.int N)) (some (webD web)) (some (webD wish)) (some (webD (wideOf web wish))) (some (webD (findsOf (wideOf web wish)))) (some (webD (findsOf wish))) (some (webD (findsOf web))) y10 x11 x12) st' = .ok false st6 ∧ Pot st6 p g := by
        by_cases h6 : N < 6
        · obtain ⟨dd, st6, e6, k6, pot6, rfl⟩ := S_shown (rows := web) (F := findsOf wish) hw findsOf_inr fl pot5
          refine ⟨st6, ?_, pot6⟩
          rw [and_t (tst_ok (b := true) (st1 := st') ((bin_ok (x := .int N) (y := .int 6) (st1 := st') (st2 := st') rfl rfl).trans (by rw [ltD_int, decide_eq_true h6])))]
          exact tst_ok ((bin_ok ((call_ok (cons_ok rfl (cons_ok rfl (one_ok rfl)))).trans e6) rfl).trans ne_web)
        · exact ⟨st', and_f (tst_ok (b := false) (st1 := st') ((bin_ok (x := .int N) (y := .int 6) (st1 := st') (st2 := st') rfl rfl).trans (by rw [ltD_int, decide_eq_false h6]))), pot5⟩
      obtain ⟨st6, es, pot6⟩ := shown
      rw [seq_nx (ifS_fN es)]
      have full2 : fullOf (wideOf web wish) wish = webD (wideOf web wish) := by unfold fullOf; rw [if_pos f2, wf]
      rw [seq_nx (ifS_fN ((or_f (tst_ok ((bin_ok ((call_ok (cons_ok rfl (one_ok rfl))).trans ((S_full webW hv (by omega)).trans (by rw [full2]))) rfl).trans ne_web))).trans (tst_ok ((bin_ok ((call_ok (one_ok rfl)).trans (S_finds webW)) rfl).trans ne_web))))]
      have tl : mTst (mBin (isD false) (mCall M_lack (mCons (mV 4) (mCons (mV 5) mNil))) (mC .non)) (env13 s p x2 (some (.int N)) (some (webD web)) (some (webD wish)) (some (webD (wideOf web wish))) (some (webD (findsOf (wideOf web wish)))) (some (webD (findsOf wish))) (some (webD (findsOf web))) y10 x11 x12) st6 = .ok (isNon (barOf web wish)) st6 := tst_ok ((bin_ok ((call_ok (cons_ok rfl (one_ok rfl))).trans (S_lack hw hv hvn)) rfl).trans (by simp only [isD, Bool.xor_false]))
      cases hbn : firstB wish (wideOf web wish) with
      | some q =>
        have : isNon (barOf web wish) = false := by unfold barOf; rw [hf, hbn]; rfl
        rw [this] at tl
        rw [ifS_fN tl]
        exact ⟨⟨_, _, _, _, _, _, _, _, _, _, _, rfl⟩, pot6⟩
      | none =>
        have : isNon (barOf web wish) = true := by unfold barOf; rw [hf, hbn]; rfl
        rw [this] at tl
        rw [ifS_t tl]
        obtain ⟨w1, w2, w3⟩ := whole_led hw hv hvn hf hbn
        have f0 : firstB (findsOf wish) (findsOf wish) = none := firstB_none.mpr fun _ _ _ h => h
        have webH : IsWeb (wideOf wish wish) := widOf_web hv findsOf_inr findsOf_len
        have lH : (wideOf wish wish).length = web.length := (widOf_len).trans hvn
        have fh : fullOf wish wish = webD (wideOf wish wish) := by unfold fullOf; rw [if_pos f0]
        have fw : fullOf web (wideOf wish wish) = webD (wideOf web wish) := by unfold fullOf; rw [if_pos w1, w2]
        have bh : isNon (barOf web (wideOf wish wish)) = true := by unfold barOf; rw [w1, w2, w3]; rfl
        rw [seq_nx (set_ok ((call_ok (cons_ok rfl (one_ok rfl))).trans ((S_full hv hv rfl).trans (by rw [fh]))))]
        simp only [List.set]
        rw [ifS_fN ((or_f (tst_ok ((bin_ok ((call_ok (cons_ok rfl (cons_ok rfl (one_ok rfl)))).trans ((S_leads hw webH lH).trans (by rw [bh]))) rfl).trans rfl))).trans (tst_ok ((bin_ok ((call_ok (cons_ok rfl (one_ok rfl))).trans ((S_full hw webH lH).trans (by rw [fw]))) rfl).trans ne_web)))]
        exact ⟨⟨_, _, _, _, _, _, _, _, _, _, _, rfl⟩, pot6⟩
  · rw [if_neg hf]
    rw [ifS_fN (tst_ok (b := false) rfl)]
    exact ⟨⟨_, _, _, _, _, _, _, _, _, _, _, rfl⟩, pot5⟩
end
theorem math : ∀ ns : List Int, ns.length ≤ 63 → ∃ st, M_law [.rol (ns.map .int)] [] = .ok (.bl true) st := by
  intro ns hl
  obtain ⟨st0, p, g, e0, pot0⟩ := S_pot hl
  unfold M_law
  rw [mDef_eq (k := 1) (ds := [.rol (ns.map D.int)]) rfl]
  rw [show (List.map some [D.rol (ns.map D.int)] ++ List.replicate (13 - 1) none : Env) = [some (.rol (ns.map D.int)), none, none, none, none, none, none, none, none, none, none, none, none] from rfl]
  rw [seq_nx (set_ok ((call_ok (one_ok rfl)).trans e0))]
  simp only [List.set]
  have key : (mFor (mItA rng1R (mCons (mC (.int 3)) mNil)) (.nm 2) bodyM (env13 (.rol (ns.map D.int)) p none none none none none none none none none none none) st0).wp { nx := fun ρ st' => (∃ x2 x3 x4 x5 x6 x7 x8 x9 x10 x11 x12, ρ = env13 (.rol (ns.map D.int)) p x2 x3 x4 x5 x6 x7 x8 x9 x10 x11 x12) ∧ Pot st' p g } := by
    refine wp_rngN (st1 := st0) 3 (N := 3) rfl rfl (by omega) (fun i ρ st' => (∃ x2 x3 x4 x5 x6 x7 x8 x9 x10 x11 x12, ρ = env13 (.rol (ns.map D.int)) p x2 x3 x4 x5 x6 x7 x8 x9 x10 x11 x12) ∧ Pot st' p g) ⟨⟨_, _, _, _, _, _, _, _, _, _, _, rfl⟩, pot0⟩ ?_ (fun ρ st' h => h)
    rintro i I ρ st' hI hi ⟨⟨x2, x3, x4, x5, x6, x7, x8, x9, x10, x11, x12, rfl⟩, pot⟩
    refine ⟨_, rfl, ?_⟩
    simp only [List.set]
    exact wp_mono (S_body pot) (fun _ _ h => h) (fun _ _ z => z.elim) (fun _ _ z => z.elim) (fun _ _ z => z.elim) (fun _ _ z => z.elim)
  obtain ⟨ρ', st', e, _, _⟩ := wp_ex key
  unfold bodyM at e
  rw [seq_nx e, ret_ok (m := mC (.bl true)) (d := .bl true) rfl]
  simp only [toR_rt]
  unfold gc
  simp only
  split
  · exact ⟨_, rfl⟩
  · exact ⟨_, rfl⟩
end Pl

set_option maxHeartbeats 8000000
namespace Lw
open PySem PySem.Spec PyProof.Rows L2 EF Hn Pl
open PySem.W (Frag keepIn)
theorem dfn_mk {K : Frag} {h : Heap} {mg : Str → Option Value} {x : Str} {st : Stmt} {ps : List Str} {f : Addr} {od an : Option Addr} {sl : Array (Option Value)} {oc kV dc pm cd ct : Value} (X : K.In h) (G : h.Ns mainGlobals mg)
    (a : PySem.W.nsIn K mainGlobals x = some (some (.ref f))) (l : K.lookup f = some ⟨oc, od, .func (PySem.W.fnOf x x (defArgs st) (defBody st) (defScope st) .none kV dc pm an cd ct), sl⟩) (c : PySem.W.codeIn K cd x = true) (k : keepIn K (.ref f) = true)
    (hb : ∀ (kV doc pm : Value) (an : Option Addr) (cdv ct : Value) (us : List Value), us.length = ps.length → bindArgs (PySem.W.fnOf x x (defArgs st) (defBody st) (defScope st) .none kV doc pm an cdv ct) ⟨us, []⟩ = pure (ps.zip us)) : Dfn K mg x st ps :=
  have F := fun_mk (st := st) l c k
  ⟨f, _, F, F.binds hb, PySem.W.mg_of X G a⟩
def errB (K : Frag) (C : Addr) : Bool := keepIn K (.ref C) && PySem.W.excIn K C PySem.HandSPX.veTail "ValueError.__new__" && (PySem.W.subIn K (.ref C) (.type "BaseException") == some true) && (PySem.W.typeIn K (.ref C) == some (.type "type"))
theorem err_of {K : Frag} {mg : Str → Option Value} {x : Str} {C : Addr} (g : mg x = some (.ref C)) (h : errB K C = true) : Err K mg x C := by
  unfold errB at h
  simp only [Bool.and_eq_true] at h
  obtain ⟨⟨⟨h1, h2⟩, h3⟩, h4⟩ := h
  exact ⟨g, h1, h2, eq_of_beq h3, eq_of_beq h4⟩
theorem all_mk {l : PySem.W.OpenLaw} {w : World} {K : Frag} {h : Heap} {mg : Str → Option Value} {fa fl : Addr} {od an : Option Addr} {sl : Array (Option Value)} {oc kV dc pm cd ct : Value} {tkMOST_PEOPLE : Tok} {CNoWeb : Addr} (X : K.In h) (G : h.Ns mainGlobals mg) (hfa : mg "law" = some (.ref fa))
    (al : PySem.W.nsIn K mainGlobals "law" = some (some (.ref fl))) (ll : K.lookup fl = some ⟨oc, od, .func (PySem.W.fnOf "law" "law" (defArgs slaw) (defBody slaw) (defScope slaw) .none kV dc pm an cd ct), sl⟩) (cl : PySem.W.codeIn K cd "law" = true) (kl : keepIn K (.ref fl) = true)
    (zlen : PySem.W.nsIn K mainGlobals "len" = some none)
    (zint : PySem.W.nsIn K mainGlobals "int" = some none)
    (zabs : PySem.W.nsIn K mainGlobals "abs" = some none)
    (zsum : PySem.W.nsIn K mainGlobals "sum" = some none)
    (zisinstance : PySem.W.nsIn K mainGlobals "isinstance" = some none)
    (zall : PySem.W.nsIn K mainGlobals "all" = some none)
    (zany : PySem.W.nsIn K mainGlobals "any" = some none)
    (zrange : PySem.W.nsIn K mainGlobals "range" = some none)
    (zenumerate : PySem.W.nsIn K mainGlobals "enumerate" = some none)
    (zzip : PySem.W.nsIn K mainGlobals "zip" = some none)
    (ztuple : PySem.W.nsIn K mainGlobals "tuple" = some none)
    (zlist : PySem.W.nsIn K mainGlobals "list" = some none)
    (zbool : PySem.W.nsIn K mainGlobals "bool" = some none)
    (zsorted : PySem.W.nsIn K mainGlobals "sorted" = some none)
    (zset : PySem.W.nsIn K mainGlobals "set" = some none)
    (zValueError : PySem.W.nsIn K mainGlobals "ValueError" = some none)
    (zmin : PySem.W.nsIn K mainGlobals "min" = some none)
    (zmax : PySem.W.nsIn K mainGlobals "max" = some none)
    (zstr : PySem.W.nsIn K mainGlobals "str" = some none)
    (zdict : PySem.W.nsIn K mainGlobals "dict" = some none)
    (zrepr : PySem.W.nsIn K mainGlobals "repr" = some none)
    (zreversed : PySem.W.nsIn K mainGlobals "reversed" = some none)
    (zKeyError : PySem.W.nsIn K mainGlobals "KeyError" = some none)
    (Dis_integer : Dfn K mg "is_integer" sis_integer ["thing"])
    (Dis_between : Dfn K mg "is_between" sis_between ["thing", "least", "most"])
    (Dis_person : Dfn K mg "is_person" sis_person ["thing", "many"])
    (Dis_ascending : Dfn K mg "is_ascending" sis_ascending ["row"])
    (Dis_web : Dfn K mg "is_web" sis_web ["thing"])
    (Dis_pocket : Dfn K mg "is_pocket" sis_pocket ["thing", "u", "many"])
    (Dcheck_web : Dfn K mg "check_web" scheck_web ["thing"])
    (Dcheck_webs : Dfn K mg "check_webs" scheck_webs ["one", "other"])
    (Dfinds : Dfn K mg "finds" sfinds ["web"])
    (Dsteps_from : Dfn K mg "steps_from" ssteps_from ["pockets", "start"])
    (Dfound_from : Dfn K mg "found_from" sfound_from ["pockets", "start"])
    (Dall_found : Dfn K mg "all_found" sall_found ["pockets"])
    (Dboth_ways : Dfn K mg "both_ways" sboth_ways ["pockets"])
    (Dpieces_among : Dfn K mg "pieces_among" spieces_among ["pockets"])
    (Dknots_among : Dfn K mg "knots_among" sknots_among ["found"])
    (Dknot_around : Dfn K mg "knot_around" sknot_around ["u", "found"])
    (Dwith_card : Dfn K mg "with_card" swith_card ["web", "u", "w"])
    (Djoined : Dfn K mg "joined" sjoined ["row", "item"])
    (Dleads : Dfn K mg "leads" sleads ["web", "wish", "turning"])
    (Dfull : Dfn K mg "full" sfull ["web", "wish"])
    (Dlack : Dfn K mg "lack" slack ["web", "wish"])
    (Dis_led : Dfn K mg "is_led" sis_led ["web", "wish", "turning"])
    (Dbar : Dfn K mg "bar" sbar ["web", "wish"])
    (Dfirst_beyond : Dfn K mg "first_beyond" sfirst_beyond ["one", "other"])
    (Dwidened : Dfn K mg "widened" swidened ["web", "wish"])
    (Dspread : Dfn K mg "spread" sspread ["web", "allowed"])
    (Dnews : Dfn K mg "news" snews ["web", "u", "allowed"])
    (D_law_pot : Dfn K mg "_law_pot" s_law_pot ["script"])
    (D_law_draw : Dfn K mg "_law_draw" s_law_draw ["pot", "many"])
    (D_law_pairs : Dfn K mg "_law_pairs" s_law_pairs ["many"])
    (D_law_web : Dfn K mg "_law_web" s_law_web ["cards", "many"])
    (D_law_cards : Dfn K mg "_law_cards" s_law_cards ["web"])
    (D_law_drawn_web : Dfn K mg "_law_drawn_web" s_law_drawn_web ["hand", "many", "rare"])
    (D_law_finds : Dfn K mg "_law_finds" s_law_finds ["web"])
    (D_law_union : Dfn K mg "_law_union" s_law_union ["web", "letters"])
    (D_law_done : Dfn K mg "_law_done" s_law_done ["standing", "deed"])
    (D_law_deeds : Dfn K mg "_law_deeds" s_law_deeds ["standing", "turning"])
    (D_law_full : Dfn K mg "_law_full" s_law_full ["web", "wish"])
    (D_law_lack : Dfn K mg "_law_lack" s_law_lack ["web", "wish"])
    (D_law_wish : Dfn K mg "_law_wish" s_law_wish ["hand", "web", "turning"])
    (D_law_shown : Dfn K mg "_law_shown" s_law_shown ["hand", "web", "within"])
    (cMOST_PEOPLE : PySem.W.nsIn K mainGlobals "MOST_PEOPLE" = some (some (.int 9 tkMOST_PEOPLE)))
    (aNoWeb : PySem.W.nsIn K mainGlobals "NoWeb" = some (some (.ref CNoWeb)))
    (bNoWeb : errB K CNoWeb = true) :
    ∃ fd : FuncData, (∀ (s : Shared) (v : Value), BindsTo s fd ⟨[v], []⟩ [("script", v)]) ∧ ∀ base : Heap, K.In base → base.Ns mainGlobals mg → FnOk l.prog w K mg base (L2.CX l.prog w) 9 fa fd ["script"] (spLaw K) := by
  have e := hfa.symm.trans (PySem.W.mg_of X G al)
  cases e
  have F := fun_mk (st := slaw) ll cl kl
  have B : Bl mg := ⟨PySem.W.mg_none_of X G zlen, PySem.W.mg_none_of X G zint, PySem.W.mg_none_of X G zabs, PySem.W.mg_none_of X G zsum, PySem.W.mg_none_of X G zisinstance, PySem.W.mg_none_of X G zall, PySem.W.mg_none_of X G zany, PySem.W.mg_none_of X G zrange, PySem.W.mg_none_of X G zenumerate, PySem.W.mg_none_of X G zzip, PySem.W.mg_none_of X G ztuple, PySem.W.mg_none_of X G zlist, PySem.W.mg_none_of X G zbool, PySem.W.mg_none_of X G zsorted, PySem.W.mg_none_of X G zset, PySem.W.mg_none_of X G zValueError⟩
  have B2 : Bl2 mg := ⟨PySem.W.mg_none_of X G zmin, PySem.W.mg_none_of X G zmax, PySem.W.mg_none_of X G zstr, PySem.W.mg_none_of X G zdict, PySem.W.mg_none_of X G zrepr, PySem.W.mg_none_of X G zreversed, PySem.W.mg_none_of X G zKeyError⟩
  refine ⟨PySem.W.fnOf "law" "law" (defArgs slaw) (defBody slaw) (defScope slaw) .none kV dc pm an cd ct, fun s v => .of_eq rfl, fun base _ _ => ?_⟩
  have TNoWeb : Err K mg "NoWeb" CNoWeb := err_of (PySem.W.mg_of X G aNoWeb) bNoWeb
  have Gis_integer : KM l.prog w K mg base 1 "is_integer" ["thing"] M_is_integer := K_is_integer B B2 Dis_integer
  have Gis_between : KM l.prog w K mg base 2 "is_between" ["thing", "least", "most"] M_is_between := K_is_between B B2 Dis_between Gis_integer
  have Gis_person : KM l.prog w K mg base 3 "is_person" ["thing", "many"] M_is_person := K_is_person B B2 Dis_person Gis_between
  have Gis_ascending : KM l.prog w K mg base 1 "is_ascending" ["row"] M_is_ascending := K_is_ascending B B2 Dis_ascending
  have Gis_pocket : KM l.prog w K mg base 4 "is_pocket" ["thing", "u", "many"] M_is_pocket := K_is_pocket B B2 Dis_pocket Gis_person Gis_ascending
  have Gis_web : KM l.prog w K mg base 5 "is_web" ["thing"] M_is_web := K_is_web B B2 Dis_web Gis_pocket (PySem.W.mg_of X G cMOST_PEOPLE)
  have Gcheck_web : KM l.prog w K mg base 6 "check_web" ["thing"] M_check_web := K_check_web B B2 Dcheck_web Gis_web TNoWeb
  have Gcheck_webs : KM l.prog w K mg base 7 "check_webs" ["one", "other"] M_check_webs := K_check_webs B B2 Dcheck_webs Gis_web Gcheck_web TNoWeb
  have Gsteps_from : KM l.prog w K mg base 1 "steps_from" ["pockets", "start"] M_steps_from := K_steps_from B B2 Dsteps_from
  have Gfound_from : KM l.prog w K mg base 2 "found_from" ["pockets", "start"] M_found_from := K_found_from B B2 Dfound_from Gsteps_from
  have Gall_found : KM l.prog w K mg base 3 "all_found" ["pockets"] M_all_found := K_all_found B B2 Dall_found Gfound_from
  have Gfinds : KM l.prog w K mg base 7 "finds" ["web"] M_finds := K_finds B B2 Dfinds Gcheck_web Gall_found
  have Gboth_ways : KM l.prog w K mg base 1 "both_ways" ["pockets"] M_both_ways := K_both_ways B B2 Dboth_ways
  have Gknot_around : KM l.prog w K mg base 1 "knot_around" ["u", "found"] M_knot_around := K_knot_around B B2 Dknot_around
  have Gknots_among : KM l.prog w K mg base 2 "knots_among" ["found"] M_knots_among := K_knots_among B B2 Dknots_among Gknot_around
  have Gpieces_among : KM l.prog w K mg base 4 "pieces_among" ["pockets"] M_pieces_among := K_pieces_among B B2 Dpieces_among Gall_found Gboth_ways Gknots_among
  have Gjoined : KM l.prog w K mg base 1 "joined" ["row", "item"] M_joined := K_joined B B2 Djoined
  have Gwith_card : KM l.prog w K mg base 2 "with_card" ["web", "u", "w"] M_with_card := K_with_card B B2 Dwith_card Gjoined
  have Gfirst_beyond : KM l.prog w K mg base 1 "first_beyond" ["one", "other"] M_first_beyond := K_first_beyond B B2 Dfirst_beyond
  have Gnews : KM l.prog w K mg base 1 "news" ["web", "u", "allowed"] M_news := K_news B B2 Dnews
  have Gspread : KM l.prog w K mg base 3 "spread" ["web", "allowed"] M_spread := K_spread B B2 Dspread Gwith_card Gnews
  have Gwidened : KM l.prog w K mg base 4 "widened" ["web", "wish"] M_widened := K_widened B B2 Dwidened Gall_found Gspread
  have Gbar : KM l.prog w K mg base 5 "bar" ["web", "wish"] M_bar := K_bar B B2 Dbar Gall_found Gfirst_beyond Gwidened
  have Gis_led : KM l.prog w K mg base 6 "is_led" ["web", "wish", "turning"] M_is_led := K_is_led B B2 Dis_led Gpieces_among Gbar
  have Gleads : KM l.prog w K mg base 8 "leads" ["web", "wish", "turning"] M_leads := K_leads B B2 Dleads Gcheck_webs Gis_led
  have Gfull : KM l.prog w K mg base 8 "full" ["web", "wish"] M_full := K_full B B2 Dfull Gcheck_webs Gall_found Gfirst_beyond Gwidened
  have Glack : KM l.prog w K mg base 8 "lack" ["web", "wish"] M_lack := K_lack B B2 Dlack Gcheck_webs Gbar
  have G_law_pot : KM l.prog w K mg base 1 "_law_pot" ["script"] M__law_pot := K__law_pot B B2 D_law_pot
  have G_law_draw : KM l.prog w K mg base 1 "_law_draw" ["pot", "many"] M__law_draw := K__law_draw B B2 D_law_draw
  have G_law_pairs : KM l.prog w K mg base 1 "_law_pairs" ["many"] M__law_pairs := K__law_pairs B B2 D_law_pairs
  have G_law_web : KM l.prog w K mg base 1 "_law_web" ["cards", "many"] M__law_web := K__law_web B B2 D_law_web
  have G_law_cards : KM l.prog w K mg base 1 "_law_cards" ["web"] M__law_cards := K__law_cards B B2 D_law_cards
  have G_law_drawn_web : KM l.prog w K mg base 2 "_law_drawn_web" ["hand", "many", "rare"] M__law_drawn_web := K__law_drawn_web B B2 D_law_drawn_web G_law_draw G_law_pairs G_law_web
  have G_law_finds : KM l.prog w K mg base 1 "_law_finds" ["web"] M__law_finds := K__law_finds B B2 D_law_finds
  have G_law_union : KM l.prog w K mg base 2 "_law_union" ["web", "letters"] M__law_union := K__law_union B B2 D_law_union G_law_web G_law_cards
  have G_law_done : KM l.prog w K mg base 1 "_law_done" ["standing", "deed"] M__law_done := K__law_done B B2 D_law_done
  have G_law_deeds : KM l.prog w K mg base 1 "_law_deeds" ["standing", "turning"] M__law_deeds := K__law_deeds B B2 D_law_deeds
  have G_law_full : KM l.prog w K mg base 2 "_law_full" ["web", "wish"] M__law_full := K__law_full B B2 D_law_full G_law_web G_law_cards G_law_finds
  have G_law_lack : KM l.prog w K mg base 3 "_law_lack" ["web", "wish"] M__law_lack := K__law_lack B B2 D_law_lack G_law_finds G_law_full
  have G_law_wish : KM l.prog w K mg base 3 "_law_wish" ["hand", "web", "turning"] M__law_wish := K__law_wish B B2 D_law_wish G_law_draw G_law_pairs G_law_web G_law_cards G_law_drawn_web G_law_union G_law_done G_law_deeds
  have G_law_shown : KM l.prog w K mg base 2 "_law_shown" ["hand", "web", "within"] M__law_shown := K__law_shown B B2 D_law_shown G_law_draw G_law_web G_law_cards
  exact law_fn (K_law B B2 F (fun s us _ hl => .of_eq (match us, hl with | [_], _ => rfl)) hfa Gfinds Gleads Gfull Glack G_law_pot G_law_draw G_law_drawn_web G_law_finds G_law_full G_law_lack G_law_wish G_law_shown) math
end Lw
open PySem PySem.W PyProof.Rows
set_option maxHeartbeats 0 in
theorem PySem.Challenge.cw_stillfound_k16_whole_full_webs_and_lacks_holds : PySem.Challenge.rw_stillfound_k16_whole_full_webs_and_lacks.Holds := by
  w_on; o_law; k_head; (case hw => w_witness2)
  k_fill
  refine L2.walk_of (l := PySem.Challenge.rw_stillfound_k16_whole_full_webs_and_lacks) (n := 63) (k := 9) (x := "script") (CX := fun w => L2.CX PySem.Challenge.rw_stillfound_k16_whole_full_webs_and_lacks.prog w) (sp := fun w => Pl.spLaw _) rfl (by decide) rfl ⟨rfl, by decide, by decide⟩ (fun w h Y => PySem.W.kIn_of Y) ?F (fun _ _ a ns hl _ hS => ⟨a, ns, rfl, hS, hl, fun _ => rfl⟩) Pl.cx_no
  case F =>
    intro w mg fa h KX G hmg
    refine' Lw.all_mk KX G hmg ?al ?ll ?cl ?kl ?zlen ?zint ?zabs ?zsum ?zisinstance ?zall ?zany ?zrange ?zenumerate ?zzip ?ztuple ?zlist ?zbool ?zsorted ?zset ?zValueError ?zmin ?zmax ?zstr ?zdict ?zrepr ?zreversed ?zKeyError ?Dis_integer ?Dis_between ?Dis_person ?Dis_ascending ?Dis_web ?Dis_pocket ?Dcheck_web ?Dcheck_webs ?Dfinds ?Dsteps_from ?Dfound_from ?Dall_found ?Dboth_ways ?Dpieces_among ?Dknots_among ?Dknot_around ?Dwith_card ?Djoined ?Dleads ?Dfull ?Dlack ?Dis_led ?Dbar ?Dfirst_beyond ?Dwidened ?Dspread ?Dnews ?D_law_pot ?D_law_draw ?D_law_pairs ?D_law_web ?D_law_cards ?D_law_drawn_web ?D_law_finds ?D_law_union ?D_law_done ?D_law_deeds ?D_law_full ?D_law_lack ?D_law_wish ?D_law_shown ?cMOST_PEOPLE ?aNoWeb ?bNoWeb
    (case al => k_is)
    (case ll => k_is)
    (case cl => k_is)
    (case kl => k_is)
    (case zlen => k_is)
    (case zint => k_is)
    (case zabs => k_is)
    (case zsum => k_is)
    (case zisinstance => k_is)
    (case zall => k_is)
    (case zany => k_is)
    (case zrange => k_is)
    (case zenumerate => k_is)
    (case zzip => k_is)
    (case ztuple => k_is)
    (case zlist => k_is)
    (case zbool => k_is)
    (case zsorted => k_is)
    (case zset => k_is)
    (case zValueError => k_is)
    (case zmin => k_is)
    (case zmax => k_is)
    (case zstr => k_is)
    (case zdict => k_is)
    (case zrepr => k_is)
    (case zreversed => k_is)
    (case zKeyError => k_is)
    (case Dis_integer => refine' Lw.dfn_mk KX G ?a ?l ?c ?k (fun _ _ _ _ _ _ us hl => match us, hl with | [_], _ => rfl); (case a => k_is); (case l => k_is); (case c => k_is); (case k => k_is))
    (case Dis_between => refine' Lw.dfn_mk KX G ?a ?l ?c ?k (fun _ _ _ _ _ _ us hl => match us, hl with | [_, _, _], _ => rfl); (case a => k_is); (case l => k_is); (case c => k_is); (case k => k_is))
    (case Dis_person => refine' Lw.dfn_mk KX G ?a ?l ?c ?k (fun _ _ _ _ _ _ us hl => match us, hl with | [_, _], _ => rfl); (case a => k_is); (case l => k_is); (case c => k_is); (case k => k_is))
    (case Dis_ascending => refine' Lw.dfn_mk KX G ?a ?l ?c ?k (fun _ _ _ _ _ _ us hl => match us, hl with | [_], _ => rfl); (case a => k_is); (case l => k_is); (case c => k_is); (case k => k_is))
    (case Dis_web => refine' Lw.dfn_mk KX G ?a ?l ?c ?k (fun _ _ _ _ _ _ us hl => match us, hl with | [_], _ => rfl); (case a => k_is); (case l => k_is); (case c => k_is); (case k => k_is))
    (case Dis_pocket => refine' Lw.dfn_mk KX G ?a ?l ?c ?k (fun _ _ _ _ _ _ us hl => match us, hl with | [_, _, _], _ => rfl); (case a => k_is); (case l => k_is); (case c => k_is); (case k => k_is))
    (case Dcheck_web => refine' Lw.dfn_mk KX G ?a ?l ?c ?k (fun _ _ _ _ _ _ us hl => match us, hl with | [_], _ => rfl); (case a => k_is); (case l => k_is); (case c => k_is); (case k => k_is))
    (case Dcheck_webs => refine' Lw.dfn_mk KX G ?a ?l ?c ?k (fun _ _ _ _ _ _ us hl => match us, hl with | [_, _], _ => rfl); (case a => k_is); (case l => k_is); (case c => k_is); (case k => k_is))
    (case Dfinds => refine' Lw.dfn_mk KX G ?a ?l ?c ?k (fun _ _ _ _ _ _ us hl => match us, hl with | [_], _ => rfl); (case a => k_is); (case l => k_is); (case c => k_is); (case k => k_is))
    (case Dsteps_from => refine' Lw.dfn_mk KX G ?a ?l ?c ?k (fun _ _ _ _ _ _ us hl => match us, hl with | [_, _], _ => rfl); (case a => k_is); (case l => k_is); (case c => k_is); (case k => k_is))
    (case Dfound_from => refine' Lw.dfn_mk KX G ?a ?l ?c ?k (fun _ _ _ _ _ _ us hl => match us, hl with | [_, _], _ => rfl); (case a => k_is); (case l => k_is); (case c => k_is); (case k => k_is))
    (case Dall_found => refine' Lw.dfn_mk KX G ?a ?l ?c ?k (fun _ _ _ _ _ _ us hl => match us, hl with | [_], _ => rfl); (case a => k_is); (case l => k_is); (case c => k_is); (case k => k_is))
    (case Dboth_ways => refine' Lw.dfn_mk KX G ?a ?l ?c ?k (fun _ _ _ _ _ _ us hl => match us, hl with | [_], _ => rfl); (case a => k_is); (case l => k_is); (case c => k_is); (case k => k_is))
    (case Dpieces_among => refine' Lw.dfn_mk KX G ?a ?l ?c ?k (fun _ _ _ _ _ _ us hl => match us, hl with | [_], _ => rfl); (case a => k_is); (case l => k_is); (case c => k_is); (case k => k_is))
    (case Dknots_among => refine' Lw.dfn_mk KX G ?a ?l ?c ?k (fun _ _ _ _ _ _ us hl => match us, hl with | [_], _ => rfl); (case a => k_is); (case l => k_is); (case c => k_is); (case k => k_is))
    (case Dknot_around => refine' Lw.dfn_mk KX G ?a ?l ?c ?k (fun _ _ _ _ _ _ us hl => match us, hl with | [_, _], _ => rfl); (case a => k_is); (case l => k_is); (case c => k_is); (case k => k_is))
    (case Dwith_card => refine' Lw.dfn_mk KX G ?a ?l ?c ?k (fun _ _ _ _ _ _ us hl => match us, hl with | [_, _, _], _ => rfl); (case a => k_is); (case l => k_is); (case c => k_is); (case k => k_is))
    (case Djoined => refine' Lw.dfn_mk KX G ?a ?l ?c ?k (fun _ _ _ _ _ _ us hl => match us, hl with | [_, _], _ => rfl); (case a => k_is); (case l => k_is); (case c => k_is); (case k => k_is))
    (case Dleads => refine' Lw.dfn_mk KX G ?a ?l ?c ?k (fun _ _ _ _ _ _ us hl => match us, hl with | [_, _, _], _ => rfl); (case a => k_is); (case l => k_is); (case c => k_is); (case k => k_is))
    (case Dfull => refine' Lw.dfn_mk KX G ?a ?l ?c ?k (fun _ _ _ _ _ _ us hl => match us, hl with | [_, _], _ => rfl); (case a => k_is); (case l => k_is); (case c => k_is); (case k => k_is))
    (case Dlack => refine' Lw.dfn_mk KX G ?a ?l ?c ?k (fun _ _ _ _ _ _ us hl => match us, hl with | [_, _], _ => rfl); (case a => k_is); (case l => k_is); (case c => k_is); (case k => k_is))
    (case Dis_led => refine' Lw.dfn_mk KX G ?a ?l ?c ?k (fun _ _ _ _ _ _ us hl => match us, hl with | [_, _, _], _ => rfl); (case a => k_is); (case l => k_is); (case c => k_is); (case k => k_is))
    (case Dbar => refine' Lw.dfn_mk KX G ?a ?l ?c ?k (fun _ _ _ _ _ _ us hl => match us, hl with | [_, _], _ => rfl); (case a => k_is); (case l => k_is); (case c => k_is); (case k => k_is))
    (case Dfirst_beyond => refine' Lw.dfn_mk KX G ?a ?l ?c ?k (fun _ _ _ _ _ _ us hl => match us, hl with | [_, _], _ => rfl); (case a => k_is); (case l => k_is); (case c => k_is); (case k => k_is))
    (case Dwidened => refine' Lw.dfn_mk KX G ?a ?l ?c ?k (fun _ _ _ _ _ _ us hl => match us, hl with | [_, _], _ => rfl); (case a => k_is); (case l => k_is); (case c => k_is); (case k => k_is))
    (case Dspread => refine' Lw.dfn_mk KX G ?a ?l ?c ?k (fun _ _ _ _ _ _ us hl => match us, hl with | [_, _], _ => rfl); (case a => k_is); (case l => k_is); (case c => k_is); (case k => k_is))
    (case Dnews => refine' Lw.dfn_mk KX G ?a ?l ?c ?k (fun _ _ _ _ _ _ us hl => match us, hl with | [_, _, _], _ => rfl); (case a => k_is); (case l => k_is); (case c => k_is); (case k => k_is))
    (case D_law_pot => refine' Lw.dfn_mk KX G ?a ?l ?c ?k (fun _ _ _ _ _ _ us hl => match us, hl with | [_], _ => rfl); (case a => k_is); (case l => k_is); (case c => k_is); (case k => k_is))
    (case D_law_draw => refine' Lw.dfn_mk KX G ?a ?l ?c ?k (fun _ _ _ _ _ _ us hl => match us, hl with | [_, _], _ => rfl); (case a => k_is); (case l => k_is); (case c => k_is); (case k => k_is))
    (case D_law_pairs => refine' Lw.dfn_mk KX G ?a ?l ?c ?k (fun _ _ _ _ _ _ us hl => match us, hl with | [_], _ => rfl); (case a => k_is); (case l => k_is); (case c => k_is); (case k => k_is))
    (case D_law_web => refine' Lw.dfn_mk KX G ?a ?l ?c ?k (fun _ _ _ _ _ _ us hl => match us, hl with | [_, _], _ => rfl); (case a => k_is); (case l => k_is); (case c => k_is); (case k => k_is))
    (case D_law_cards => refine' Lw.dfn_mk KX G ?a ?l ?c ?k (fun _ _ _ _ _ _ us hl => match us, hl with | [_], _ => rfl); (case a => k_is); (case l => k_is); (case c => k_is); (case k => k_is))
    (case D_law_drawn_web => refine' Lw.dfn_mk KX G ?a ?l ?c ?k (fun _ _ _ _ _ _ us hl => match us, hl with | [_, _, _], _ => rfl); (case a => k_is); (case l => k_is); (case c => k_is); (case k => k_is))
    (case D_law_finds => refine' Lw.dfn_mk KX G ?a ?l ?c ?k (fun _ _ _ _ _ _ us hl => match us, hl with | [_], _ => rfl); (case a => k_is); (case l => k_is); (case c => k_is); (case k => k_is))
    (case D_law_union => refine' Lw.dfn_mk KX G ?a ?l ?c ?k (fun _ _ _ _ _ _ us hl => match us, hl with | [_, _], _ => rfl); (case a => k_is); (case l => k_is); (case c => k_is); (case k => k_is))
    (case D_law_done => refine' Lw.dfn_mk KX G ?a ?l ?c ?k (fun _ _ _ _ _ _ us hl => match us, hl with | [_, _], _ => rfl); (case a => k_is); (case l => k_is); (case c => k_is); (case k => k_is))
    (case D_law_deeds => refine' Lw.dfn_mk KX G ?a ?l ?c ?k (fun _ _ _ _ _ _ us hl => match us, hl with | [_, _], _ => rfl); (case a => k_is); (case l => k_is); (case c => k_is); (case k => k_is))
    (case D_law_full => refine' Lw.dfn_mk KX G ?a ?l ?c ?k (fun _ _ _ _ _ _ us hl => match us, hl with | [_, _], _ => rfl); (case a => k_is); (case l => k_is); (case c => k_is); (case k => k_is))
    (case D_law_lack => refine' Lw.dfn_mk KX G ?a ?l ?c ?k (fun _ _ _ _ _ _ us hl => match us, hl with | [_, _], _ => rfl); (case a => k_is); (case l => k_is); (case c => k_is); (case k => k_is))
    (case D_law_wish => refine' Lw.dfn_mk KX G ?a ?l ?c ?k (fun _ _ _ _ _ _ us hl => match us, hl with | [_, _, _], _ => rfl); (case a => k_is); (case l => k_is); (case c => k_is); (case k => k_is))
    (case D_law_shown => refine' Lw.dfn_mk KX G ?a ?l ?c ?k (fun _ _ _ _ _ _ us hl => match us, hl with | [_, _, _], _ => rfl); (case a => k_is); (case l => k_is); (case c => k_is); (case k => k_is))
    (case cMOST_PEOPLE => k_is)
    (case aNoWeb => k_is)
    (case bNoWeb => kernel_rfl)

