import PyProof.Rows.All
import Wide.All
import OpenK.AllK
import Wide.FinOn
import Lean
import PyProof.EqAt
import PyProof.EqKinds
import PyProof.TupleCall
import PyProof.StationsW
import PyProof.ExcInit
import PyProof.ExcClass2
import PyProof.NsDelKeeps
import PyProof.RulesAs
import PyProof.ListRange
import PyProof.Rows.SortShell
import KE.KSortKey
import KE.KLam
import KE.KNestM
import PySem.Challenge.RW_sidings_k01_run
set_option Elab.async false
set_option linter.all false
set_option maxRecDepth 100000
set_option maxHeartbeats 4000000
/-! THE HAND LAYER, for ints, bools, texts, own classes, LISTS and tuples (index, slices, in, append, pop ..), calls, loops. Paste it whole ahead of your own text; what your proof does not reach may be deleted. -/
namespace L2
open PySem PySem.Spec PyProof.Rows

/-- a key: an int or a str -/
abbrev Key := Sum Int Str
def keyIs : Key → Value → Bool
  | .inl k, v => Value.isInt k v
  | .inr x, v => Value.isStrOf x v
def keyH (w : World) : Key → Int
  | .inl k => hashInt k
  | .inr x => hashStr w x
theorem keyIs_shape : ∀ {k : Key} {v : Value}, keyIs k v = true → (∃ i t, k = Sum.inl i ∧ v = Value.int i t) ∨ (∃ x t, k = Sum.inr x ∧ v = Value.str x t)
  | .inl i, v, h => by
    obtain ⟨t, e⟩ := Value.isInt_shape (k := i) (v := v) h
    exact .inl ⟨i, t, rfl, e⟩
  | .inr x, v, h => by
    obtain ⟨t, e⟩ := Value.isStrOf_shape (x := x) (v := v) h
    exact .inr ⟨x, t, rfl, e⟩
theorem keyIs_int (i : Int) (t : Tok) : keyIs (.inl i) (.int i t) = true := by simp [keyIs, Value.isInt]
theorem keyIs_str (x : Str) (t : Tok) : keyIs (.inr x) (.str x t) = true := by simp [keyIs, Value.isStrOf]
theorem key_ll (a b : Int) : decide ((Sum.inl a : Key) = Sum.inl b) = (a == b) := by
  by_cases e : a = b
  · subst e; simp
  · have h : ¬ (Sum.inl a : Key) = Sum.inl b := fun q => e (Sum.inl.inj q)
    rw [decide_eq_false h]
    exact (beq_eq_false_iff_ne.mpr e).symm
theorem key_rr (a b : Str) : decide ((Sum.inr a : Key) = Sum.inr b) = decide (a = b) := by
  by_cases e : a = b
  · subst e; simp
  · have h : ¬ (Sum.inr a : Key) = Sum.inr b := fun q => e (Sum.inr.inj q)
    rw [decide_eq_false h, decide_eq_false e]
theorem key_lr (a : Int) (b : Str) : decide ((Sum.inl a : Key) = Sum.inr b) = false := decide_eq_false (fun q => nomatch q)
theorem key_rl (a : Str) (b : Int) : decide ((Sum.inr a : Key) = Sum.inl b) = false := decide_eq_false (fun q => nomatch q)

def mixKind (prog : Program) (w : World) : PySem.KeyKind prog w Key where
  is := keyIs
  hash := keyH w
  inj := fun v a b ha hb => by
    rcases keyIs_shape ha with ⟨i, t, rfl, rfl⟩ | ⟨x, t, rfl, rfl⟩
    · rcases keyIs_shape hb with ⟨j, u, rfl, e⟩ | ⟨y, u, rfl, e⟩
      · injection e with e1 _; rw [e1]
      · exact nomatch e
    · rcases keyIs_shape hb with ⟨j, u, rfl, e⟩ | ⟨y, u, rfl, e⟩
      · exact nomatch e
      · injection e with e1 _; rw [e1]
  byValue := fun k v h => by
    rcases keyIs_shape h with ⟨i, t, rfl, rfl⟩ | ⟨x, t, rfl, rfl⟩ <;> rfl
  pyHash := fun hv h => by
    rcases keyIs_shape hv with ⟨i, t, rfl, rfl⟩ | ⟨x, t, rfl, rfl⟩
    · exact wpAny_pyHash_int h
    · exact wpAny_pyHash_str h
  eqBool := fun hu hv h => by
    rcases keyIs_shape hu with ⟨i, t, rfl, rfl⟩ | ⟨x, t, rfl, rfl⟩
    · rcases keyIs_shape hv with ⟨j, u, rfl, rfl⟩ | ⟨y, u, rfl, rfl⟩
      · rw [key_ll] at h; exact wpAny_eqBool_int h
      · rw [key_lr] at h; exact SeqAt.EqAt.int_str i t y u _ _ _ _ h
    · rcases keyIs_shape hv with ⟨j, u, rfl, rfl⟩ | ⟨y, u, rfl, rfl⟩
      · rw [key_rl] at h; exact SeqAt.EqAt.str_int x t j u _ _ _ _ h
      · rw [key_rr] at h; exact wpAny_eqBool_str h
  «strs» := fun k x t v h => by
    rcases keyIs_shape h with ⟨i, u, rfl, e⟩ | ⟨y, u, rfl, e⟩
    · exact nomatch e
    · injection e with e1 _
      subst e1
      cases v <;> rfl

theorem mixKind_int (prog : Program) (w : World) (i : Int) (t : Tok) : (mixKind prog w).is (.inl i) (.int i t) = true := keyIs_int i t
theorem mixKind_str (prog : Program) (w : World) (x : Str) (t : Tok) : (mixKind prog w).is (.inr x) (.str x t) = true := keyIs_str x t
end L2

namespace L2
open PySem PySem.Spec PyProof.Rows

/-- a value, without the heap -/
inductive V where
  | non | bl (b : Bool) | int (i : Int) | str (x : Str) | byt (b : Array UInt8) | flt (b : UInt64) | ref (a : Addr) | ty (n : String)
  deriving DecidableEq

def RelV : V → Value → Prop
  | .non, u => u = Value.none
  | .bl b, u => u = Value.bool b
  | .int i, u => ∃ t, u = Value.int i t
  | .str x, u => ∃ t, u = Value.str x t
  | .byt b, u => ∃ t, u = Value.bytes b t
  | .flt b, u => ∃ t, u = Value.float b t
  | .ref a, u => u = Value.ref a
  | .ty n, u => u = Value.type n

abbrev Vals : List V → List Value → Prop := Paired RelV
theorem Vals.length {xs : List V} {us : List Value} (r : Vals xs us) : xs.length = us.length := Paired.length r
theorem Vals.get : ∀ {xs : List V} {us : List Value} {i : Nat} {x : V}, Vals xs us → xs[i]? = some x → ∃ u, us[i]? = some u ∧ RelV x u
  | _, _, _, _, .nil, e => by simp at e
  | _, _, 0, _, .cons r _, e => by simp at e; subst e; exact ⟨_, rfl, r⟩
  | _, _, i + 1, x, .cons _ t, e => by
    obtain ⟨u, h1, h2⟩ := Vals.get (i := i) (x := x) t (by simpa using e)
    exact ⟨u, by simpa using h1, h2⟩
theorem Vals.set {x : V} {u : Value} (r : RelV x u) : ∀ {xs : List V} {us : List Value} (i : Nat), Vals xs us → Vals (xs.set i x) (us.set i u)
  | _, _, _, .nil => .nil
  | _, _, 0, .cons _ t => .cons r t
  | _, _, i + 1, .cons q t => .cons q (Vals.set r i t)
theorem Vals.append : ∀ {xs ys : List V} {us ws : List Value}, Vals xs us → Vals ys ws → Vals (xs ++ ys) (us ++ ws)
  | _, _, _, _, .nil, s => s
  | _, _, _, _, .cons r t, s => .cons r (Vals.append t s)
theorem Vals.take : ∀ {xs : List V} {us : List Value} (n : Nat), Vals xs us → Vals (xs.take n) (us.take n)
  | _, _, 0, _ => .nil
  | _, _, _ + 1, .nil => .nil
  | _, _, n + 1, .cons r t => .cons r (Vals.take n t)
theorem Vals.drop : ∀ {xs : List V} {us : List Value} (n : Nat), Vals xs us → Vals (xs.drop n) (us.drop n)
  | _, _, 0, r => r
  | _, _, _ + 1, .nil => .nil
  | _, _, n + 1, .cons _ t => Vals.drop n t

def RelO : Option V → Option Value → Prop
  | some v, some u => RelV v u
  | none, none => True
  | _, _ => False
def KV {κ : Type} : List (κ × V) → List (κ × Value) → Prop := Paired fun (p : κ × V) (q : κ × Value) => p.1 = q.1 ∧ RelV p.2 q.2

/-- a key of a dict (00_mix): an int or a text -/
def kV : Key → V
  | .inl i => .int i
  | .inr x => .str x

/-- what stands at a tracked address -/
inductive HO where
  /-- a list -/
  | lst (xs : List V)
  /-- a tuple (never changes) -/
  | tup (xs : List V)
  /-- a dict whose keys are ints and texts; one whose keys are tuples of ints and texts (the empty one is both) -/
  | dK (kvs : List (Key × V)) | dT (kvs : List (List Key × V))
  /-- a set of ints: its members, its size -/
  | set (S : Int → Bool) (n : Nat)
  /-- an instance of the class at C, its dict at dx, its attributes -/
  | ins (C dx : Addr) (fs : List (Str × V))
  /-- the dict of the instance at x -/
  | own (x : Addr)
  /-- the dict of an exception -/
  | xd (fs : List (Str × V))
  /-- a bound method, f of x -/
  | met (f x : Addr)
  /-- a range object lo, lo + 1, .. below hi -/
  | rng (lo hi : Int)
  /-- a thing that is known to the object (the script; a dict while a loop walks it): read, never written while it is so -/
  | frz (o : Obj) (u : HO)
  /-- a code object's table -/
  | tbl (pl : Pos) (q : Str)
  /-- any other thing, by what is true of its one object (a def of one's own: SetO a S n := HO.ext fun h => ..) -/
  | ext (φ : Heap → Prop)

abbrev Hp := Addr → Option HO
def upd (H : Hp) (a : Addr) (o : HO) : Hp := fun b => if b = a then some o else H b
theorem upd_same {H : Hp} {a : Addr} {o : HO} : upd H a o a = some o := by unfold upd; rw [if_pos rfl]
theorem upd_ne {H : Hp} {a b : Addr} {o : HO} (h : b ≠ a) : upd H a o b = H b := by unfold upd; rw [if_neg h]
/-- two objects of different content stand apart -/
theorem ne_of {H : Hp} {a b : Addr} {o u : HO} (h : H a = some o) (h' : H b = some u) (d : o ≠ u) : a ≠ b := by
  intro e; subst e; rw [h] at h'; exact d (Option.some.inj h')
theorem ne_of_none {H : Hp} {a b : Addr} {o : HO} (h : H a = some o) (h' : H b = none) : a ≠ b := by
  intro e; subst e; rw [h] at h'; cases h'

section
variable (P : Program) (w : World)
def ObjOk (H : Hp) (h : Heap) (a : Addr) : HO → Prop
  | .lst xs => xs.length ≤ sizeLine ∧ ∃ (its : List Value) (n : Nat), Vals xs its ∧ h.get? a = some { cls := .type "list", data := .seq its.toArray n }
  | .tup xs => xs.length ≤ sizeLine ∧ ∃ its : List Value, Vals xs its ∧ IsTup h a its.toArray
  | .dK kvs => kvs.length ≤ sizeLine ∧ (a == sysModules) = false ∧ ∃ vs, KV kvs vs ∧ h.DictOf (mixKind P w) a vs
  | .dT kvs => kvs.length ≤ sizeLine ∧ (a == sysModules) = false ∧ ∃ xs : List (List Key × Addr × Value),
      Paired (fun (p : List Key × V) (q : List Key × Addr × Value) => p.1 = q.1 ∧ H q.2.1 = some (.tup (p.1.map kV)) ∧ RelV p.2 q.2.2) kvs xs ∧
      ∃ o es ep, h.get? a = some o ∧ o.ExactDict ∧ o.data = .dict es ep ∧ es.toList = xs.map (entryOfKey (tupleKind (mixKind P w))) ∧ (xs.map (·.1)).Nodup
  | .set S n => h.SetOf (intKind P w) a S n
  | .ins C dx fs => H dx = some (.own a) ∧ fs.length ≤ 1000 ∧ dx ≠ a ∧ h.get? a = some (PySem.W.instObj C dx) ∧
      ∃ mA, h.Ns1 dx mA ∧ (∀ f, RelO (fs.lookup f) (mA f)) ∧ PySem.Within mA (fs.map (·.1))
  | .own _ => ∃ o, h.get? a = some o
  | .xd fs => ∃ mA, h.Ns1 a mA ∧ ∀ f, RelO (fs.lookup f) (mA f)
  | .rng lo hi => ∃ t u v, h.get? a = some { cls := .type "range", data := .fields #[.int lo t, .int hi u, .int 1 v] }
  | .frz o u => h.get? a = some o ∧ ObjOk H h a u
  | .tbl pl q => ∃ ps, h.get? a = some (PySem.W.tabObj ps) ∧ TriplesOk ps.toList ∧
      ∀ cv, codeAmong pl ps.toList = some cv → ∃ c oc vs t, cv = .ref c ∧ H c = some (.frz oc (.own a)) ∧ oc.data = .fields vs ∧ vs[1]? = some (.str q t)
  | .met f x => h.get? a = some (PySem.W.methodObj (.ref f) (.ref x))
  | .ext φ => φ h ∧ (∃ o, h.get? a = some o) ∧ ∀ h1 h2 : Heap, φ h1 → (∀ o, h1.get? a = some o → h2.get? a = some o) → φ h2
/-- the abstract heap is held -/
def HOk (H : Hp) (h : Heap) : Prop := ∀ a o, H a = some o → ObjOk P w H h a o
end

section
variable {P : Program} {w : World} {H H' : Hp} {h h' : Heap} {a : Addr} {o : HO}
theorem ObjOk.lt (x : ObjOk P w H h a o) : a < h.objs.size := by
  cases o with
  | lst xs => obtain ⟨_, _, _, _, e⟩ := x; exact Heap.lt_size e
  | tup xs => obtain ⟨_, _, _, p⟩ := x; exact p.lt
  | dK kvs => obtain ⟨_, _, _, _, o, _, _, e, _⟩ := x; exact Heap.lt_size e
  | dT kvs => obtain ⟨_, _, _, _, o, _, _, e, _⟩ := x; exact Heap.lt_size e
  | set S n => obtain ⟨o, _, _, _, e, _⟩ := x; exact Heap.lt_size e
  | ins C dx fs => obtain ⟨_, _, _, e, _⟩ := x; exact Heap.lt_size e
  | own y => obtain ⟨_, e⟩ := x; exact Heap.lt_size e
  | xd fs => obtain ⟨_, ⟨_, _, _, e, _⟩, _⟩ := x; exact Heap.lt_size e
  | rng lo hi => obtain ⟨_, _, _, e⟩ := x; exact Heap.lt_size e
  | frz ob u => obtain ⟨e, _⟩ := x; exact Heap.lt_size e
  | tbl pl q => obtain ⟨_, e, _⟩ := x; exact Heap.lt_size e
  | met f y => exact Heap.lt_size (show h.get? a = some _ from x)
  | ext φ => obtain ⟨_, ⟨_, e⟩, _⟩ := x; exact Heap.lt_size e
theorem Paired.mapP {α β : Type} {F G : α → β → Prop} : ∀ {l₁ : List α} {l₂ : List β}, Paired F l₁ l₂ → (∀ a b, F a b → G a b) → Paired G l₁ l₂
  | _, _, .nil, _ => .nil
  | _, _, .cons r t, f => .cons (f _ _ r) (Paired.mapP t f)
/-- what an object's description leans on: its own object, its own dict, the tuples -/
theorem ObjOk.stay (x : ObjOk P w H h a o) (k : ∀ b u, (b = a ∨ H b = some (.own a)) → h.get? b = some u → h'.get? b = some u)
    (ho : ∀ b, H b = some (.own a) → H' b = some (.own a)) (ht : ∀ b xs, H b = some (.tup xs) → H' b = some (.tup xs)) (hf : ∀ b ob u, H b = some (.frz ob u) → H' b = some (.frz ob u)) : ObjOk P w H' h' a o := by
  induction o with
  | lst xs => obtain ⟨z, its, n, r, e⟩ := x; exact ⟨z, its, n, r, k _ _ (.inl rfl) e⟩
  | tup xs => obtain ⟨z, its, r, ob, e, c⟩ := x; exact ⟨z, its, r, ob, k _ _ (.inl rfl) e, c⟩
  | dK kvs => obtain ⟨z, y, vs, r, ob, es, ep, e, c⟩ := x; exact ⟨z, y, vs, r, ob, es, ep, k _ _ (.inl rfl) e, c⟩
  | dT kvs =>
    obtain ⟨z, y, xs, r, ob, es, ep, e, c⟩ := x
    exact ⟨z, y, xs, Paired.mapP r fun p q z => ⟨z.1, ht _ _ z.2.1, z.2.2⟩, ob, es, ep, k _ _ (.inl rfl) e, c⟩
  | set S n => obtain ⟨ob, es, ep, t, e, c⟩ := x; exact ⟨ob, es, ep, t, k _ _ (.inl rfl) e, c⟩
  | ins C dx fs =>
    obtain ⟨d, z, ne, e, mA, ⟨od, es, ep, e2, c⟩, r⟩ := x
    exact ⟨ho _ d, z, ne, k _ _ (.inl rfl) e, mA, ⟨od, es, ep, k _ _ (.inr d) e2, c⟩, r⟩
  | own y => obtain ⟨ob, e⟩ := x; exact ⟨ob, k _ _ (.inl rfl) e⟩
  | xd fs => obtain ⟨mA, ⟨od, es, ep, e, c⟩, r⟩ := x; exact ⟨mA, ⟨od, es, ep, k _ _ (.inl rfl) e, c⟩, r⟩
  | rng lo hi => obtain ⟨t, u, v, e⟩ := x; exact ⟨t, u, v, k _ _ (.inl rfl) e⟩
  | frz ob u ih => obtain ⟨e, q⟩ := x; exact ⟨k _ _ (.inl rfl) e, ih q⟩
  | tbl pl q =>
    obtain ⟨ps, e, tr, hc⟩ := x
    refine ⟨ps, k a _ (.inl rfl) e, tr, fun cv ecv => ?_⟩
    obtain ⟨c, oc, vs, t, e1, e2, e3⟩ := hc cv ecv
    exact ⟨c, oc, vs, t, e1, hf _ _ _ e2, e3⟩
  | met f y =>
    have e : h.get? a = some (PySem.W.methodObj (.ref f) (.ref y)) := x
    show h'.get? a = some (PySem.W.methodObj (.ref f) (.ref y))
    exact k a _ (.inl rfl) e
  | ext φ => obtain ⟨p, ⟨o, e⟩, st⟩ := x; exact ⟨st _ _ p fun o q => k _ _ (.inl rfl) q, ⟨o, k _ _ (.inl rfl) e⟩, st⟩
theorem HOk.lt (x : HOk P w H h) (e : H a = some o) : a < h.objs.size := (x a o e).lt
theorem HOk.fresh (x : HOk P w H h) (e : h.objs.size ≤ a) : H a = none := by
  cases q : H a with
  | none => rfl
  | some u => exact absurd (Nat.lt_of_lt_of_le (x.lt q) e) (Nat.lt_irrefl _)
/-- every object of the heap is kept -/
theorem HOk.kept (x : HOk P w H h) (k : ∀ b u, h.get? b = some u → h'.get? b = some u) : HOk P w H h' := fun a o e =>
  (x a o e).stay (fun b u _ q => k b u q) (fun _ q => q) (fun _ _ q => q) fun _ _ _ q => q
/-- a new object is laid and tracked -/
theorem HOk.laid (x : HOk P w H h) (k : ∀ b u, h.get? b = some u → h'.get? b = some u) (hp : h.objs.size ≤ a) (new : ObjOk P w (upd H a o) h' a o) : HOk P w (upd H a o) h' := fun b u e => by
  have hn := x.fresh hp
  by_cases hb : b = a
  · subst hb; rw [upd_same] at e; cases e; exact new
  · rw [upd_ne hb] at e
    exact (x b u e).stay (fun c v _ q => k c v q) (fun c q => by rw [upd_ne (ne_of_none q hn)]; exact q) (fun c xs q => by rw [upd_ne (ne_of_none q hn)]; exact q) fun c ob y q => by rw [upd_ne (ne_of_none q hn)]; exact q
end

/-- what may be read as u: it is u, or a known u -/
def Rd (H : Hp) (a : Addr) (u : HO) : Prop := H a = some u ∨ ∃ o, H a = some (.frz o u)
theorem Rd.ok {P : Program} {w : World} {H : Hp} {h : Heap} {a : Addr} {u : HO} (r : Rd H a u) (x : HOk P w H h) : ObjOk P w H h a u := by
  rcases r with r | ⟨o, r⟩
  · exact x a u r
  · obtain ⟨_, q⟩ := x a _ r
    exact q
/-- what may be written -/
def Mut : Option HO → Prop
  | some (.lst _) => True
  | some (.dK _) => True
  | some (.dT _) => True
  | some (.set _ _) => True
  | some (.ins _ _ _) => True
  | some (.ext _) => True
  | _ => False
section
variable {P : Program} {w : World} {H : Hp} {h h' : Heap} {x e : Addr} {o' : HO}
/-- the object at e is changed: x itself, or the dict of the instance x -/
theorem HOk.write (ok : HOk P w H h) (mu : Mut (H x)) (he : e = x ∨ H e = some (.own x)) (k : ∀ b u, b ≠ e → h.get? b = some u → h'.get? b = some u) (heo : ∃ u, h'.get? e = some u)
    (new : ObjOk P w (upd H x o') h' x o') : HOk P w (upd H x o') h' := fun b u q => by
  have nown : ∀ c y, H c = some (.own y) → c ≠ x := fun c y r z => by subst z; rw [r] at mu; exact mu
  have ntup : ∀ c xs, H c = some (.tup xs) → c ≠ x := fun c xs r z => by subst z; rw [r] at mu; exact mu
  have nfrz : ∀ c ob y, H c = some (.frz ob y) → c ≠ x := fun c ob y r z => by subst z; rw [r] at mu; exact mu
  by_cases hb : b = x
  · subst hb; rw [upd_same] at q; cases q; exact new
  · rw [upd_ne hb] at q
    by_cases hbe : b = e
    · have q' : H b = some (.own x) := by
        rcases he with z | z
        · exact absurd (hbe.trans z) hb
        · rw [hbe]; exact z
      rw [q] at q'; cases q'
      obtain ⟨v, hv⟩ := heo
      exact ⟨v, by rw [hbe]; exact hv⟩
    · refine (ok b u q).stay (fun c v hc r => k c v ?_ r) (fun c r => by rw [upd_ne (nown c b r)]; exact r) (fun c xs r => by rw [upd_ne (ntup c xs r)]; exact r) fun c ob y r => by rw [upd_ne (nfrz c ob y r)]; exact r
      rcases hc with rfl | hc
      · exact hbe
      · rintro rfl
        rcases he with z | z
        · exact nown c b hc z
        · rw [hc] at z; cases z; exact hb rfl
end

/-! ### kept unless tracked; of the frames at fs (the callers') the slots may change (an exception that passes writes there); of the records at ex (iterators) nothing is said -/
structure Un (fs ex : List Addr) (H H' : Hp) (h h' : Heap) : Prop where
  keep : ∀ b o, h.get? b = some o → H b = none → b ∉ fs → b ∉ ex → h'.get? b = some o
  slot : ∀ b o, h.get? b = some o → H b = none → b ∈ fs → b ∉ ex → ∃ sl, h'.get? b = some { o with slots := sl }
  free : ∀ b o, h.get? b = some o → H b = none → b ∉ ex → H' b = none
  there : ∀ b o, h.get? b = some o → b ∉ ex → ∃ o', h'.get? b = some o'
  tups : ∀ b xs, H b = some (.tup xs) → H' b = some (.tup xs)
  frzs : ∀ b o u, H b = some (.frz o u) → H' b = some (.frz o u)
  tbls : ∀ b pl q, H b = some (.tbl pl q) → H' b = some (.tbl pl q)
section
variable {fs fs' ex ex' : List Addr} {H H1 H2 : Hp} {h h1 h2 h' : Heap} {a x e : Addr} {o : HO}
theorem Un.any (u : Un fs ex H H1 h h1) {b : Addr} {ob : Obj} (q : h.get? b = some ob) (n : H b = none) (hx : b ∉ ex) : ∃ sl, h1.get? b = some { ob with slots := sl } := by
  by_cases hb : b ∈ fs
  · exact u.slot b ob q n hb hx
  · exact ⟨ob.slots, u.keep b ob q n hb hx⟩
theorem Un.kept (k : ∀ b u, h.get? b = some u → h'.get? b = some u) : Un fs ex H H h h' :=
  ⟨fun b ob q _ _ _ => k b ob q, fun b ob q _ _ _ => ⟨ob.slots, k b ob q⟩, fun _ _ _ n _ => n, fun b ob q _ => ⟨ob, k b ob q⟩, fun _ _ q => q, fun _ _ _ q => q, fun _ _ _ q => q⟩
theorem Un.refl : Un fs ex H H h h := Un.kept fun _ _ q => q
theorem Un.laid (k : ∀ b u, h.get? b = some u → h'.get? b = some u) (hp : h.objs.size ≤ a) (hn : H a = none) : Un fs ex H (upd H a o) h h' where
  keep := fun b u q _ _ _ => k b u q
  slot := fun b u q _ _ _ => ⟨u.slots, k b u q⟩
  free := fun b u q n _ => by rw [upd_ne (Nat.ne_of_lt (Nat.lt_of_lt_of_le (Heap.lt_size q) hp))]; exact n
  there := fun b u q _ => ⟨u, k b u q⟩
  tups := fun b xs q => by rw [upd_ne (ne_of_none q hn)]; exact q
  frzs := fun b u xs q => by rw [upd_ne (ne_of_none q hn)]; exact q
  tbls := fun b pl y q => by rw [upd_ne (ne_of_none q hn)]; exact q
theorem Un.write (mu : Mut (H x)) (he : e = x ∨ H e = some (.own x)) (k : ∀ b u, b ≠ e → h.get? b = some u → h'.get? b = some u) (heo : ∃ u, h'.get? e = some u) : Un fs ex H (upd H x o) h h' := by
  have hx : ∀ b, H b = none → b ≠ x := fun b n z => by subst z; rw [n] at mu; exact mu
  have hb : ∀ b, H b = none → b ≠ e := fun b n z => by
    subst z
    rcases he with r | r
    · exact hx b n r
    · rw [n] at r; cases r
  have hm : ∀ b u, H b = some u → ¬ Mut (some u) → b ≠ x := fun b u q nm z => by subst z; rw [q] at mu; exact nm mu
  refine ⟨fun b u q n _ _ => k b u (hb b n) q, fun b u q n _ _ => ⟨u.slots, k b u (hb b n) q⟩, fun b u q n _ => by rw [upd_ne (hx b n)]; exact n, fun b u q _ => ?_,
    fun b xs q => by rw [upd_ne (hm b _ q fun z => z)]; exact q, fun b u xs q => by rw [upd_ne (hm b _ q fun z => z)]; exact q, fun b pl y q => by rw [upd_ne (hm b _ q fun z => z)]; exact q⟩
  by_cases hbe : b = e
  · subst hbe; exact heo
  · exact ⟨u, k b u hbe q⟩
end

/-! ### the heap without what is tracked -/
def trk (h : Heap) (H : Hp) : List Addr := (List.range h.objs.size).filter fun a => (H a).isSome
def hidT (h : Heap) (H : Hp) : Heap := PySem.W.hideAll h (trk h H)
theorem hidT_size (h : Heap) (H : Hp) : (hidT h H).objs.size = h.objs.size := PySem.W.hideAll_size _ _
theorem hidT_get {h : Heap} {H : Hp} {b : Addr} {o : Obj} (e : h.get? b = some o) (n : H b = none) : (hidT h H).get? b = some o :=
  PySem.W.hideAll_get _ e fun hm => by
    have q : (H b).isSome = true := (List.mem_filter.mp hm).2
    rw [n] at q; simp at q
theorem of_hidT {h : Heap} {H : Hp} {b : Addr} {o : Obj} (e : (hidT h H).get? b = some o) : h.get? b = some o ∧ H b = none := by
  have e' : h.get? b = some o := PySem.W.of_hideAll (trk h H) e
  refine ⟨e', ?_⟩
  cases q : H b with
  | none => rfl
  | some x =>
    have hm : b ∈ trk h H := List.mem_filter.mpr ⟨List.mem_range.mpr (Heap.lt_size e'), by simp [q]⟩
    have z : (hidT h H).get? b = none := PySem.W.hideAll_none (trk h H) hm
    rw [z] at e; cases e

/-! ### OpenK's ledger, filled with every new object but one -/
end L2

namespace L2
open PySem PySem.Spec PyProof.Rows

/-- the module's facts, over the base: the heap at the law's entry without what is tracked there -/
structure Mod (K : PySem.W.Frag) (mg : Str → Option Value) (base : Heap) : Prop where
  kin : K.In base
  glob : base.Ns mainGlobals mg
  blt : ∃ mb, base.Ns builtinsNs mb ∧ ∀ x : Str, x ≠ "__name__" → mb x = bootBuiltins x
  nolimit : base.NoLimit
  bm : ∃ bm ob, mg "__builtins__" = some (.ref bm) ∧ bm ≠ builtinsNs ∧ base.get? bm = some ob ∧ ob.cls = .type "module" ∧ ob.dict = some builtinsNs ∧ ob.data = .plain

/-- the context: a def's body (or a comprehension's block) running. base: fixed through the whole law; s₀, H₀: the entry; outer: the frames whose slots others may change (a def's callers); stack: all frames that run;
   ex: iterators that were made ahead of the entry and are walked here (a comprehension's); fn: the names whose cells were made at the entry (a def: all; a comprehension's block: its own); calm: not within an except suite; pn: pins that every state bears; xe: what is wanted of an exception that leaves the code -/
structure Cx where
  prog : Program
  w : World
  K : PySem.W.Frag
  mg : Str → Option Value
  base : Heap
  A : Around
  N : List Str
  s₀ : Shared
  H₀ : Hp
  env : Env
  outer : List Env
  stack : List Env
  ex : List Addr
  fn : Str → Bool
  calm : Bool
  pn : List (Addr × Obj)
  xe : Value → Shared → Prop
/-- the callers' frames -/
def frs (l : List Env) : List Addr := l.filterMap (·.frame)
abbrev Cx.fs (X : Cx) : List Addr := frs X.outer

def Vis (sc : Scope) (x : Str) : Prop := sc.names.lookup x = some .local ∨ sc.names.lookup x = some .cell ∨ sc.names.lookup x = some .free
def Loc (sc : Scope) (x : Str) : Prop := sc.names.lookup x = some .local ∨ sc.names.lookup x = some .cell
def Look (env : Env) (h : Heap) (m : Str → Option Value) (x : Str) (u : Value) : Prop :=
  (env.kindOf x = some .local ∧ m x = some u) ∨ ((env.kindOf x = some .cell ∨ env.kindOf x = some .free) ∧ ∃ c, env.cells.lookup x = some c ∧ h.IsCell c (some u))

structure Cx.Ok (X : Cx) : Prop where
  mod : Mod X.K X.mg X.base
  kind : X.env.scope.kind = .function
  glob : X.env.globals = mainGlobals
  blt : X.env.builtins = builtinsNs
  above : X.s₀.heap.objs.size ≤ X.env.locals
  inj : ∀ x y c, X.env.cells.lookup x = some c → X.env.cells.lookup y = some c → x = y
  has : ∀ x, (X.env.kindOf x = some .cell ∨ X.env.kindOf x = some .free) → ∃ c, X.env.cells.lookup x = some c
  cab : ∀ x c, X.fn x = true → X.env.cells.lookup x = some c → X.s₀.heap.objs.size ≤ c
  hd : X.calm = true → X.A.handled = none
  frames : X.A.frames = some X.stack
  stk : X.stack = X.outer ∨ (X.stack = X.env :: X.outer ∧ X.env.frame = some X.env.locals)
  exf : ∀ b ∈ X.ex, b ≠ X.env.locals ∧ ∀ x c, X.env.cells.lookup x = some c → c ≠ b
  bs : ∀ b o, X.base.get? b = some o → X.s₀.heap.get? b = some o ∧ X.H₀ b = none
  bsz : X.base.objs.size ≤ X.s₀.heap.objs.size
  noex : ∀ b o, X.base.get? b = some o → b ∉ X.ex
  exfs : ∀ b ∈ X.ex, b ∉ X.fs
  funs : X.s₀.heap.FunFrames X.base X.outer
  frf : ∀ b ∈ X.fs, X.H₀ b = none

structure Inv (X : Cx) (pins : List (Addr × Obj)) (σ : List (Option V)) (H : Hp) (s : Shared) : Prop where
  ok : X.Ok
  os : s.os = X.s₀.os
  bare : AllBare s.gens
  base : Un X.fs X.ex X.H₀ H X.s₀.heap s.heap
  loc : ∃ m, s.heap.Ns X.env.locals m ∧ ∀ (i : Nat) (x : Str) (v : V), X.N[i]? = some x → σ[i]? = some (some v) → Vis X.env.scope x → ∃ u, RelV v u ∧ Look X.env s.heap m x u
  cell : ∀ x c, X.env.cells.lookup x = some c → ∃ v, s.heap.IsCell c v
  free : H X.env.locals = none
  freeC : ∀ x c, X.env.cells.lookup x = some c → H c = none
  pin : ∀ p ∈ X.pn ++ pins, s.heap.get? p.1 = some p.2 ∧ H p.1 = none ∧ p.1 ≠ X.env.locals ∧ p.1 ∉ X.fs ∧ ∀ v, p.2.data ≠ .cell v
  hok : HOk X.prog X.w H s.heap
  len : σ.length = X.N.length

section
variable {X : Cx} {pins : List (Addr × Obj)} {σ : List (Option V)} {H H' : Hp} {s : Shared} {h' : Heap}

theorem Cx.Ok.nofr (ok : X.Ok) {b : Addr} {o : Obj} (e : X.base.get? b = some o) : b ∉ X.fs := fun hb => by
  have := (ok.funs.mem hb).1
  rw [e] at this; cases this
theorem Inv.bs (I : Inv X pins σ H s) : ∀ b o, X.base.get? b = some o → s.heap.get? b = some o ∧ H b = none := fun b o e =>
  ⟨I.base.keep b o (I.ok.bs b o e).1 (I.ok.bs b o e).2 (I.ok.nofr e) (I.ok.noex b o e), I.base.free b o (I.ok.bs b o e).1 (I.ok.bs b o e).2 (I.ok.noex b o e)⟩
theorem Inv.bk (I : Inv X pins σ H s) : ∀ b o, X.base.get? b = some o → s.heap.get? b = some o := fun b o e => (I.bs b o e).1
theorem Inv.mod (I : Inv X pins σ H s) : Mod X.K X.mg X.base := I.ok.mod
theorem Inv.kIn (I : Inv X pins σ H s) : X.K.In s.heap := I.ok.mod.kin.keeps I.bk
/-- the frame over the base: for OpenK's rules (K.In X.base is I.mod.kin) -/
theorem Inv.fr (I : Inv X pins σ H s) : ∃ m, Fr X.base X.env.locals s.heap m :=
  let ⟨m, hn, _⟩ := I.loc
  ⟨m, hn, I.bk, Nat.le_trans I.ok.bsz I.ok.above⟩
theorem Inv.lt (I : Inv X pins σ H s) : X.env.locals < s.heap.objs.size := let ⟨_, hn, _⟩ := I.loc; hn.lt
theorem Inv.sz (I : Inv X pins σ H s) : X.s₀.heap.objs.size ≤ s.heap.objs.size := Nat.le_trans I.ok.above (Nat.le_of_lt I.lt)
theorem Inv.nofs (I : Inv X pins σ H s) {a : Addr} (h : s.heap.objs.size ≤ a) : a ∉ X.fs := fun hb => by
  obtain ⟨_, o, ho, _⟩ := I.ok.funs.mem hb
  exact absurd (Nat.lt_of_lt_of_le (Heap.lt_size ho) (Nat.le_trans I.sz h)) (Nat.lt_irrefl _)
theorem Inv.cne (I : Inv X pins σ H s) : ∀ x c, X.env.cells.lookup x = some c → c ≠ X.env.locals := fun x c e z => by
  obtain ⟨v, o, ho, hd⟩ := I.cell x c e
  obtain ⟨m, ⟨o', es, ep, ho', hd', _⟩, _⟩ := I.loc
  rw [z, ho'] at ho; cases ho; rw [hd'] at hd; cases hd
theorem Inv.funs (I : Inv X pins σ H s) : s.heap.FunFrames X.base X.outer := by
  have all : ∀ (l : List Env), (∀ b ∈ frs l, b ∈ X.fs) → X.s₀.heap.FunFrames X.base l → s.heap.FunFrames X.base l := by
    intro l
    induction l with
    | nil => intro _ _; trivial
    | cons env r ih =>
      intro hs hl
      obtain ⟨hk, ⟨L, o, hf, hn, ho, hd⟩, hr⟩ := hl
      have hL : L ∈ X.fs := hs L (by unfold frs; rw [List.filterMap_cons, hf]; exact List.mem_cons_self)
      obtain ⟨sl, e⟩ := I.base.slot L o ho (I.ok.frf L hL) hL fun z => I.ok.exfs L z hL
      exact ⟨hk, ⟨L, _, hf, hn, e, hd⟩, ih (fun b hb => hs b (by unfold frs; rw [List.filterMap_cons, hf]; exact List.mem_cons_of_mem _ hb)) hr⟩
  exact all X.outer (fun _ hb => hb) I.ok.funs

/-- the frames that run, for a call -/
theorem Inv.stack (I : Inv X pins σ H s) : s.heap.FunFrames X.base X.stack := by
  rcases I.ok.stk with e | ⟨e, hf⟩
  · rw [e]; exact I.funs
  · rw [e]
    obtain ⟨m, hn, _⟩ := I.loc
    refine .cons (by rw [I.ok.kind]; decide) hf hn ?_ I.funs
    exact Heap.get?_none_of_le (Nat.le_trans I.ok.bsz I.ok.above)
theorem Inv.stkSub (I : Inv X pins σ H s) : ∀ b ∈ frs X.stack, b ∈ X.env.locals :: X.fs := fun b hb => by
  rcases I.ok.stk with e | ⟨e, hf⟩
  · rw [e] at hb; exact List.mem_cons_of_mem _ hb
  · rw [e] at hb
    unfold frs at hb
    rw [List.filterMap_cons, hf] at hb
    exact hb
theorem Inv.stkFree (I : Inv X pins σ H s) : ∀ b ∈ frs X.stack, H b = none := fun b hb => by
  rcases List.mem_cons.mp (I.stkSub b hb) with e | hb
  · rw [e]; exact I.free
  · obtain ⟨_, o, ho, _⟩ := I.ok.funs.mem hb
    exact I.base.free b o ho (I.ok.frf b hb) fun z => I.ok.exfs b z hb

/-- THE STEP: the untracked objects but the frame and the records at ch are kept (the callers' frames up to slots), the frame's map is kept, the new abstract heap is held -/
theorem Inv.step {g' : Array GenState} {t' : Nat} {d' : Drawn} {ch : List Addr} (I : Inv X pins σ H s)
    (hch : ∀ b ∈ ch, (b ∈ X.ex ∨ X.s₀.heap.objs.size ≤ b) ∧ b ≠ X.env.locals ∧ (∀ x c, X.env.cells.lookup x = some c → c ≠ b) ∧ ∀ p ∈ X.pn ++ pins, p.1 ≠ b)
    (keep : ∀ b o, b ≠ X.env.locals → b ∉ X.fs → b ∉ ch → s.heap.get? b = some o → H b = none → h'.get? b = some o)
    (slot : ∀ b o, b ≠ X.env.locals → b ∈ X.fs → b ∉ ch → s.heap.get? b = some o → H b = none → ∃ sl, h'.get? b = some { o with slots := sl }) (free : ∀ b o, b ∉ ch → s.heap.get? b = some o → H b = none → H' b = none)
    (there : ∀ b o, b ∉ ch → s.heap.get? b = some o → ∃ o', h'.get? b = some o')
    (tups : ∀ b xs, H b = some (.tup xs) → H' b = some (.tup xs)) (frzs : ∀ b o u, H b = some (.frz o u) → H' b = some (.frz o u)) (tbls : ∀ b pl q, H b = some (.tbl pl q) → H' b = some (.tbl pl q))
    (ns : ∀ m, s.heap.Ns X.env.locals m → h'.Ns X.env.locals m) (hok : HOk X.prog X.w H' h') (hg : AllBare g') :
    Inv X pins σ H' { s with heap := h', gens := g', drawn := d', toks := t' } := by
  have neL : ∀ b o, X.s₀.heap.get? b = some o → b ≠ X.env.locals := fun b o e => Nat.ne_of_lt (Nat.lt_of_lt_of_le (Heap.lt_size e) I.ok.above)
  have neC : ∀ b o, X.s₀.heap.get? b = some o → b ∉ X.ex → b ∉ ch := fun b o e hx hb => by
    rcases (hch b hb).1 with z | z
    · exact hx z
    · exact absurd (Nat.lt_of_lt_of_le (Heap.lt_size e) z) (Nat.lt_irrefl _)
  have cellK : ∀ x c, X.env.cells.lookup x = some c → ∀ v, s.heap.IsCell c v → h'.IsCell c v := fun x c e v ⟨o, ho, hd⟩ => by
    have nch : c ∉ ch := fun z => (hch c z).2.2.1 x c e rfl
    by_cases hc : c ∈ X.fs
    · obtain ⟨sl, q⟩ := slot c o (I.cne x c e) hc nch ho (I.freeC x c e)
      exact ⟨_, q, hd⟩
    · exact ⟨o, keep c o (I.cne x c e) hc nch ho (I.freeC x c e), hd⟩
  refine ⟨I.ok, I.os, hg, ⟨fun b o e n hb hx => ?_, fun b o e n hb hx => ?_, fun b o e n hx => ?_, fun b o e hx => ?_, fun b xs e => tups b xs (I.base.tups b xs e), fun b o xs e => frzs b o xs (I.base.frzs b o xs e), fun b pl y e => tbls b pl y (I.base.tbls b pl y e)⟩, ?_, fun x c e => ?_, ?_, fun x c e => ?_, fun p hp => ?_, hok, I.len⟩
  · exact keep b o (neL b o e) hb (neC b o e hx) (I.base.keep b o e n hb hx) (I.base.free b o e n hx)
  · obtain ⟨sl, e1⟩ := I.base.slot b o e n hb hx
    obtain ⟨sl', e2⟩ := slot b _ (neL b o e) hb (neC b o e hx) e1 (I.base.free b o e n hx)
    exact ⟨sl', e2⟩
  · obtain ⟨o', e1⟩ := I.base.there b o e hx
    exact free b o' (neC b o e hx) e1 (I.base.free b o e n hx)
  · obtain ⟨o', e1⟩ := I.base.there b o e hx
    exact there b o' (neC b o e hx) e1
  · obtain ⟨m, hn, hl⟩ := I.loc
    refine ⟨m, ns m hn, fun i x v e1 e2 e3 => ?_⟩
    obtain ⟨u, r, l⟩ := hl i x v e1 e2 e3
    refine ⟨u, r, ?_⟩
    rcases l with l | ⟨k, c, e, z⟩
    · exact .inl l
    · exact .inr ⟨k, c, e, cellK x c e _ z⟩
  · obtain ⟨v, z⟩ := I.cell x c e
    exact ⟨v, cellK x c e v z⟩
  · obtain ⟨m, ⟨o, _, _, ho, _⟩, _⟩ := I.loc
    exact free _ o (fun z => (hch _ z).2.1 rfl) ho I.free
  · obtain ⟨v, o, ho, hd⟩ := I.cell x c e
    exact free c o (fun z => (hch c z).2.2.1 x c e rfl) ho (I.freeC x c e)
  · obtain ⟨e, n, ne, nf, d⟩ := I.pin p hp
    have nch : p.1 ∉ ch := fun z => (hch p.1 z).2.2.2 p hp rfl
    exact ⟨keep p.1 p.2 ne nf nch e n, free p.1 p.2 nch e n, ne, nf, d⟩
/-- .. where the frame's own object is kept too -/
theorem Inv.un {t' : Nat} (I : Inv X pins σ H s) (u : Un X.fs [] H H' s.heap h') (hok : HOk X.prog X.w H' h') : Inv X pins σ H' { s with heap := h', toks := t' } := by
  obtain ⟨m, ⟨o, es, ep, ho, r⟩, _⟩ := id I.loc
  obtain ⟨sl, hL⟩ := u.any ho I.free (by simp)
  exact I.step (g' := s.gens) (d' := s.drawn) (ch := []) (fun _ z => nomatch z) (fun b o _ hb _ e n => u.keep b o e n hb (by simp)) (fun b o _ hb _ e n => u.slot b o e n hb (by simp)) (fun b o _ e n => u.free b o e n (by simp)) (fun b o _ e => u.there b o e (by simp)) u.tups u.frzs u.tbls (fun m' hm => by
    obtain ⟨o', es', ep', ho', r'⟩ := hm
    rw [ho] at ho'; cases ho'
    exact ⟨_, es', ep', hL, r'⟩) hok I.bare
/-- behind a call (or a comprehension's block): the slots of this frame may have changed too, the records at ch may have turned -/
theorem Inv.call {g' : Array GenState} {t' : Nat} {d' : Drawn} {ch : List Addr} (I : Inv X pins σ H s) (u : Un (frs X.stack) ch H H' s.heap h') (hok : HOk X.prog X.w H' h') (hg : AllBare g')
    (hch : ∀ b ∈ ch, (b ∈ X.ex ∨ X.s₀.heap.objs.size ≤ b) ∧ b ≠ X.env.locals ∧ (∀ x c, X.env.cells.lookup x = some c → c ≠ b) ∧ ∀ p ∈ X.pn ++ pins, p.1 ≠ b) :
    Inv X pins σ H' { s with heap := h', gens := g', drawn := d', toks := t' } := by
  obtain ⟨m, ⟨o, es, ep, ho, r⟩, _⟩ := id I.loc
  obtain ⟨sl, hL⟩ := u.any ho I.free fun z => (hch _ z).2.1 rfl
  exact I.step (ch := ch) hch (fun b o hL hb hc e n => u.keep b o e n (fun z => (List.mem_cons.mp (I.stkSub b z)).elim hL hb) hc) (fun b o _ _ hc e n => u.any e n hc) (fun b o hc e n => u.free b o e n hc) (fun b o hc e => u.there b o e hc) u.tups u.frzs u.tbls (fun m' hm => by
    obtain ⟨o', es', ep', ho', r'⟩ := hm
    rw [ho] at ho'; cases ho'
    exact ⟨_, es', ep', hL, r'⟩) hok hg
/-- an untracked record of ours (an iterator) has turned -/
theorem Inv.turned {t' : Nat} {it : Addr} (I : Inv X pins σ H s) (k : ∀ b o, b ≠ it → s.heap.get? b = some o → h'.get? b = some o) (hn : H it = none) (hL : it ≠ X.env.locals)
    (h1 : it ∈ X.ex ∨ X.s₀.heap.objs.size ≤ it) (h2 : ∀ x c, X.env.cells.lookup x = some c → c ≠ it) (h3 : ∀ p ∈ X.pn ++ pins, p.1 ≠ it) : Inv X pins σ H { s with heap := h', toks := t' } := by
  have nit : ∀ b u, H b = some u → b ≠ it := fun b u e z => by rw [z, hn] at e; cases e
  refine I.step (g' := s.gens) (d' := s.drawn) (ch := [it]) (fun b hb => ?_) (fun b o _ _ hc e _ => k b o (fun z => hc (by simp [z])) e) (fun b o _ _ hc e _ => ⟨o.slots, k b o (fun z => hc (by simp [z])) e⟩) (fun _ _ _ _ n => n)
    (fun b o hc e => ⟨o, k b o (fun z => hc (by simp [z])) e⟩) (fun _ _ e => e) (fun _ _ _ e => e) (fun _ _ _ e => e) (fun m hm => ?_) (fun b u e => ?_) I.bare
  · have e : b = it := by simpa using hb
    subst e
    exact ⟨h1, hL, h2, h3⟩
  · obtain ⟨o, es, ep, ho, r⟩ := hm
    exact ⟨o, es, ep, k _ o (Ne.symm hL) ho, r⟩
  · refine (I.hok b u e).stay (fun c v hc q => k c v ?_ q) (fun _ q => q) (fun _ _ q => q) fun _ _ _ q => q
    rcases hc with z | z
    · rw [z]; exact nit b u e
    · exact nit c _ z
theorem Inv.tok (I : Inv X pins σ H s) (t : Nat) : Inv X pins σ H { s with toks := t } := I.un (h' := s.heap) (t' := t) Un.refl I.hok
/-- all objects kept -/
theorem Inv.kept {t' : Nat} (I : Inv X pins σ H s) (k : ∀ b u, s.heap.get? b = some u → h'.get? b = some u) : Inv X pins σ H { s with heap := h', toks := t' } := I.un (Un.kept k) (I.hok.kept k)
/-- a new object laid and tracked -/
theorem Inv.laid {a : Addr} {o : HO} {t' : Nat} (I : Inv X pins σ H s) (k : ∀ b u, s.heap.get? b = some u → h'.get? b = some u) (hp : s.heap.objs.size ≤ a) (new : ObjOk X.prog X.w (upd H a o) h' a o) :
    Inv X pins σ (upd H a o) { s with heap := h', toks := t' } := I.un (Un.laid k hp (I.hok.fresh hp)) (I.hok.laid k hp new)
/-- an object written -/
theorem Inv.write {x e : Addr} {o : HO} {t' : Nat} (I : Inv X pins σ H s) (mu : Mut (H x)) (he : e = x ∨ H e = some (.own x)) (k : ∀ b u, b ≠ e → s.heap.get? b = some u → h'.get? b = some u) (heo : ∃ u, h'.get? e = some u)
    (new : ObjOk X.prog X.w (upd H x o) h' x o) : Inv X pins σ (upd H x o) { s with heap := h', toks := t' } := I.un (Un.write mu he k heo) (I.hok.write mu he k heo new)
theorem Inv.pins_of {pins' : List (Addr × Obj)} (I : Inv X pins σ H s) (h : ∀ p ∈ pins', s.heap.get? p.1 = some p.2 ∧ H p.1 = none ∧ p.1 ≠ X.env.locals ∧ p.1 ∉ X.fs ∧ ∀ v, p.2.data ≠ .cell v) : Inv X pins' σ H s :=
  ⟨I.ok, I.os, I.bare, I.base, I.loc, I.cell, I.free, I.freeC, fun p hp => (List.mem_append.mp hp).elim (fun z => I.pin p (List.mem_append_left _ z)) (h p), I.hok, I.len⟩

theorem nodup_ix {N : List Str} (hN : N.Nodup) {i j : Nat} {x : Str} (a : N[i]? = some x) (b : N[j]? = some x) : i = j := by
  obtain ⟨h1, e1⟩ := List.getElem?_eq_some_iff.mp a
  obtain ⟨h2, e2⟩ := List.getElem?_eq_some_iff.mp b
  exact (List.getElem_inj hN).mp (e1.trans e2.symm)

/-- a name is stored; what changed -/
theorem store_ok2 {M : Model} {A : Around} {E : Value → Shared → Prop} {i : Nat} {x : Str} {v : V} {u : Value} {Q : Unit → Shared → Prop} (I : Inv X pins σ H s) (hN : X.N.Nodup) (hi : X.N[i]? = some x) (hx : Loc X.env.scope x) (r : RelV v u)
    (h : ∀ s', Inv X pins (σ.set i (some v)) H s' → (∃ a, Heap.SameBut a s.heap s'.heap ∧ (a = X.env.locals ∨ X.env.cells.lookup x = some a)) → Q () s') (hf : X.fn x = true ∨ X.env.scope.names.lookup x = some .local := by first | exact .inl rfl | exact .inr rfl | assumption) : wpAny M A (storeName X.env x u) Q E s := by
  obtain ⟨m, hn, hl⟩ := id I.loc
  have hcls : (X.env.scope.kind == .class || (X.env.scope.kind == .module && X.env.locals != X.env.globals)) = false := by rw [I.ok.kind]; rfl
  have hiσ : i < σ.length := by rw [I.len]; exact (List.getElem?_eq_some_iff.mp hi).1
  have cne := I.cne
  have tracked : ∀ {a : Addr} {h' : Heap}, (∃ o, s.heap.get? a = some o ∧ H a = none) → Heap.SameBut a s.heap h' → HOk X.prog X.w H h' := fun {a h'} ha hs b ob e => by
    obtain ⟨_, _, hfree⟩ := ha
    refine (I.hok b ob e).stay (fun c w' hc q => (hs.2 c ?_).trans q) (fun _ q => q) (fun _ _ q => q) fun _ _ _ q => q
    rintro rfl
    rcases hc with rfl | hc
    · rw [hfree] at e; cases e
    · rw [hfree] at hc; cases hc
  rcases hx with hk | hk
  · refine wpAny_storeName_local hk hn (fun h' hn' hs => ?_) hcls
    obtain ⟨oL, _, _, hoL, _⟩ := id hn
    refine h _ ⟨I.ok, I.os, I.bare, ⟨fun b o e n hb hx => ?_, fun b o e n hb hx => ?_, I.base.free, fun b o e hx => ?_, I.base.tups, I.base.frzs, I.base.tbls⟩, ⟨_, hn', fun j y v' e1 e2 e3 => ?_⟩, fun y c e => ?_, I.free, I.freeC, fun p hp => ?_, tracked ⟨oL, hoL, I.free⟩ hs, by simpa using I.len⟩ ⟨_, hs, .inl rfl⟩
    · exact (hs.2 b (Nat.ne_of_lt (Nat.lt_of_lt_of_le (Heap.lt_size e) I.ok.above))).trans (I.base.keep b o e n hb hx)
    · obtain ⟨sl, e1⟩ := I.base.slot b o e n hb hx
      exact ⟨sl, (hs.2 b (Nat.ne_of_lt (Nat.lt_of_lt_of_le (Heap.lt_size e) I.ok.above))).trans e1⟩
    · obtain ⟨o', e1⟩ := I.base.there b o e hx
      exact ⟨o', (hs.2 b (Nat.ne_of_lt (Nat.lt_of_lt_of_le (Heap.lt_size e) I.ok.above))).trans e1⟩
    · by_cases hj : j = i
      · subst hj
        rw [hi] at e1; cases e1
        rw [List.getElem?_set_self hiσ] at e2
        cases e2
        exact ⟨u, r, .inl ⟨hk, by simp⟩⟩
      · rw [List.getElem?_set_ne (Ne.symm hj)] at e2
        obtain ⟨u', r', q⟩ := hl j y v' e1 e2 e3
        refine ⟨u', r', ?_⟩
        rcases q with ⟨k, e⟩ | ⟨k, c, e, z⟩
        · refine .inl ⟨k, ?_⟩
          have : y ≠ x := fun e => hj (nodup_ix hN e1 (e ▸ hi))
          simp [this, e]
        · exact .inr ⟨k, c, e, z.sameBut hs (cne y c e)⟩
    · obtain ⟨w', z⟩ := I.cell y c e
      exact ⟨w', z.sameBut hs (cne y c e)⟩
    · obtain ⟨e, n, ne, nf, d⟩ := I.pin p hp
      exact ⟨(hs.2 p.1 ne).trans e, n, ne, nf, d⟩
  · have hfn : X.fn x = true := by
      rcases hf with z | z
      · exact z
      · rw [z] at hk; cases hk
    obtain ⟨c, hc⟩ := I.ok.has x (.inl hk)
    obtain ⟨w', z⟩ := I.cell x c hc
    refine wpAny_storeName_cell I.ok.kind hk hc z (fun h' hc' hs => ?_)
    obtain ⟨oc, hoc, hocd⟩ := id z
    refine h { s with heap := h' } ⟨I.ok, I.os, I.bare, ⟨fun b o e n hb hx => ?_, fun b o e n hb hx => ?_, I.base.free, fun b o e hx => ?_, I.base.tups, I.base.frzs, I.base.tbls⟩, ⟨m, hn.sameBut hs (Ne.symm (cne x c hc)), fun j y v' e1 e2 e3 => ?_⟩, fun y c' e => ?_, I.free, I.freeC, fun p hp => ?_, tracked ⟨oc, hoc, I.freeC x c hc⟩ hs, by simpa using I.len⟩ ⟨c, hs, .inr hc⟩
    · exact (hs.2 b (Nat.ne_of_lt (Nat.lt_of_lt_of_le (Heap.lt_size e) (I.ok.cab x c hfn hc)))).trans (I.base.keep b o e n hb hx)
    · obtain ⟨sl, e1⟩ := I.base.slot b o e n hb hx
      exact ⟨sl, (hs.2 b (Nat.ne_of_lt (Nat.lt_of_lt_of_le (Heap.lt_size e) (I.ok.cab x c hfn hc)))).trans e1⟩
    · obtain ⟨o', e1⟩ := I.base.there b o e hx
      exact ⟨o', (hs.2 b (Nat.ne_of_lt (Nat.lt_of_lt_of_le (Heap.lt_size e) (I.ok.cab x c hfn hc)))).trans e1⟩
    · by_cases hj : j = i
      · subst hj
        rw [hi] at e1; cases e1
        rw [List.getElem?_set_self hiσ] at e2
        cases e2
        exact ⟨u, r, .inr ⟨.inl hk, c, hc, hc'⟩⟩
      · rw [List.getElem?_set_ne (Ne.symm hj)] at e2
        obtain ⟨u', r', q⟩ := hl j y v' e1 e2 e3
        refine ⟨u', r', ?_⟩
        rcases q with q | ⟨k, c', e, z'⟩
        · exact .inl q
        · refine .inr ⟨k, c', e, z'.sameBut hs ?_⟩
          rintro rfl
          exact hj (nodup_ix hN e1 (I.ok.inj _ _ _ e hc ▸ hi))
    · by_cases hcc : c' = c
      · subst hcc; exact ⟨_, hc'⟩
      · obtain ⟨w2, z2⟩ := I.cell y c' e
        exact ⟨w2, z2.sameBut hs hcc⟩
    · obtain ⟨e, n, ne, nf, d⟩ := I.pin p hp
      refine ⟨(hs.2 p.1 ?_).trans e, n, ne, nf, d⟩
      intro q
      rw [q, hoc] at e
      have q' : oc = p.2 := Option.some.inj e
      exact d w' (by rw [← q']; exact hocd)
theorem store_ok {M : Model} {A : Around} {E : Value → Shared → Prop} {i : Nat} {x : Str} {v : V} {u : Value} {Q : Unit → Shared → Prop} (I : Inv X pins σ H s) (hN : X.N.Nodup) (hi : X.N[i]? = some x) (hx : Loc X.env.scope x) (r : RelV v u)
    (h : ∀ s', Inv X pins (σ.set i (some v)) H s' → Q () s') (hf : X.fn x = true ∨ X.env.scope.names.lookup x = some .local := by first | exact .inl rfl | exact .inr rfl | assumption) : wpAny M A (storeName X.env x u) Q E s :=
  store_ok2 I hN hi hx r (fun s' I' _ => h s' I') hf
/-- behind a call or a block, the state as it is -/
theorem Inv.call' {s' : Shared} {ch : List Addr} (I : Inv X pins σ H s) (ho : s'.os = s.os) (u : Un (frs X.stack) ch H H' s.heap s'.heap) (hok : HOk X.prog X.w H' s'.heap) (hg : AllBare s'.gens)
    (hch : ∀ b ∈ ch, (b ∈ X.ex ∨ X.s₀.heap.objs.size ≤ b) ∧ b ≠ X.env.locals ∧ (∀ x c, X.env.cells.lookup x = some c → c ≠ b) ∧ ∀ p ∈ X.pn ++ pins, p.1 ≠ b) : Inv X pins σ H' s' := by
  obtain ⟨h', g', d', t', o'⟩ := s'
  have e : o' = s.os := ho
  subst e
  exact I.call (g' := g') (t' := t') (d' := d') u hok hg hch
end

/-! ### the judgements -/
/-- an exception: its class, its own dict's address (where it has one), the abstract heap behind it -/
abbrev XK := Value → Option Addr → Hp → Prop
abbrev St := List (Option V)
abbrev VK := V → Hp → Prop
/-- an expression's reading; a test's; an argument list's -/
abbrev TE := St → Hp → VK → Prop
abbrev TT := St → Hp → (Bool → Hp → Prop) → Prop
abbrev TA := St → Hp → (List V → Hp → Prop) → Prop
/-- what is wanted behind a statement -/
structure Ends where
  nx : St → Hp → Prop
  rt : VK
  bk : St → Hp → Prop := fun _ _ => False
  ct : St → Hp → Prop := fun _ _ => False
abbrev TS := Ends → St → Hp → Prop

def EP (X : Cx) (pins : List (Addr × Obj)) (σ : St) (Q : VK) (u : Value) (s' : Shared) : Prop := ∃ v H', Inv X pins σ H' s' ∧ RelV v u ∧ Q v H'
def TP (X : Cx) (pins : List (Addr × Obj)) (σ : St) (Q : Bool → Hp → Prop) (b : Bool) (s' : Shared) : Prop := ∃ H', Inv X pins σ H' s' ∧ Q b H'
def AP (X : Cx) (pins : List (Addr × Obj)) (σ : St) (Q : List V → Hp → Prop) (us : List Value) (s' : Shared) : Prop := ∃ vs H', Inv X pins σ H' s' ∧ Vals vs us ∧ Q vs H'
def SP (X : Cx) (pins : List (Addr × Obj)) (D : Ends) (f : Flow) (s' : Shared) : Prop :=
  match f with
  | .next => ∃ σ' H', Inv X pins σ' H' s' ∧ D.nx σ' H'
  | .brk => ∃ σ' H', Inv X pins σ' H' s' ∧ D.bk σ' H'
  | .cont => ∃ σ' H', Inv X pins σ' H' s' ∧ D.ct σ' H'
  | .ret u => ∃ v σ' H', Inv X pins σ' H' s' ∧ RelV v u ∧ D.rt v H'

def PE (X : Cx) (e : Expr) (t : TE) : Prop :=
  ∀ (pins : List (Addr × Obj)) (s : Shared) (σ : St) (H : Hp) (Q : VK), Inv X pins σ H s → t σ H Q → wpAny (model X.prog X.w) X.A (eval e X.env) (EP X pins σ Q) X.xe s
def PT (X : Cx) (e : Expr) (t : TT) : Prop :=
  ∀ (pins : List (Addr × Obj)) (s : Shared) (σ : St) (H : Hp) (Q : Bool → Hp → Prop), Inv X pins σ H s → t σ H Q → wpAny (model X.prog X.w) X.A (isTrue e X.env (eval e X.env)) (TP X pins σ Q) X.xe s
/-- a test whatever its 'whole' is (and, or) -/
def PW (X : Cx) (e : Expr) (t : TT) : Prop :=
  ∀ (whole : Sem Value) (pins : List (Addr × Obj)) (s : Shared) (σ : St) (H : Hp) (Q : Bool → Hp → Prop), Inv X pins σ H s → t σ H Q → wpAny (model X.prog X.w) X.A (isTrue e X.env whole) (TP X pins σ Q) X.xe s
theorem PW.pt {X : Cx} {e : Expr} {t : TT} (h : PW X e t) : PT X e t := h _
/-- an argument list (no star), from the left -/
def PA (X : Cx) (es : List Expr) (t : TA) : Prop :=
  ∀ (pos : Pos) (pins : List (Addr × Obj)) (s : Shared) (σ : St) (H : Hp) (Q : List V → Hp → Prop), Inv X pins σ H s → t σ H Q → wpAny (model X.prog X.w) X.A (spliced (backTo pos (starEach es X.env))) (AP X pins σ Q) X.xe s
def PS (X : Cx) (st : Stmt) (t : TS) : Prop :=
  ∀ (pins : List (Addr × Obj)) (s : Shared) (σ : St) (H : Hp) (D : Ends), Inv X pins σ H s → t D σ H → wpAny (model X.prog X.w) X.A (exec st X.env) (SP X pins D) X.xe s
def PSs (X : Cx) (st : List Stmt) (t : TS) : Prop :=
  ∀ (pins : List (Addr × Obj)) (s : Shared) (σ : St) (H : Hp) (D : Ends), Inv X pins σ H s → t D σ H → wpAny (model X.prog X.w) X.A (execs st X.env) (SP X pins D) X.xe s
/-- weaken the end -/
theorem thn {α : Type} {t : Sem α} {Q Q' : α → Shared → Prop} {M : Model} {A : Around} {E : Value → Shared → Prop} {s : Shared} (h : wpAny M A t Q E s) (hQ : ∀ a s, Q a s → Q' a s) : wpAny M A t Q' E s := wpAny_mono h hQ fun _ _ x => x
end L2

namespace L2
open PySem PySem.Spec PyProof.Rows
section
variable {X : Cx}


/-! ### names and constants -/
def tVar (i : Nat) : TE := fun σ H Q => ∃ v, σ[i]? = some (some v) ∧ Q v H
def tC (v : V) : TE := fun _ H Q => Q v H
theorem pe_var {i : Nat} {x : Str} {pos : Pos} (hN : X.N[i]? = some x) (hv : Vis X.env.scope x) (hd : (x == ("__debug__" : Str)) = false := by decide) (hcd : (x == ("__classdict__" : Str)) = false := by decide) : PE X (.Name x pos) (tVar i) := by
  intro pins s σ H Q I h
  obtain ⟨v, e, h⟩ := h
  obtain ⟨m, hn, hl⟩ := I.loc
  obtain ⟨u, r, l⟩ := hl i x v hN e hv
  have fin : EP X pins σ Q u s := ⟨v, H, I, r, h⟩
  rcases l with ⟨hk, hm⟩ | ⟨hk, c, hc, hcell⟩
  · exact wpAny_Name (wpAny_loadName_local I.ok.kind hk hn hm fin) hd
  · rcases hk with hk | hk
    · exact wpAny_Name (wpAny_loadName_cell I.ok.kind hk hc hcell fin) hd
    · exact wpAny_Name (wpAny_loadName_free I.ok.kind hk hc hcell fin hcd) hd
theorem pe_int {i j pos} : PE X (.Constant (.int i) j pos) (tC (.int i)) := fun _ _ _ H _ I h => wpAny_Constant_int ⟨.int i, H, I.tok _, ⟨_, rfl⟩, h⟩
theorem pe_bl {b j pos} : PE X (.Constant (.bool b) j pos) (tC (.bl b)) := fun _ _ _ H _ I h => Constant_bool ⟨.bl b, H, I, rfl, h⟩
theorem pe_str {x j pos} : PE X (.Constant (.str x) j pos) (tC (.str x)) := fun _ _ _ H _ I h => Calls.Constant_str ⟨.str x, H, I.tok _, ⟨_, rfl⟩, h⟩

/-- a global name of the def -/
def Gl (X : Cx) (x : Str) : Prop := X.env.kindOf x = some .globalImplicit
theorem ld_glob {E : Value → Shared → Prop} {pins : List (Addr × Obj)} {s : Shared} {σ : St} {H : Hp} {x : Str} {u : Value} {pos : Pos} {Q : Value → Shared → Prop} (I : Inv X pins σ H s) (hg : Gl X x) (hm : X.mg x = some u) (h : Q u s)
    (hd : (x == ("__debug__" : Str)) = false := by decide) : wpAny (model X.prog X.w) X.A (eval (.Name x pos) X.env) Q E s :=
  Calls.Name_function_global I.ok.kind hg (Calls.loadGlobal_global (by rw [I.ok.glob]; exact I.mod.glob.keeps I.bk) hm h) hd
theorem ld_blt {E : Value → Shared → Prop} {pins : List (Addr × Obj)} {s : Shared} {σ : St} {H : Hp} {x : Str} {u : Value} {pos : Pos} {Q : Value → Shared → Prop} (I : Inv X pins σ H s) (hg : Gl X x) (hm : X.mg x = none) (hv : bootBuiltins x = some u) (h : Q u s)
    (hn : x ≠ "__name__" := by decide) (hd : (x == ("__debug__" : Str)) = false := by decide) : wpAny (model X.prog X.w) X.A (eval (.Name x pos) X.env) Q E s := by
  obtain ⟨mb, h1, h2⟩ := I.mod.blt
  exact Calls.Name_function_global I.ok.kind hg (Calls.loadGlobal_builtin (by rw [I.ok.glob]; exact I.mod.glob.keeps I.bk) hm (by rw [I.ok.blt]; exact h1.keeps I.bk) ((h2 x hn).trans hv) h) hd
/-- a module's constant, a class, a function, as a value -/
theorem pe_glob {x : Str} {v : V} {u : Value} {pos : Pos} (hg : Gl X x) (hm : X.mg x = some u) (r : RelV v u) (hd : (x == ("__debug__" : Str)) = false := by decide) : PE X (.Name x pos) (tC v) :=
  fun _ _ _ H _ I h => ld_glob I hg hm ⟨v, H, I, r, h⟩ hd
theorem pe_bltn {x : Str} {v : V} {u : Value} {pos : Pos} (hg : Gl X x) (hm : X.mg x = none) (hv : bootBuiltins x = some u) (r : RelV v u) (hn : x ≠ "__name__" := by decide) (hd : (x == ("__debug__" : Str)) = false := by decide) : PE X (.Name x pos) (tC v) :=
  fun _ _ _ H _ I h => ld_blt I hg hm hv ⟨v, H, I, r, h⟩ hn hd

/-! ### arithmetic -/
variable {a b : Expr} {ta tb : TE} {pos : Pos}

/-! ### comparisons -/
def PC (X : Cx) (op : CmpOp) (a b : Expr) (t : TE) : Prop :=
  ∀ (pins : List (Addr × Obj)) (s : Shared) (σ : St) (H : Hp) (Q : VK), Inv X pins σ H s → t σ H Q →
    wpAny (model X.prog X.w) X.A (eval a X.env) (fun v s₁ => wpAny (model X.prog X.w) X.A (eval b X.env) (fun u s₂ => wpAny (model X.prog X.w) X.A (compareOp op v u) (EP X pins σ Q) X.xe s₂) X.xe s₁) X.xe s
/-- a comparison as a value, as a test -/
def tB (t : TE) : TT := fun σ H Q => t σ H fun x H1 => ∃ c, x = .bl c ∧ Q c H1
theorem pt_cmp {op : CmpOp} {t : TE} (h : PC X op a b t) (h1 : behindInMarks op b = false := by first | exact nobehind _ (by decide) (by decide) | rfl) : PT X (.Compare a [op] [b] pos) (tB t) := by
  intro pins s σ H Q I hw
  refine wpAny_isTrue_Compare1 (thn (h pins s σ H _ I hw) fun v s1 h1 => thn h1 fun u s2 h2 => thn h2 fun c s3 ⟨x, H1, I1, r1, q1⟩ => ?_) h1
  obtain ⟨d, rfl, q⟩ := q1
  cases r1
  exact wpAny_truthy_bool ⟨H1, I1, q⟩

/-! ### and, or, not -/
variable {tA tB' : TT} {rest : List Expr}
def tAnd (t u : TT) : TT := fun σ H Q => t σ H fun c H1 => if c = true then u σ H1 Q else Q false H1
def tOr (t u : TT) : TT := fun σ H Q => t σ H fun c H1 => if c = true then Q true H1 else u σ H1 Q
def tNot (t : TT) : TT := fun σ H Q => t σ H fun c H1 => Q (!c) H1
theorem pw_and1 (ha : PT X a tA) : PW X (.BoolOp .And [a] pos) tA := by
  intro wh pins s σ H Q I h
  refine isTrue_and (thn (ha pins s σ H Q I h) fun c s1 e => ?_)
  cases c with
  | true => exact isTrue_and_nil e
  | false => exact e
theorem pw_or1 (ha : PT X a tA) : PW X (.BoolOp .Or [a] pos) tA := by
  intro wh pins s σ H Q I h
  refine isTrue_or (thn (ha pins s σ H Q I h) fun c s1 e => ?_)
  cases c with
  | false => exact isTrue_or_nil e
  | true => exact e
theorem pw_and (ha : PT X a tA) (hb : PW X (.BoolOp .And (b :: rest) pos) tB') : PW X (.BoolOp .And (a :: b :: rest) pos) (tAnd tA tB') := by
  intro wh pins s σ H Q I h
  refine isTrue_and (thn (ha pins s σ H _ I h) fun c s1 ⟨H1, I1, q1⟩ => ?_)
  cases c with
  | true => exact hb wh pins s1 σ H1 Q I1 q1
  | false => exact ⟨H1, I1, q1⟩
theorem pw_or (ha : PT X a tA) (hb : PW X (.BoolOp .Or (b :: rest) pos) tB') : PW X (.BoolOp .Or (a :: b :: rest) pos) (tOr tA tB') := by
  intro wh pins s σ H Q I h
  refine isTrue_or (thn (ha pins s σ H _ I h) fun c s1 ⟨H1, I1, q1⟩ => ?_)
  cases c with
  | true => exact ⟨H1, I1, q1⟩
  | false => exact hb wh pins s1 σ H1 Q I1 q1
theorem pt_not (ha : PT X a tA) : PT X (.UnaryOp .Not a pos) (tNot tA) := by
  intro pins s σ H Q I h
  exact isTrue_not (ha pins s σ H (fun c H1 => Q (!c) H1) I h)
/-- .. as values (bools) -/
def tAndV (ta tb : TE) : TE := fun σ H Q => ta σ H fun x H1 => ∃ c, x = .bl c ∧ if c = true then tb σ H1 Q else Q (.bl false) H1
def tNotV (ta : TE) : TE := fun σ H Q => ta σ H fun x H1 => ∃ c, x = .bl c ∧ Q (.bl (!c)) H1
theorem pe_one {op} {t : TE} (h : PE X a t) : PE X (.BoolOp op [a] pos) t := fun pins s σ H Q I hw => BoolOp_one (h pins s σ H Q I hw)
theorem pe_and (ha : PE X a ta) (hb : PE X (.BoolOp .And (b :: rest) pos) tb) : PE X (.BoolOp .And (a :: b :: rest) pos) (tAndV ta tb) := by
  intro pins s σ H Q I h
  refine BoolOp_and (thn (ha pins s σ H _ I h) fun v s1 ⟨x, H1, I1, r1, q1⟩ => ?_)
  obtain ⟨c, rfl, q1⟩ := q1
  cases r1
  refine wpAny_truthy_bool ?_
  cases c with
  | true => exact hb pins s1 σ H1 Q I1 q1
  | false => exact ⟨.bl false, H1, I1, rfl, q1⟩
theorem pe_not (ha : PE X a ta) : PE X (.UnaryOp .Not a pos) (tNotV ta) := by
  intro pins s σ H Q I h
  refine UnaryOp_ (thn (ha pins s σ H _ I h) fun v s1 ⟨x, H1, I1, r1, q1⟩ => ?_)
  obtain ⟨c, rfl, q1⟩ := q1
  cases r1
  exact not_of (wpAny_truthy_bool ⟨.bl (!c), H1, I1, rfl, q1⟩)
/-- a if t else b -/
def tIf (t : TT) (ta tb : TE) : TE := fun σ H Q => t σ H fun c H1 => if c = true then ta σ H1 Q else tb σ H1 Q
theorem pe_ifExp {c : Expr} (hc : PT X c tA) (ha : PE X a ta) (hb : PE X b tb) : PE X (.IfExp c a b pos) (tIf tA ta tb) := by
  intro pins s σ H Q I h
  refine wpAny_IfExp (thn (hc pins s σ H _ I h) fun d s1 ⟨H1, I1, q1⟩ => ?_)
  cases d with
  | true => exact ha pins s1 σ H1 Q I1 q1
  | false => exact hb pins s1 σ H1 Q I1 q1
end
end L2

namespace L2
open PySem PySem.Spec PyProof.Rows

/-! ### a list, a tuple that is read: tracked, frozen, or an object of the module -/
def SqL (K : PySem.W.Frag) (H : Hp) (a : Addr) (xs : List V) : Prop :=
  Rd H a (.lst xs) ∨
    ∃ (o : Obj) (its : Array Value) (n : Nat), K.lookup a = some o ∧ o.cls = .type "list" ∧ o.dict = none ∧ o.data = .seq its n ∧ its.size ≤ sizeLine ∧ Vals xs its.toList
def SqT (K : PySem.W.Frag) (H : Hp) (a : Addr) (xs : List V) : Prop :=
  Rd H a (.tup xs) ∨
    ∃ (o : Obj) (its : Array Value) (n : Nat), K.lookup a = some o ∧ o.cls = .type "tuple" ∧ o.data = .seq its n ∧ its.size ≤ sizeLine ∧ Vals xs its.toList
def absV : Value → Option V
  | .none => some .non
  | .bool b => some (.bl b)
  | .int i _ => some (.int i)
  | .str x _ => some (.str x)
  | .bytes b _ => some (.byt b)
  | .float b _ => some (.flt b)
  | .ref a => some (.ref a)
  | .type n => some (.ty n)
  | _ => none
theorem RelV.abs {x : V} {u : Value} (r : RelV x u) : absV u = some x := by
  cases x with
  | non => cases r; rfl
  | bl _ => cases r; rfl
  | int _ => obtain ⟨t, rfl⟩ := r; rfl
  | str _ => obtain ⟨t, rfl⟩ := r; rfl
  | byt _ => obtain ⟨t, rfl⟩ := r; rfl
  | flt _ => obtain ⟨t, rfl⟩ := r; rfl
  | ref _ => cases r; rfl
  | ty _ => cases r; rfl
theorem RelV.inj {x y : V} {u : Value} (r : RelV x u) (q : RelV y u) : x = y := Option.some.inj (r.abs.symm.trans q.abs)
theorem Vals.inj : ∀ {xs ys : List V} {us : List Value}, Vals xs us → Vals ys us → xs = ys
  | _, _, _, .nil, .nil => rfl
  | _, _, _, .cons r t, .cons r' t' => by rw [r.inj r', Vals.inj t t']
section
variable {X : Cx} {pins : List (Addr × Obj)} {σ : St} {H : Hp} {s : Shared} {a : Addr} {xs ys : List V}
theorem SqL.of {K : PySem.W.Frag} (h : H a = some (.lst xs)) : SqL K H a xs := .inl (.inl h)
theorem SqT.of {K : PySem.W.Frag} (h : H a = some (.tup xs)) : SqT K H a xs := .inl (.inl h)
theorem Inv.list (I : Inv X pins σ H s) (h : SqL X.K H a xs) : ∃ its : List Value, Vals xs its ∧ PlainL s.heap a its.toArray ∧ xs.length ≤ sizeLine := by
  rcases h with h | ⟨o, its, n, hk, hc, hd, hs, hz, r⟩
  · obtain ⟨z, its, n, r, e⟩ := h.ok I.hok
    exact ⟨its, r, ⟨_, n, e, rfl, rfl, rfl⟩, z⟩
  · refine ⟨its.toList, r, ⟨o, n, I.kIn a o hk, hc, hd, by simpa using hs⟩, ?_⟩
    have e := r.length
    simp only [Array.length_toList] at e
    omega
theorem Inv.tuple (I : Inv X pins σ H s) (h : SqT X.K H a xs) : ∃ its : List Value, Vals xs its ∧ IsTup s.heap a its.toArray ∧ xs.length ≤ sizeLine := by
  rcases h with h | ⟨o, its, n, hk, hc, hs, hz, r⟩
  · obtain ⟨z, its, r, p⟩ := h.ok I.hok
    exact ⟨its, r, p, z⟩
  · refine ⟨its.toList, r, ⟨o, I.kIn a o hk, hc, n, by simpa using hs⟩, ?_⟩
    have e := r.length
    simp only [Array.length_toList] at e
    omega
theorem Inv.list_inj (I : Inv X pins σ H s) (h : SqL X.K H a xs) (h' : SqL X.K H a ys) : xs = ys := by
  obtain ⟨its, r, ⟨o, n, e, _, _, d⟩, _⟩ := I.list h
  obtain ⟨its', r', ⟨o', n', e', _, _, d'⟩, _⟩ := I.list h'
  rw [e] at e'; cases e'
  rw [d] at d'
  injection d' with d1 _
  have : its = its' := by simpa using congrArg Array.toList d1
  subst this
  exact r.inj r'
theorem Inv.tuple_inj (I : Inv X pins σ H s) (h : SqT X.K H a xs) (h' : SqT X.K H a ys) : xs = ys := by
  obtain ⟨its, r, ⟨o, e, _, n, d⟩, _⟩ := I.tuple h
  obtain ⟨its', r', ⟨o', e', _, n', d'⟩, _⟩ := I.tuple h'
  rw [e] at e'; cases e'
  rw [d] at d'
  injection d' with d1 _
  have : its = its' := by simpa using congrArg Array.toList d1
  subst this
  exact r.inj r'
end

/-! ### another wish about exceptions -/
abbrev Cx.wish (X : Cx) (E : Value → Shared → Prop) : Cx := { X with xe := E }
/-- no exception leaves -/
abbrev Cx.nox (X : Cx) : Cx := X.wish fun _ _ => False
theorem Cx.Ok.wish {X : Cx} (ok : X.Ok) (E : Value → Shared → Prop) : (X.wish E).Ok :=
  ⟨ok.mod, ok.kind, ok.glob, ok.blt, ok.above, ok.inj, ok.has, ok.cab, ok.hd, ok.frames, ok.stk, ok.exf, ok.bs, ok.bsz, ok.noex, ok.exfs, ok.funs, ok.frf⟩
theorem Cx.Ok.unwish {X : Cx} {E : Value → Shared → Prop} (ok : (X.wish E).Ok) : X.Ok :=
  ⟨ok.mod, ok.kind, ok.glob, ok.blt, ok.above, ok.inj, ok.has, ok.cab, ok.hd, ok.frames, ok.stk, ok.exf, ok.bs, ok.bsz, ok.noex, ok.exfs, ok.funs, ok.frf⟩
section
variable {X : Cx} {pins : List (Addr × Obj)} {σ : St} {H : Hp} {s : Shared} {E : Value → Shared → Prop}
theorem Inv.wish (I : Inv X pins σ H s) (E : Value → Shared → Prop) : Inv (X.wish E) pins σ H s := ⟨I.ok.wish E, I.os, I.bare, I.base, I.loc, I.cell, I.free, I.freeC, I.pin, I.hok, I.len⟩
theorem Inv.unwish (I : Inv (X.wish E) pins σ H s) : Inv X pins σ H s := ⟨I.ok.unwish, I.os, I.bare, I.base, I.loc, I.cell, I.free, I.freeC, I.pin, I.hok, I.len⟩
theorem SP.unwish {D : Ends} {f : Flow} {s' : Shared} (h : SP (X.wish E) pins D f s') : SP X pins D f s' := by
  cases f with
  | next => obtain ⟨σ', H', I, q⟩ := h; exact ⟨σ', H', I.unwish, q⟩
  | brk => obtain ⟨σ', H', I, q⟩ := h; exact ⟨σ', H', I.unwish, q⟩
  | cont => obtain ⟨σ', H', I, q⟩ := h; exact ⟨σ', H', I.unwish, q⟩
  | ret u => obtain ⟨v, σ', H', I, r, q⟩ := h; exact ⟨v, σ', H', I.unwish, r, q⟩
theorem PSs.nox {st : List Stmt} {t : TS} (h : PSs X.nox st t) : PSs X st t := fun pins s σ H D I hw =>
  wpAny_mono (h pins s σ H D (I.wish _) hw) (fun _ _ q => q.unwish) fun _ _ z => False.elim z
end

/-! ### blocks and small statements -/
section
variable {X : Cx} {st : Stmt} {rest : List Stmt} {t u : TS} {e : Expr} {te : TE} {pos : Pos}
def tNext : TS := fun D σ H => D.nx σ H
def tSeq (t u : TS) : TS := fun D σ H => t { D with nx := u D } σ H
theorem pss_nil : PSs X [] tNext := fun _ _ σ H _ I h => wpAny_execs_nil ⟨σ, H, I, h⟩
theorem pss_cons (h1 : PS X st t) (h2 : PSs X rest u) : PSs X (st :: rest) (tSeq t u) := by
  intro pins s σ H D I h
  refine wpAny_execs_cons (thn (h1 pins s σ H { D with nx := u D } I h) fun f s1 q => ?_)
  cases f with
  | next =>
    obtain ⟨σ', H', I', q⟩ := q
    exact h2 pins s1 σ' H' D I' q
  | ret v => exact q
  | brk => exact q
  | cont => exact q
theorem pss_one (h1 : PS X st t) : PSs X [st] t := by
  intro pins s σ H D I h
  refine wpAny_execs_cons (thn (h1 pins s σ H D I h) fun f s1 q => ?_)
  cases f with
  | next => exact wpAny_execs_nil q
  | ret v => exact q
  | brk => exact q
  | cont => exact q
/-- in a def's body nothing is shown -/
theorem Inv.quiet {pins : List (Addr × Obj)} {σ : St} {H : Hp} {s : Shared} (I : Inv X pins σ H s) : interactive X.env = false := by simp [interactive, I.ok.kind]
/-- an expression whose value is dropped -/
def tDrop (te : TE) : TS := fun D σ H => te σ H fun _ H1 => D.nx σ H1
theorem ps_expr (he : PE X e te) (hs : swapsWith e none pos.line X.env = pure false := by rfl) : PS X (.Expr e pos) (tDrop te) := by
  intro pins s σ H D I h
  exact wpAny_Expr_any (thn (he pins s σ H _ I h) fun v s1 ⟨x, H1, I1, r1, q1⟩ => ⟨σ, H1, I1, q1⟩) I.quiet hs
def tRet (te : TE) : TS := fun D σ H => te σ H D.rt
theorem ps_ret (he : PE X e te) : PS X (.Return (some e) pos) (tRet te) := by
  intro pins s σ H D I h
  exact wpAny_Return_some (thn (he pins s σ H _ I h) fun v s1 ⟨x, H1, I1, r1, q1⟩ => ⟨x, σ, H1, I1, r1, q1⟩)
def tIfS (c : TT) (t u : TS) : TS := fun D σ H => c σ H fun b H1 => if b = true then t D σ H1 else u D σ H1
theorem ps_if {c : Expr} {a b : List Stmt} {tc : TT} (hc : PT X c tc) (ha : PSs X a t) (hb : PSs X b u) : PS X (.If c a b pos) (tIfS tc t u) := by
  intro pins s σ H D I h
  refine wpAny_If (thn (hc pins s σ H _ I h) fun d s1 ⟨H1, I1, q1⟩ => ?_)
  cases d with
  | true => exact ha pins s1 σ H1 D I1 q1
  | false => exact hb pins s1 σ H1 D I1 q1
/-- code that the proof never comes to -/
def tNever : TS := fun _ _ _ => False
theorem ps_never : PS X st tNever := fun _ _ _ _ _ _ h => h.elim
end

/-! ### targets -/
abbrev TG := V → St → Hp → (St → Hp → Prop) → Prop
abbrev TGs := List V → St → Hp → (St → Hp → Prop) → Prop
def PG (X : Cx) (target : Expr) (t : TG) : Prop :=
  ∀ (pins : List (Addr × Obj)) (s : Shared) (σ : St) (H : Hp) (v : V) (u : Value) (Q : St → Hp → Prop), Inv X pins σ H s → RelV v u → t v σ H Q →
    wpAny (model X.prog X.w) X.A (assign target X.env u) (fun _ s' => ∃ σ' H', Inv X pins σ' H' s' ∧ Q σ' H') X.xe s
/-- several targets, one after another -/
def PGs (X : Cx) (ts : List Expr) (t : TGs) : Prop :=
  ∀ (pins : List (Addr × Obj)) (s : Shared) (σ : St) (H : Hp) (vs : List V) (us : List Value) (Q : St → Hp → Prop), Inv X pins σ H s → Vals vs us → t vs σ H Q →
    wpAny (model X.prog X.w) X.A (assignInOrder ((assignEach ts X.env).map (·.2)) us) (fun _ s' => ∃ σ' H', Inv X pins σ' H' s' ∧ Q σ' H') X.xe s
/-- o[i] = v, by values -/
abbrev TSet := V → V → V → Hp → (Hp → Prop) → Prop
def PSet (X : Cx) (t : TSet) : Prop :=
  ∀ (pins : List (Addr × Obj)) (s : Shared) (σ : St) (H : Hp) (o i v : V) (ov iv u : Value) (Q : Hp → Prop), Inv X pins σ H s → RelV o ov → RelV i iv → RelV v u → t o i v H Q →
    wpAny (model X.prog X.w) X.A (setItem ov iv u) (fun _ s' => ∃ H', Inv X pins σ H' s' ∧ Q H') X.xe s
section
variable {X : Cx} {pos : Pos}
def gName (i : Nat) : TG := fun v σ H Q => Q (σ.set i (some v)) H
theorem pg_name {i : Nat} {x : Str} (hN : X.N.Nodup) (hi : X.N[i]? = some x) (hx : Loc X.env.scope x) (hf : X.fn x = true ∨ X.env.scope.names.lookup x = some .local := by first | exact .inl rfl | exact .inr rfl | assumption) : PG X (.Name x pos) (gName i) := by
  intro pins s σ H v u Q I r h
  exact wpAny_assign_Name (store_ok I hN hi hx r (fun s' I' => ⟨_, H, I', h⟩) hf)
def gNil : TGs := fun vs σ H Q => vs = [] ∧ Q σ H
def gCons (t : TG) (u : TGs) : TGs := fun vs σ H Q => ∃ v r, vs = v :: r ∧ t v σ H fun σ' H' => u r σ' H' Q
theorem pgs_nil : PGs X [] gNil := by
  intro pins s σ H vs us Q I r h
  obtain ⟨e, h⟩ := h
  subst e
  cases r
  exact assignInOrder_nil ⟨σ, H, I, h⟩
theorem pgs_cons {e : Expr} {es : List Expr} {t : TG} {u : TGs} (h1 : PG X e t) (h2 : PGs X es u)
    (hs : (assignEach (e :: es) X.env).map (·.2) = assign e X.env :: (assignEach es X.env).map (·.2) := by rfl) : PGs X (e :: es) (gCons t u) := by
  intro pins s σ H vs us Q I r h
  obtain ⟨v, vr, e1, h⟩ := h
  subst e1
  cases r with
  | cons r rr =>
    rw [hs]
    refine assignInOrder_cons (thn (h1 pins s σ H _ _ _ I r h) fun _ s1 ⟨σ1, H1, I1, q1⟩ => ?_)
    exact h2 pins s1 σ1 H1 _ _ Q I1 rr q1
/-- (a, b, ..) = a tuple of that length -/
def gTup (K : PySem.W.Frag) (n : Nat) (t : TGs) : TG := fun v σ H Q => ∃ a xs, v = .ref a ∧ SqT K H a xs ∧ xs.length = n ∧ t xs σ H Q
theorem pg_tup {es : List Expr} {k : Nat} {t : TGs} {n : Nat} (hc : X.calm = true) (h : PGs X es t)
    (hn : (assignEach es X.env).length = n := by rfl) (hst : (assignEach es X.env).findIdx? (·.1) = none := by rfl) : PG X (.Tuple es k pos) (gTup X.K n t) := by
  intro pins s σ H v u Q I r hw
  obtain ⟨a, xs, e1, hq, hl, hw⟩ := hw
  subst e1
  cases r
  obtain ⟨its, rv, ht, hz⟩ := I.tuple hq
  refine assign_Tuple_tuple (I.ok.hd hc) ht (by simp [hn, ← hl, rv.length]) hst fun h' hx => ?_
  have I1 : Inv X pins σ H { s with heap := h' } := I.kept (t' := s.toks) fun b o e => hx b o (Nat.ne_of_lt (Heap.lt_size e)) e
  exact h pins _ σ H xs _ Q I1 (by simpa using rv) hw
/-- o[i] = .. -/
def gSub (to ti : TE) (t : TSet) : TG := fun v σ H Q => to σ H fun o H1 => ti σ H1 fun i H2 => t o i v H2 fun H3 => Q σ H3
theorem pg_sub {o i : Expr} {to ti : TE} {t : TSet} (ho : PE X o to) (hi : PE X i ti) (hs : PSet X t)
    (ha : ∀ v, assign (.Subscript o i pos) X.env v = (do
      let ov ← holding [v] (eval o X.env)
      let iv ← holding [v, ov] (eval i X.env)
      standAt pos
      holding [v, ov, iv] (setItem ov iv v)
      release [v, ov, iv] []) := by intro _; rfl) : PG X (.Subscript o i pos) (gSub to ti t) := by
  intro pins s σ H v u Q I r h
  rw [ha]
  refine wpAny_bind (wpAny_holding (thn (ho pins s σ H _ I h) fun ov s1 ⟨x, H1, I1, r1, q1⟩ => ?_))
  refine wpAny_bind (wpAny_holding (thn (hi pins s1 σ H1 _ I1 q1) fun iv s2 ⟨y, H2, I2, r2, q2⟩ => ?_))
  refine wpAny_bind (wpAny_standAt (wpAny_bind (wpAny_holding (thn (hs pins s2 σ H2 x y v ov iv u _ I2 r1 r2 r q2) fun _ s3 ⟨H3, I3, q3⟩ => ?_))))
  exact wpAny_release ⟨σ, H3, I3, q3⟩
/-- target = value -/
def tAsg (te : TE) (g : TG) : TS := fun D σ H => te σ H fun x H1 => g x σ H1 D.nx
theorem ps_asg {tg e : Expr} {te : TE} {g : TG} (he : PE X e te) (hg : PG X tg g) (hs : swapsWithSole [tg] e pos.line X.env = pure false := by rfl) (hw : swappedStores [tg] e X.env = pure none := by rfl)
    (h1 : (assignEach [tg] X.env).map (·.2) = [assign tg X.env] := by rfl) : PS X (.Assign [tg] e pos) (tAsg te g) := by
  intro pins s σ H D I h
  refine wpAny_Assign_stores (thn (he pins s σ H _ I h) fun v s1 ⟨x, H1, I1, r1, q1⟩ => ?_) hs hw
  rw [h1]
  exact thn (hg pins s1 σ H1 x v _ I1 r1 q1) fun _ s2 q => q
/-- name = value -/
theorem ps_set {i : Nat} {x : Str} {e : Expr} {te : TE} {pos' : Pos} (hN : X.N.Nodup) (hi : X.N[i]? = some x) (hx : Loc X.env.scope x) (he : PE X e te) (hs : swapsWith e (some (.Name x pos')) pos.line X.env = pure false := by rfl) (hf : X.fn x = true ∨ X.env.scope.names.lookup x = some .local := by first | exact .inl rfl | exact .inr rfl | assumption) :
    PS X (.Assign [.Name x pos'] e pos) (tAsg te (gName i)) := by
  intro pins s σ H D I h
  refine wpAny_Assign_Name (thn (he pins s σ H _ I h) fun v s1 ⟨y, H1, I1, r1, q1⟩ => ?_) hs
  exact store_ok I1 hN hi hx r1 (fun s2 I2 => ⟨_, H1, I2, q1⟩) hf
end

/-! ### while -/
section
variable {X : Cx} {pos : Pos}
end

/-! ### what a loop or a comprehension walks -/
/-- at turn i: it yields x (the heap may grow), or it stops -/
structure It where
  go : Nat → Hp → Prop
  yld : Nat → Hp → V → Hp → Prop
  stop : Nat → Hp → Prop
/-- the iterator's own objects may turn: they are not the frame's, not pinned, younger than the entry (or a comprehension's own) -/
def FpOk (X : Cx) (pins : List (Addr × Obj)) (H : Hp) (b : Addr) : Prop :=
  H b = none ∧ b ≠ X.env.locals ∧ b ∉ X.fs ∧ (b ∈ X.ex ∨ X.s₀.heap.objs.size ≤ b) ∧ (∀ x c, X.env.cells.lookup x = some c → c ≠ b) ∧ ∀ p ∈ X.pn ++ pins, p.1 ≠ b
theorem Inv.fpOk {X : Cx} {pins : List (Addr × Obj)} {σ : St} {H H' : Hp} {s : Shared} {b : Addr} (I : Inv X pins σ H s) (hb : s.heap.objs.size ≤ b) (hn : H' b = none) : FpOk X pins H' b := by
  refine ⟨hn, Nat.ne_of_gt (Nat.lt_of_lt_of_le I.lt hb), I.nofs hb, .inr (Nat.le_trans I.sz hb), fun x c e z => ?_, fun p hp z => ?_⟩
  · obtain ⟨v, q⟩ := I.cell x c e
    exact absurd (Nat.lt_of_lt_of_le q.lt (by rw [z]; exact hb)) (Nat.lt_irrefl _)
  · exact absurd (Nat.lt_of_lt_of_le (Heap.lt_size (I.pin p hp).1) (by rw [z]; exact hb)) (Nat.lt_irrefl _)
structure Turn (P : Program) (w : World) (K : PySem.W.Frag) (tg : Expr) (J : It) (fp : List Addr) (it : Addr) (tn : Nat → Heap → Prop) : Prop where
  mem : it ∈ fp
  obj : ∀ i h, tn i h → ∀ b ∈ fp, ∃ o, h.get? b = some o ∧ ∀ v, o.data ≠ .cell v
  keep : ∀ i h h', tn i h → (∀ b ∈ fp, ∀ o, h.get? b = some o → h'.get? b = some o) → tn i h'
  item : ∀ (X : Cx), X.prog = P → X.w = w → X.K = K → X.calm = true → ∀ (i : Nat) (pins : List (Addr × Obj)) (s : Shared) (σ : St) (H : Hp) (E : Value → Shared → Prop), Inv X pins σ H s → (∀ b ∈ fp, FpOk X pins H b) → tn i s.heap → J.go i H →
    wpAny (model P w) X.A (pyNext (.ref it)) (fun r s1 => ∃ u, r = some u ∧
      wpAny (model P w) X.A (letOwnedTupleGo tg (.ref it) u) (fun _ s2 => ∃ x H', Inv X pins σ H' s2 ∧ RelV x u ∧ J.yld i H x H' ∧ tn (i + 1) s2.heap ∧ ∀ b ∈ fp, H' b = none) E s1) E s
  done : ∀ (X : Cx), X.prog = P → X.w = w → X.K = K → X.calm = true → ∀ (i : Nat) (pins : List (Addr × Obj)) (s : Shared) (σ : St) (H : Hp) (E : Value → Shared → Prop), Inv X pins σ H s → (∀ b ∈ fp, FpOk X pins H b) → tn i s.heap → J.stop i H →
    wpAny (model P w) X.A (pyNext (.ref it)) (fun r s1 => r = none ∧ Inv X pins σ H s1) E s
  self : ∀ (A : Around) (i : Nat) (s : Shared) (Q : Value → Shared → Prop) (E : Value → Shared → Prop), tn i s.heap → Q (.ref it) s → wpAny (model P w) A (pyIter (.ref it)) Q E s
abbrev TI := St → Hp → (It → Hp → Prop) → Prop
/-- an iterator has come -/
def PIE (X : Cx) (pins : List (Addr × Obj)) (σ : St) (tg : Expr) (R : It → Hp → Prop) (itv : Value) (s2 : Shared) : Prop :=
  ∃ (it : Addr) (fp : List Addr) (tn : Nat → Heap → Prop) (J : It) (H' : Hp), itv = .ref it ∧ Inv X pins σ H' s2 ∧ Turn X.prog X.w X.K tg J fp it tn ∧ tn 0 s2.heap ∧ (∀ b ∈ fp, FpOk X pins H' b) ∧ R J H'
def PI (X : Cx) (tg iter : Expr) (wi : TI) : Prop :=
  ∀ (pins : List (Addr × Obj)) (s : Shared) (σ : St) (H : Hp) (R : It → Hp → Prop), Inv X pins σ H s → wi σ H R →
    wpAny (model X.prog X.w) X.A (eval iter X.env) (fun v s1 => wpAny (model X.prog X.w) X.A (pyIter v) (PIE X pins σ tg R) X.xe s1) X.xe s

/-- the step ahead of the store is nothing for an iterator that keeps no tuple -/
theorem go_of {M : Model} {A : Around} {E : Value → Shared → Prop} {s : Shared} {tg : Expr} {it : Addr} {u : Value} {o : Obj} {n : String} {vs : Array Value} {Q : Unit → Shared → Prop} (ho : s.heap.get? it = some o) (hc : o.cls = .type n) (hd : o.data = .fields vs)
    (hn : ["enumerate", "zip", "dict_itemiterator", "dict_reverseitemiterator", "odict_iterator", "itertools.zip_longest", "itertools.pairwise"].contains n = false) (hQ : Q () s) : wpAny M A (letOwnedTupleGo tg (.ref it) u) Q E s := by
  unfold letOwnedTupleGo
  cases tg <;> first
    | exact wpAny_pure hQ
    | (cases u <;> first
        | exact wpAny_pure hQ
        | (refine wpAny_bind (wpAny_load ho ?_)
           rw [hc, hd]
           show wpAny M A (if (["enumerate", "zip", "dict_itemiterator", "dict_reverseitemiterator", "odict_iterator", "itertools.zip_longest", "itertools.pairwise"].contains n && vs[0]? == some (rawInt _)) = true then _ else _) Q E s
           rw [if_neg (by intro h; rw [hn, Bool.false_and] at h; cases h)]
           exact wpAny_pure hQ))

/-- the list at a, as it stands at each turn (a loop may append to it) -/
def Itl (K : PySem.W.Frag) (a : Addr) : It :=
  ⟨fun i H => ∃ xs x, SqL K H a xs ∧ xs[i]? = some x, fun i H x H' => H' = H ∧ ∀ xs, SqL K H a xs → xs[i]? = some x, fun i H => ∃ xs, SqL K H a xs ∧ xs.length ≤ i⟩
def Itt (K : PySem.W.Frag) (a : Addr) : It :=
  ⟨fun i H => ∃ xs x, SqT K H a xs ∧ xs[i]? = some x, fun i H x H' => H' = H ∧ ∀ xs, SqT K H a xs → xs[i]? = some x, fun i H => ∃ xs, SqT K H a xs ∧ xs.length ≤ i⟩
/-- lo, lo + 1, .. (n of them) -/
def Itr (lo : Int) (n : Nat) : It := ⟨fun i _ => i < n, fun i H x H' => H' = H ∧ x = .int (lo + i), fun i _ => n ≤ i⟩
theorem turn_list {P : Program} {w : World} {K : PySem.W.Frag} {tg : Expr} (a it : Addr) : Turn P w K tg (Itl K a) [it] it (fun i h => h.IsListIter it a i) where
  mem := by simp
  obj := fun i h st b hb => by
    have e : b = it := by simpa using hb
    subst e
    obtain ⟨o, e, c, d⟩ := st
    exact ⟨o, e, fun v z => by rw [d] at z; cases z⟩
  keep := fun i h h' st k => st.at fun o e => k it (by simp) o e
  item := by
    intro X hP hw hK hc i pins s σ H E I hf st hg
    subst hP hw hK
    obtain ⟨xs, x, hq, hx⟩ := hg
    obtain ⟨its, rv, p, hz⟩ := I.list hq
    obtain ⟨u, hu, ru⟩ := rv.get hx
    obtain ⟨f0, f1, f2, f3, f4, f5⟩ := hf it (by simp)
    refine wpAny_pyNext_list_item st p.isList (x := u) (by simpa using hu) fun h' st' sb => ?_
    have I1 : Inv X pins σ H { s with heap := h' } := I.turned (t' := s.toks) (fun b o hb e => (sb.2 b hb).trans e) f0 f1 f3 f4 f5
    obtain ⟨o, e, c, d⟩ := id st'
    exact ⟨u, rfl, go_of (s := { s with heap := h' }) e c d (by decide) ⟨x, H, I1, ru, ⟨rfl, fun ys hy => by rw [I.list_inj hy hq]; exact hx⟩, st', fun b hb => (hf b hb).1⟩⟩
  done := by
    intro X hP hw hK hc i pins s σ H E I hf st hg
    subst hP hw hK
    obtain ⟨xs, hq, hx⟩ := hg
    obtain ⟨its, rv, p, hz⟩ := I.list hq
    obtain ⟨f0, f1, f2, f3, f4, f5⟩ := hf it (by simp)
    have hl := rv.length
    exact wpAny_pyNext_list_end (I.ok.hd hc) st p.isList (by simp; omega) fun h' eb => ⟨rfl, I.turned (t' := s.toks) (fun b o hb e => eb b o hb e) f0 f1 f3 f4 f5⟩
  self := fun _ _ _ _ _ st h => wpAny_pyIter_listiter st h
theorem turn_tuple {P : Program} {w : World} {K : PySem.W.Frag} {tg : Expr} (a it : Addr) : Turn P w K tg (Itt K a) [it] it (fun i h => h.IsTupleIter it a i) where
  mem := by simp
  obj := fun i h st b hb => by
    have e : b = it := by simpa using hb
    subst e
    obtain ⟨o, e, c, d⟩ := st
    exact ⟨o, e, fun v z => by rw [d] at z; cases z⟩
  keep := fun i h h' st k => st.at fun o e => k it (by simp) o e
  item := by
    intro X hP hw hK hc i pins s σ H E I hf st hg
    subst hP hw hK
    obtain ⟨xs, x, hq, hx⟩ := hg
    obtain ⟨its, rv, p, hz⟩ := I.tuple hq
    obtain ⟨u, hu, ru⟩ := rv.get hx
    obtain ⟨f0, f1, f2, f3, f4, f5⟩ := hf it (by simp)
    refine wpAny_pyNext_tuple_item st (show s.heap.IsTuple a its.toArray from p) (x := u) (by simpa using hu) fun h' st' sb => ?_
    have I1 : Inv X pins σ H { s with heap := h' } := I.turned (t' := s.toks) (fun b o hb e => (sb.2 b hb).trans e) f0 f1 f3 f4 f5
    obtain ⟨o, e, c, d⟩ := id st'
    exact ⟨u, rfl, go_of (s := { s with heap := h' }) e c d (by decide) ⟨x, H, I1, ru, ⟨rfl, fun ys hy => by rw [I.tuple_inj hy hq]; exact hx⟩, st', fun b hb => (hf b hb).1⟩⟩
  done := by
    intro X hP hw hK hc i pins s σ H E I hf st hg
    subst hP hw hK
    obtain ⟨xs, hq, hx⟩ := hg
    obtain ⟨its, rv, p, hz⟩ := I.tuple hq
    obtain ⟨f0, f1, f2, f3, f4, f5⟩ := hf it (by simp)
    have hl := rv.length
    exact wpAny_pyNext_tuple_end (I.ok.hd hc) st (show s.heap.IsTuple a its.toArray from p) (by simp; omega) fun h' eb => ⟨rfl, I.turned (t' := s.toks) (fun b o hb e => eb b o hb e) f0 f1 f3 f4 f5⟩
  self := fun _ _ _ _ _ st h => wpAny_pyIter_tupleiter st h
theorem turn_range {P : Program} {w : World} {K : PySem.W.Frag} {tg : Expr} (it : Addr) (lo : Int) (n : Nat) : Turn P w K tg (Itr lo n) [it] it (fun i h => IsRangeIter h it (lo + (i : Nat) * 1) ((n : Int) - (i : Nat)) 1) where
  mem := by simp
  obj := fun i h st b hb => by
    have e : b = it := by simpa using hb
    subst e
    exact ⟨_, st, fun v z => by
      have z' : Data.fields _ = Data.cell v := z
      cases z'⟩
  keep := fun i h h' st k => k it (by simp) _ st
  item := by
    intro X hP hw hK hc i pins s σ H E I hf st hg
    subst hP hw hK
    obtain ⟨f0, f1, f2, f3, f4, f5⟩ := hf it (by simp)
    have W := Walks.range (prog := X.prog) (w := X.w) (I.ok.hd hc) it lo 1 n
    refine W.item i s _ _ hg st fun v h' tk hv st' kk => ?_
    obtain ⟨t, rfl⟩ := hv
    have I1 : Inv X pins σ H { s with heap := h', toks := tk } := I.turned (fun b o hb e => kk b o (by simpa using hb) e) f0 f1 f3 f4 f5
    refine ⟨_, rfl, go_of (s := { s with heap := h', toks := tk }) (n := "range_iterator") st' rfl rfl (by decide) ⟨.int (lo + i), H, I1, ⟨t, ?_⟩, ⟨rfl, rfl⟩, st', fun b hb => (hf b hb).1⟩⟩
    rw [Int.mul_one]
  done := by
    intro X hP hw hK hc i pins s σ H E I hf st hg
    subst hP hw hK
    obtain ⟨f0, f1, f2, f3, f4, f5⟩ := hf it (by simp)
    exact wpAny_pyNext_range_end (I.ok.hd hc) st (by have : n ≤ i := hg; omega) fun h' eb => ⟨rfl, I.turned (t' := s.toks) (fun b o hb e => eb b o hb e) f0 f1 f3 f4 f5⟩
  self := fun _ _ _ _ _ st h => wpAny_pyIter_rangeiter st h
end L2

namespace L2
open PySem PySem.Spec PyProof.Rows
section
variable {X : Cx} {tg : Expr}
def iList (K : PySem.W.Frag) (tl : TE) : TI := fun σ H R => tl σ H fun x H1 => ∃ a, x = .ref a ∧ (∃ xs, SqL K H1 a xs) ∧ R (Itl K a) H1
def iTup (K : PySem.W.Frag) (tl : TE) : TI := fun σ H R => tl σ H fun x H1 => ∃ a, x = .ref a ∧ (∃ xs, SqT K H1 a xs) ∧ R (Itt K a) H1
theorem pi_list {l : Expr} {tl : TE} (hl : PE X l tl) : PI X tg l (iList X.K tl) := by
  intro pins s σ H R I h
  refine thn (hl pins s σ H _ I h) fun v s1 ⟨x, H1, I1, r1, q1⟩ => ?_
  obtain ⟨a, e, ⟨xs, hq⟩, q⟩ := q1
  subst e
  cases r1
  obtain ⟨its, rv, p, hz⟩ := I1.list hq
  refine wpAny_pyIter_list p.isList ?_
  refine ⟨s1.heap.objs.size, [s1.heap.objs.size], _, _, H1, rfl, I1.kept (t' := s1.toks) fun b o e => Heap.get?_push_of_some _ e, turn_list a _, ⟨_, Heap.get?_push_size _ rfl, rfl, rfl⟩, fun b hb => ?_, q⟩
  have e : b = s1.heap.objs.size := by simpa using hb
  subst e
  exact I1.fpOk (Nat.le_refl _) (I1.hok.fresh (Nat.le_refl _))
theorem pi_tup {l : Expr} {tl : TE} (hl : PE X l tl) : PI X tg l (iTup X.K tl) := by
  intro pins s σ H R I h
  refine thn (hl pins s σ H _ I h) fun v s1 ⟨x, H1, I1, r1, q1⟩ => ?_
  obtain ⟨a, e, ⟨xs, hq⟩, q⟩ := q1
  subst e
  cases r1
  obtain ⟨its, rv, p, hz⟩ := I1.tuple hq
  refine wpAny_pyIter_tuple (show s1.heap.IsTuple a its.toArray from p) ?_
  refine ⟨s1.heap.objs.size, [s1.heap.objs.size], _, _, H1, rfl, I1.kept (t' := s1.toks) fun b o e => Heap.get?_push_of_some _ e, turn_tuple a _, ⟨_, Heap.get?_push_size _ rfl, rfl, rfl⟩, fun b hb => ?_, q⟩
  have e : b = s1.heap.objs.size := by simpa using hb
  subst e
  exact I1.fpOk (Nat.le_refl _) (I1.hok.fresh (Nat.le_refl _))
/-- a range object just made, walked -/
theorem range_it {pins : List (Addr × Obj)} {σ : St} {H : Hp} {s : Shared} {R : It → Hp → Prop} {E : Value → Shared → Prop} {lo hi : Int} {t u v : Tok} {tk : Nat} (I : Inv X pins σ H s) (h1 : -(2 ^ 62) ≤ lo) (h2 : lo < 2 ^ 62) (h3 : -(2 ^ 62) ≤ hi) (h4 : hi < 2 ^ 62)
    (q : R (Itr lo (hi - lo).toNat) H) : wpAny (model X.prog X.w) X.A (pyIter (.ref s.heap.objs.size)) (PIE X pins σ tg R) E { s with heap := s.heap.push { cls := .type "range", data := .fields #[.int lo t, .int hi u, .int 1 v] }, toks := tk } := by
  refine wpAny_pyIter_range (IsRange.new ..) (small_one h1 h2 h3 h4) ?_
  have I1 : Inv X pins σ H { s with heap := s.heap.push { cls := .type "range", data := .fields #[.int lo t, .int hi u, .int 1 v] }, toks := tk } := I.kept fun b o e => Heap.get?_push_of_some _ e
  refine ⟨(s.heap.push { cls := .type "range", data := .fields #[.int lo t, .int hi u, .int 1 v] }).objs.size, [(s.heap.push { cls := .type "range", data := .fields #[.int lo t, .int hi u, .int 1 v] }).objs.size], _, _, H, rfl,
    I1.kept (t' := tk) fun b o e => Heap.get?_push_of_some _ e, turn_range _ lo (hi - lo).toNat, ?_, fun b hb => ?_, q⟩
  · have e1 : lo + ((0 : Nat) : Int) * 1 = lo := by simp
    have e2 : (((hi - lo).toNat : Nat) : Int) - ((0 : Nat) : Int) = Builtin.Range.rangeSize lo hi 1 := by rw [rangeSize_one]; split <;> omega
    show IsRangeIter _ _ (lo + ((0 : Nat) : Int) * 1) ((((hi - lo).toNat : Nat) : Int) - ((0 : Nat) : Int)) 1
    rw [e1, e2]
    exact Heap.get?_push_size _ rfl
  · have e : b = (s.heap.push { cls := .type "range", data := .fields #[.int lo t, .int hi u, .int 1 v] }).objs.size := by simpa using hb
    subst e
    exact I1.fpOk (Nat.le_refl _) (I1.hok.fresh (Nat.le_refl _))
def iRng1 (ta : TA) : TI := fun σ H R => ta σ H fun vs H1 => ∃ j : Int, vs = [.int j] ∧ -(2 ^ 62) ≤ j ∧ j < 2 ^ 62 ∧ R (Itr 0 j.toNat) H1
theorem pi_range1 {a : Expr} {ta : TA} {p pos : Pos} (hg : Gl X "range") (hm : X.mg "range" = none) (ha : PA X [a] ta) (hs : starEach [a] X.env = [(false, eval a X.env)] := by rfl) : PI X tg (.Call (.Name "range" p) [a] [] pos) (iRng1 ta) := by
  intro pins s σ H R I h
  refine Call_ (ld_blt I hg hm boot_range (PyProof.Rows.callWith_type1 (thn (ha pos pins s σ H _ I h) fun us s1 ⟨vs, H1, I1, r1, q1⟩ => ?_) hs rfl))
  obtain ⟨j, e, q1, q2, q⟩ := q1
  subst e
  cases r1 with
  | cons r rr =>
    cases rr
    obtain ⟨t, rfl⟩ := r
    exact call_range_1 (range_it I1 (by omega) (by omega) q1 q2 (by simpa using q))

/-! ### for -/
/-- W: the invariant by the turn and a measure; N: what the body is to reach -/
def tFor (wi : TI) (g : TG) (tb : TS) : TS := fun D σ H => wi σ H fun J H1 => ∃ W : Nat → Nat → St → Hp → Prop, (∃ m, W 0 m σ H1) ∧ ∀ i m σ H, W i m σ H →
  (J.stop i H ∧ D.nx σ H) ∨ (J.go i H ∧ ∃ N : St → Hp → Prop, (∀ σ' H', N σ' H' → ∃ m', m' < m ∧ W (i + 1) m' σ' H') ∧ ∀ x H', J.yld i H x H' → g x σ H' fun σ2 H2 => tb { D with nx := N, ct := N, bk := D.nx } σ2 H2)
/-- the records at fp as they stand -/
def pinsAt (fp : List Addr) (h : Heap) : List (Addr × Obj) := fp.filterMap fun b => (h.get? b).map fun o => (b, o)
theorem mem_pinsAt {fp : List Addr} {h : Heap} {b : Addr} {o : Obj} (hb : b ∈ fp) (e : h.get? b = some o) : (b, o) ∈ pinsAt fp h := List.mem_filterMap.mpr ⟨b, hb, by rw [e]; rfl⟩
theorem of_pinsAt {fp : List Addr} {h : Heap} {p : Addr × Obj} (hp : p ∈ pinsAt fp h) : p.1 ∈ fp ∧ h.get? p.1 = some p.2 := by
  obtain ⟨b, hb, e⟩ := List.mem_filterMap.mp hp
  cases q : h.get? b with
  | none => rw [q] at e; cases e
  | some o =>
    rw [q] at e
    have e' : (b, o) = p := Option.some.inj e
    subst e'
    exact ⟨hb, q⟩
theorem Inv.pinned {pins : List (Addr × Obj)} {σ : St} {H : Hp} {s : Shared} {fp : List Addr} (I : Inv X pins σ H s) (hf : ∀ b ∈ fp, FpOk X pins H b) (ho : ∀ b ∈ fp, ∃ o, s.heap.get? b = some o ∧ ∀ v, o.data ≠ .cell v) : Inv X (pins ++ pinsAt fp s.heap) σ H s :=
  I.pins_of fun p hp => (List.mem_append.mp hp).elim (fun z => I.pin p (List.mem_append_right _ z)) fun z => by
    obtain ⟨hb, e⟩ := of_pinsAt z
    obtain ⟨f0, f1, f2, _⟩ := hf p.1 hb
    obtain ⟨o, e', d⟩ := ho p.1 hb
    rw [e] at e'; cases e'
    exact ⟨e, f0, f1, f2, d⟩
theorem Inv.unpinned {pins pl : List (Addr × Obj)} {σ : St} {H : Hp} {s : Shared} (I : Inv X (pins ++ pl) σ H s) : Inv X pins σ H s := I.pins_of fun p hp => I.pin p (List.mem_append_right _ (List.mem_append_left _ hp))
theorem ps_for {iter : Expr} {body : List Stmt} {wi : TI} {g : TG} {tb : TS} {pos : Pos} (hp : PassesOwn (model X.prog X.w) X.A X.env X.xe) (hc : X.calm = true) (hi : PI X tg iter wi) (hg : PG X tg g) (hb : PSs X body tb)
    (hs : ∀ x, foldedSetIterable iter X.env x = pure x := by intro _; rfl) : PS X (.For tg iter body [] pos) (tFor wi g tb) := by
  intro pins s σ H D I h
  refine wpAny_For (thn (hi pins s σ H _ I h) fun v s1 h1 => thn h1 fun itv s2 h2 => ?_) hs
  obtain ⟨it, fp, tn, J, H2, e, I2, T, st2, f2, W, ⟨m0, w0⟩, turn⟩ := h2
  subst e
  -- what stays true of the iterator's objects through the loop
  have stat : ∀ {H' : Hp}, (∀ b ∈ fp, H' b = none) → ∀ b ∈ fp, FpOk X pins H' b := fun hn b hb => ⟨hn b hb, (f2 b hb).2⟩
  refine codeAny_forLoop_any (fun n s' => ∃ i σ' H', Inv X pins σ' H' s' ∧ tn i s'.heap ∧ (∀ b ∈ fp, H' b = none) ∧ W i n σ' H') ?_ m0 ⟨0, σ, H2, I2, st2, fun b hb => (f2 b hb).1, w0⟩
  rintro n s3 ⟨i, σ3, H3, I3, st3, fr3, w3⟩
  rcases turn i n σ3 H3 w3 with ⟨stop, qn⟩ | ⟨go, N, hN, step⟩
  · refine wpAny_passesOwn hp (thn (T.done X rfl rfl rfl hc i pins s3 σ3 H3 X.xe I3 (stat fr3) st3 stop) fun r s4 ⟨hr, I4⟩ => ?_)
    subst hr
    exact wpAny_execs_nil ⟨σ3, H3, I4, qn⟩
  · refine wpAny_passesOwn hp (thn (T.item X rfl rfl rfl hc i pins s3 σ3 H3 X.xe I3 (stat fr3) st3 go) fun r s4 ⟨u, hr, h4⟩ => ?_)
    subst hr
    refine wpAny_passesOwn hp (thn h4 fun _ s5 ⟨x, H5, I5, r5, y5, st5, fr5⟩ => ?_)
    have I5' := I5.pinned (stat fr5) (T.obj _ _ st5)
    refine wpAny_passesOwn hp (thn (hg _ s5 σ3 H5 x u _ I5' r5 (step x H5 y5)) fun _ s6 ⟨σ6, H6, I6, q6⟩ => ?_)
    refine wpAny_passesOwn hp (thn (hb _ s6 σ6 H6 _ I6 q6) fun f s7 q7 => ?_)
    have again : ∀ {σ7 : St} {H7 : Hp}, Inv X (pins ++ pinsAt fp s5.heap) σ7 H7 s7 → N σ7 H7 → ∃ m, m < n ∧ ∃ i σ' H', Inv X pins σ' H' s7 ∧ tn i s7.heap ∧ (∀ b ∈ fp, H' b = none) ∧ W i m σ' H' := fun {σ7 H7} I7 n7 => by
      obtain ⟨m', hm, w7⟩ := hN σ7 H7 n7
      refine ⟨m', hm, i + 1, σ7, H7, I7.unpinned, T.keep _ _ _ st5 fun b hb o e => (I7.pin (b, o) (List.mem_append_right _ (List.mem_append_right _ (mem_pinsAt hb e)))).1, fun b hb => ?_, w7⟩
      obtain ⟨o, e, d⟩ := T.obj _ _ st5 b hb
      exact (I7.pin (b, o) (List.mem_append_right _ (List.mem_append_right _ (mem_pinsAt hb e)))).2.1
    cases f with
    | next => obtain ⟨σ7, H7, I7, n7⟩ := q7; exact again I7 n7
    | cont => obtain ⟨σ7, H7, I7, n7⟩ := q7; exact again I7 n7
    | brk => obtain ⟨σ7, H7, I7, q7⟩ := q7; exact ⟨σ7, H7, I7.unpinned, q7⟩
    | ret v => obtain ⟨x7, σ7, H7, I7, r7, q7⟩ := q7; exact ⟨x7, σ7, H7, I7.unpinned, r7, q7⟩
end

/-! ### the forms one uses -/
/-- over a list that the body leaves as it is -/
theorem for_list {K : PySem.W.Frag} {a : Addr} {xs : List V} {g : TG} {tb : TS} {D : Ends} {σ : St} {H : Hp} (Pv : Nat → St → Hp → Prop) (h0 : Pv 0 σ H) (hl : ∀ i σ H, i ≤ xs.length → Pv i σ H → SqL K H a xs)
    (hs : ∀ i x σ H, xs[i]? = some x → Pv i σ H → g x σ H fun σ2 H2 => tb { D with nx := Pv (i + 1), ct := Pv (i + 1), bk := D.nx } σ2 H2) (hd : ∀ σ H, Pv xs.length σ H → D.nx σ H) :
    ∃ W : Nat → Nat → St → Hp → Prop, (∃ m, W 0 m σ H) ∧ ∀ i m σ H, W i m σ H →
      ((Itl K a).stop i H ∧ D.nx σ H) ∨ ((Itl K a).go i H ∧ ∃ N : St → Hp → Prop, (∀ σ' H', N σ' H' → ∃ m', m' < m ∧ W (i + 1) m' σ' H') ∧ ∀ x H', (Itl K a).yld i H x H' → g x σ H' fun σ2 H2 => tb { D with nx := N, ct := N, bk := D.nx } σ2 H2) := by
  refine ⟨fun i m σ H => m = xs.length - i ∧ i ≤ xs.length ∧ Pv i σ H, ⟨xs.length, by simp, Nat.zero_le _, h0⟩, ?_⟩
  rintro i m σ H ⟨rfl, hi, p⟩
  have q := hl i σ H hi p
  by_cases hlt : i < xs.length
  · refine .inr ⟨⟨xs, xs[i], q, by simp [hlt]⟩, Pv (i + 1), fun σ' H' p' => ⟨xs.length - (i + 1), by omega, rfl, hlt, p'⟩, fun x H' y => ?_⟩
    obtain ⟨e, y⟩ := y
    subst e
    exact hs i x σ _ (y xs q) p
  · have e : i = xs.length := by omega
    subst e
    exact .inl ⟨⟨xs, q, Nat.le_refl _⟩, hd σ H p⟩
theorem for_range {lo : Int} {n : Nat} {g : TG} {tb : TS} {D : Ends} {σ : St} {H : Hp} (Pv : Nat → St → Hp → Prop) (h0 : Pv 0 σ H)
    (hs : ∀ i σ H, i < n → Pv i σ H → g (.int (lo + i)) σ H fun σ2 H2 => tb { D with nx := Pv (i + 1), ct := Pv (i + 1), bk := D.nx } σ2 H2) (hd : ∀ σ H, Pv n σ H → D.nx σ H) :
    ∃ W : Nat → Nat → St → Hp → Prop, (∃ m, W 0 m σ H) ∧ ∀ i m σ H, W i m σ H →
      ((Itr lo n).stop i H ∧ D.nx σ H) ∨ ((Itr lo n).go i H ∧ ∃ N : St → Hp → Prop, (∀ σ' H', N σ' H' → ∃ m', m' < m ∧ W (i + 1) m' σ' H') ∧ ∀ x H', (Itr lo n).yld i H x H' → g x σ H' fun σ2 H2 => tb { D with nx := N, ct := N, bk := D.nx } σ2 H2) := by
  refine ⟨fun i m σ H => m = n - i ∧ i ≤ n ∧ Pv i σ H, ⟨n, by simp, Nat.zero_le _, h0⟩, ?_⟩
  rintro i m σ H ⟨rfl, hi, p⟩
  by_cases hlt : i < n
  · refine .inr ⟨hlt, Pv (i + 1), fun σ' H' p' => ⟨n - (i + 1), by omega, rfl, hlt, p'⟩, fun x H' y => ?_⟩
    obtain ⟨e, y⟩ := y
    subst e y
    exact hs i σ _ hlt p
  · have e : i = n := by omega
    subst e
    exact .inl ⟨Nat.le_refl _, hd σ H p⟩
end L2

namespace L2
open PySem PySem.Spec PyProof.Rows

abbrev R2 := V → V → Hp → VK → Prop
/-- a two-place operation on values: f is binaryOp op, inplaceOp op or compareOp op -/
def OpR (X : Cx) (f : Value → Value → Sem Value) (r : R2) : Prop :=
  ∀ (pins : List (Addr × Obj)) (s : Shared) (σ : St) (H : Hp) (x y : V) (v u : Value) (Q : VK), Inv X pins σ H s → RelV x v → RelV y u → r x y H Q →
    wpAny (model X.prog X.w) X.A (f v u) (EP X pins σ Q) X.xe s
/-- a one-place operation -/
def UnR (X : Cx) (f : Value → Sem Value) (r : V → Hp → VK → Prop) : Prop :=
  ∀ (pins : List (Addr × Obj)) (s : Shared) (σ : St) (H : Hp) (x : V) (v : Value) (Q : VK), Inv X pins σ H s → RelV x v → r x H Q →
    wpAny (model X.prog X.w) X.A (f v) (EP X pins σ Q) X.xe s
/-- a call of a value that is known (a builtin, a type) with values -/
def CallR (X : Cx) (f : Value) (r : List V → Hp → VK → Prop) : Prop :=
  ∀ (pins : List (Addr × Obj)) (s : Shared) (σ : St) (H : Hp) (xs : List V) (us : List Value) (Q : VK), Inv X pins σ H s → Vals xs us → r xs H Q →
    wpAny (model X.prog X.w) X.A (call f us) (EP X pins σ Q) X.xe s
/-- a value's truth -/
def TruR (X : Cx) (r : V → Hp → (Bool → Hp → Prop) → Prop) : Prop :=
  ∀ (pins : List (Addr × Obj)) (s : Shared) (σ : St) (H : Hp) (x : V) (v : Value) (Q : Bool → Hp → Prop), Inv X pins σ H s → RelV x v → r x H Q →
    wpAny (model X.prog X.w) X.A (truthy v) (TP X pins σ Q) X.xe s

def tOp (r : R2) (ta tb : TE) : TE := fun σ H Q => ta σ H fun x H1 => tb σ H1 fun y H2 => r x y H2 Q
def tUn (r : V → Hp → VK → Prop) (ta : TE) : TE := fun σ H Q => ta σ H fun x H1 => r x H1 Q
/-- ints in, under C, and a value out -/
def rI (C : Int → Int → Prop) (g : Int → Int → V) : R2 := fun x y H Q => ∃ i j, x = .int i ∧ y = .int j ∧ C i j ∧ Q (g i j) H
def rI0 (g : Int → Int → V) : R2 := fun x y H Q => ∃ i j, x = .int i ∧ y = .int j ∧ Q (g i j) H
def rU (g : Int → V) : V → Hp → VK → Prop := fun x H Q => ∃ i, x = .int i ∧ Q (g i) H

section
variable {X : Cx} {a b c : Expr} {ta tb tc : TE} {pos : Pos}

theorem binT (ha : PE X a ta) (hb : PE X b tb) {pins : List (Addr × Obj)} {s : Shared} {σ : St} {H : Hp} {R : V → V → Hp → Prop} (I : Inv X pins σ H s)
    (h : ta σ H fun x H1 => tb σ H1 fun y H2 => R x y H2) {Q : Value → Shared → Prop} {f : Value → Value → Sem Value}
    (hf : ∀ v u s2 x y H2, Inv X pins σ H2 s2 → RelV x v → RelV y u → R x y H2 → wpAny (model X.prog X.w) X.A (f v u) Q X.xe s2) :
    wpAny (model X.prog X.w) X.A (eval a X.env) (fun v s₁ => wpAny (model X.prog X.w) X.A (eval b X.env) (fun u s₂ => wpAny (model X.prog X.w) X.A (f v u) Q X.xe s₂) X.xe s₁) X.xe s := by
  refine thn (ha pins s σ H _ I h) fun v s1 ⟨x, H1, I1, r1, q1⟩ => ?_
  refine thn (hb pins s1 σ H1 _ I1 q1) fun u s2 ⟨y, H2, I2, r2, q2⟩ => ?_
  exact hf v u s2 x y H2 I2 r1 r2 q2

theorem pe_op {op : Operator} {r : R2} (ho : OpR X (binaryOp op) r) (ha : PE X a ta) (hb : PE X b tb) : PE X (.BinOp a op b pos) (tOp r ta tb) := by
  intro pins s σ H Q I h
  exact wpAny_BinOp (binT ha hb I h fun v u s2 x y H2 I2 rx ry q => ho pins s2 σ H2 x y v u Q I2 rx ry q)
theorem pe_un {op : UnaryOp} {r : V → Hp → VK → Prop} (ho : UnR X (unaryOp op) r) (ha : PE X a ta) : PE X (.UnaryOp op a pos) (tUn r ta) := by
  intro pins s σ H Q I h
  exact UnaryOp_ (thn (ha pins s σ H _ I h) fun v s1 ⟨x, H1, I1, r1, q1⟩ => ho pins s1 σ H1 x v Q I1 r1 q1)

/-! ### ints -/
theorem opI {f : Value → Value → Sem Value} {C : Int → Int → Prop} {g : Int → Int → Int}
    (rule : ∀ (i j : Int) (t u : Tok) (s : Shared) (Q : Value → Shared → Prop) (E : Value → Shared → Prop), C i j → Q (.int (g i j) s.toks) { s with toks := s.toks + 1 } → wpAny (model X.prog X.w) X.A (f (.int i t) (.int j u)) Q E s) :
    OpR X f (rI C fun i j => .int (g i j)) := by
  intro pins s σ H x y v u Q I rx ry h
  obtain ⟨i, j, rfl, rfl, hc, q⟩ := h
  obtain ⟨t, rfl⟩ := rx
  obtain ⟨t', rfl⟩ := ry
  exact rule i j t t' s _ _ hc ⟨.int (g i j), H, I.tok _, ⟨_, rfl⟩, q⟩
theorem opI0 {f : Value → Value → Sem Value} {g : Int → Int → Int}
    (rule : ∀ (i j : Int) (t u : Tok) (s : Shared) (Q : Value → Shared → Prop) (E : Value → Shared → Prop), Q (.int (g i j) s.toks) { s with toks := s.toks + 1 } → wpAny (model X.prog X.w) X.A (f (.int i t) (.int j u)) Q E s) :
    OpR X f (rI0 fun i j => .int (g i j)) := by
  intro pins s σ H x y v u Q I rx ry h
  obtain ⟨i, j, rfl, rfl, q⟩ := h
  obtain ⟨t, rfl⟩ := rx
  obtain ⟨t', rfl⟩ := ry
  exact rule i j t t' s _ _ ⟨.int (g i j), H, I.tok _, ⟨_, rfl⟩, q⟩
theorem opB0 {f : Value → Value → Sem Value} {g : Int → Int → Bool}
    (rule : ∀ (i j : Int) (t u : Tok) (s : Shared) (Q : Value → Shared → Prop) (E : Value → Shared → Prop), Q (.bool (g i j)) s → wpAny (model X.prog X.w) X.A (f (.int i t) (.int j u)) Q E s) :
    OpR X f (rI0 fun i j => .bl (g i j)) := by
  intro pins s σ H x y v u Q I rx ry h
  obtain ⟨i, j, rfl, rfl, q⟩ := h
  obtain ⟨t, rfl⟩ := rx
  obtain ⟨t', rfl⟩ := ry
  exact rule i j t t' s _ _ ⟨.bl (g i j), H, I, rfl, q⟩

def CDiv (i j : Int) : Prop := 0 < j ∧ j < 1073741824
def CPow (i j : Int) : Prop := 0 ≤ j ∧ j ≤ 1000000 ∧ i.natAbs < 2 ^ 64
def CMul (i j : Int) : Prop := (-(2 ^ 64) < i ∧ i < 2 ^ 64) ∨ (-(2 ^ 64) < j ∧ j < 2 ^ 64)
theorem CMul.ok {i j : Int} (h : CMul i j) : IntMulOk i j := by
  rcases h with ⟨h1, h2⟩ | ⟨h1, h2⟩
  · exact .of_left (intBits_le_64 h1 h2)
  · exact .of_right (intBits_le_64 h1 h2)

theorem op_add : OpR X (binaryOp .Add) (rI0 fun i j => .int (i + j)) := opI0 fun _ _ _ _ _ _ _ q => add_int q
theorem op_sub : OpR X (binaryOp .Sub) (rI0 fun i j => .int (i - j)) := opI0 fun _ _ _ _ _ _ _ q => sub_int q
theorem op_mul : OpR X (binaryOp .Mult) (rI CMul fun i j => .int (i * j)) := opI fun _ _ _ _ _ _ _ hc q => mul_int q hc.ok
/-- // by a positive divisor -/
theorem op_fdiv : OpR X (binaryOp .FloorDiv) (rI CDiv fun i j => .int (i / j)) := opI fun i j _ _ _ _ _ hc q => by
  have h1 : (0 : Int) < j := hc.1
  have h2 : j < 1073741824 := hc.2
  exact floordiv_int (by omega) (by rw [Int.fdiv_eq_ediv_of_nonneg i (by omega)]; exact q) (.inl (PyProof.noPylong_small (by omega)))
/-- % by a positive divisor of any size -/
theorem op_mod : OpR X (binaryOp .Mod) (rI (fun _ j => 0 < j) fun i j => .int (i % j)) := opI fun i j _ _ _ _ _ hc q => by
  have h1 : (0 : Int) < j := hc
  exact mod_int' (by omega) (by rw [Int.fmod_eq_emod_of_nonneg i (by omega)]; exact q)
theorem op_pow : OpR X (binaryOp .Pow) (rI CPow fun i j => .int (i ^ j.toNat)) := opI fun _ _ _ _ _ _ _ hc q => pow_int_small hc.1 hc.2.1 hc.2.2 q


theorem unI {f : Value → Sem Value} {g : Int → Int}
    (rule : ∀ (i : Int) (t : Tok) (s : Shared) (Q : Value → Shared → Prop) (E : Value → Shared → Prop), Q (.int (g i) s.toks) { s with toks := s.toks + 1 } → wpAny (model X.prog X.w) X.A (f (.int i t)) Q E s) :
    UnR X f (rU fun i => .int (g i)) := by
  intro pins s σ H x v Q I rx h
  obtain ⟨i, rfl, q⟩ := h
  obtain ⟨t, rfl⟩ := rx
  exact rule i t s _ _ ⟨.int (g i), H, I.tok _, ⟨_, rfl⟩, q⟩
theorem un_neg : UnR X (unaryOp .USub) (rU fun i => .int (-i)) := unI fun _ _ _ _ _ q => neg_int q

/-! ### bools among ints: n += (a < b) -/
end

/-! ### comparisons -/
/-- the scalars that == tells apart as data does -/
def scal : V → V → Bool
  | .non, .non => true | .non, .int _ => true | .int _, .non => true | .non, .bl _ => true | .bl _, .non => true | .non, .str _ => true | .str _, .non => true
  | .int _, .int _ => true | .bl _, .bl _ => true | .str _, .str _ => true | .byt _, .byt _ => true
  | .int _, .str _ => true | .str _, .int _ => true | .bl _, .str _ => true | .str _, .bl _ => true
  | _, _ => false
def rEq : R2 := fun x y H Q => scal x y = true ∧ Q (.bl (decide (x = y))) H
def rNe : R2 := fun x y H Q => scal x y = true ∧ Q (.bl (!decide (x = y))) H

theorem dec_int {i j : Int} : decide (V.int i = V.int j) = (i == j) := by
  rw [Bool.eq_iff_iff]
  simp
theorem dec_bl {i j : Bool} : decide (V.bl i = V.bl j) = (i == j) := by
  rw [Bool.eq_iff_iff]
  simp
theorem dec_str {i j : Str} : decide (V.str i = V.str j) = (i == j) := by
  rw [Bool.eq_iff_iff]
  simp
theorem dec_byt {i j : Array UInt8} : decide (V.byt i = V.byt j) = (i.toList == j.toList) := by
  rw [Bool.eq_iff_iff]
  cases i
  cases j
  simp

section
variable {X : Cx} {a b c : Expr} {ta tb tc : TE} {pos : Pos}
theorem fin_bl {pins : List (Addr × Obj)} {σ : St} {H : Hp} {s : Shared} {Q : VK} {k k' : Bool} (I : Inv X pins σ H s) (q : Q (.bl k) H) (e : k = k') : EP X pins σ Q (.bool k') s := by
  subst e
  exact ⟨.bl k, H, I, rfl, q⟩
theorem op_eq : OpR X (compareOp .Eq) rEq := by
  intro pins s σ H x y v u Q I rx ry h
  obtain ⟨hs, q⟩ := h
  cases x with
  | non =>
    cases rx
    cases y with
    | non => cases ry; exact PySem.EqNone.eq_none_none (fin_bl I q (by simp))
    | bl j => cases ry; exact PySem.EqNone.eq_none_bool (fin_bl I q (by simp))
    | int j => obtain ⟨t', rfl⟩ := ry; exact PySem.EqNone.eq_none_int (fin_bl I q (by simp))
    | str j => obtain ⟨t', rfl⟩ := ry; exact PySem.EqNone.eq_none_str (fin_bl I q (by simp))
    | _ => exact absurd (show false = true from hs) Bool.false_ne_true
  | bl i =>
    cases rx
    cases y with
    | non => cases ry; exact PySem.EqNone.eq_bool_none (fin_bl I q (by simp))
    | bl j => cases ry; exact eq_bool (fin_bl I q dec_bl)
    | str j => obtain ⟨t', rfl⟩ := ry; exact PySem.EqMixed.eq_bool_str (fin_bl I q (by simp))
    | _ => exact absurd (show false = true from hs) Bool.false_ne_true
  | int i =>
    obtain ⟨t, rfl⟩ := rx
    cases y with
    | non => cases ry; exact PySem.EqNone.eq_int_none (fin_bl I q (by simp))
    | int j => obtain ⟨t', rfl⟩ := ry; exact eq_int (fin_bl I q dec_int)
    | str j => obtain ⟨t', rfl⟩ := ry; exact PySem.EqMixed.eq_int_str (fin_bl I q (by simp))
    | _ => exact absurd (show false = true from hs) Bool.false_ne_true
  | str i =>
    obtain ⟨t, rfl⟩ := rx
    cases y with
    | non => cases ry; exact PySem.EqNone.eq_str_none (fin_bl I q (by simp))
    | bl j => cases ry; exact PySem.EqMixed.eq_str_bool (fin_bl I q (by simp))
    | int j => obtain ⟨t', rfl⟩ := ry; exact PySem.EqMixed.eq_str_int (fin_bl I q (by simp))
    | str j => obtain ⟨t', rfl⟩ := ry; exact eq_str (fin_bl I q dec_str)
    | _ => exact absurd (show false = true from hs) Bool.false_ne_true
  | byt i =>
    obtain ⟨t, rfl⟩ := rx
    cases y with
    | byt j => obtain ⟨t', rfl⟩ := ry; exact PySem.W.eq_bytes (fin_bl I q dec_byt)
    | _ => exact absurd (show false = true from hs) Bool.false_ne_true
  | _ => cases y <;> exact absurd (show false = true from hs) Bool.false_ne_true
theorem op_ne : OpR X (compareOp .NotEq) rNe := by
  intro pins s σ H x y v u Q I rx ry h
  obtain ⟨hs, q⟩ := h
  cases x with
  | non =>
    cases rx
    cases y with
    | non => cases ry; exact PySem.EqNone.ne_none_none (fin_bl I q (by simp))
    | bl j => cases ry; exact PySem.EqNone.ne_none_bool (fin_bl I q (by simp))
    | int j => obtain ⟨t', rfl⟩ := ry; exact PySem.EqNone.ne_none_int (fin_bl I q (by simp))
    | str j => obtain ⟨t', rfl⟩ := ry; exact PySem.EqNone.ne_none_str (fin_bl I q (by simp))
    | _ => exact absurd (show false = true from hs) Bool.false_ne_true
  | bl i =>
    cases rx
    cases y with
    | non => cases ry; exact PySem.EqNone.ne_bool_none (fin_bl I q (by simp))
    | bl j => cases ry; exact ne_bool (fin_bl I q (congrArg not dec_bl))
    | str j => obtain ⟨t', rfl⟩ := ry; exact PySem.EqMixed.ne_bool_str (fin_bl I q (by simp))
    | _ => exact absurd (show false = true from hs) Bool.false_ne_true
  | int i =>
    obtain ⟨t, rfl⟩ := rx
    cases y with
    | non => cases ry; exact PySem.EqNone.ne_int_none (fin_bl I q (by simp))
    | int j => obtain ⟨t', rfl⟩ := ry; exact ne_int (fin_bl I q (congrArg not dec_int))
    | str j => obtain ⟨t', rfl⟩ := ry; exact PySem.EqMixed.ne_int_str (fin_bl I q (by simp))
    | _ => exact absurd (show false = true from hs) Bool.false_ne_true
  | str i =>
    obtain ⟨t, rfl⟩ := rx
    cases y with
    | non => cases ry; exact PySem.EqNone.ne_str_none (fin_bl I q (by simp))
    | bl j => cases ry; exact PySem.EqMixed.ne_str_bool (fin_bl I q (by simp))
    | int j => obtain ⟨t', rfl⟩ := ry; exact PySem.EqMixed.ne_str_int (fin_bl I q (by simp))
    | str j => obtain ⟨t', rfl⟩ := ry; exact ne_str (fin_bl I q (congrArg not dec_str))
    | _ => exact absurd (show false = true from hs) Bool.false_ne_true
  | byt i =>
    obtain ⟨t, rfl⟩ := rx
    cases y with
    | byt j => obtain ⟨t', rfl⟩ := ry; exact PySem.W.ne_bytes (fin_bl I q (congrArg not dec_byt))
    | _ => exact absurd (show false = true from hs) Bool.false_ne_true
  | _ => cases y <;> exact absurd (show false = true from hs) Bool.false_ne_true

theorem op_lt : OpR X (compareOp .Lt) (rI0 fun i j => .bl (decide (i < j))) := opB0 fun _ _ _ _ _ _ _ q => lt_int q
theorem op_gt : OpR X (compareOp .Gt) (rI0 fun i j => .bl (decide (j < i))) := opB0 fun _ _ _ _ _ _ _ q => gt_int q
theorem op_ge : OpR X (compareOp .GtE) (rI0 fun i j => .bl (decide (j ≤ i))) := opB0 fun _ _ _ _ _ _ _ q => ge_int q



/-- two rules for one operation: by cases -/
theorem OpR.or {f : Value → Value → Sem Value} {r r' : R2} (h : OpR X f r) (h' : OpR X f r') : OpR X f (fun x y H Q => r x y H Q ∨ r' x y H Q) := by
  intro pins s σ H x y v u Q I rx ry q
  rcases q with q | q
  · exact h pins s σ H x y v u Q I rx ry q
  · exact h' pins s σ H x y v u Q I rx ry q

theorem nomark (b : Expr) {op : CmpOp} (h : op ≠ .In := by decide) (h2 : op ≠ .NotIn := by decide) : behindInMarks op b = false := by
  have e1 : (op == CmpOp.In) = false := by cases op <;> first | rfl | exact absurd rfl h
  have e2 : (op == CmpOp.NotIn) = false := by cases op <;> first | rfl | exact absurd rfl h2
  cases b <;> simp [behindInMarks, e1, e2]
/-- a comparison as a value; hm: nomark b, or (for in, not in) by with_unfolding_all rfl -/
theorem pe_cmpR {op : CmpOp} {r : R2} (ho : OpR X (compareOp op) r) (ha : PE X a ta) (hb : PE X b tb) (hm : behindInMarks op b = false) : PE X (.Compare a [op] [b] pos) (tOp r ta tb) := by
  intro pins s σ H Q I h
  exact wpAny_Compare1 (binT ha hb I h fun v u s2 x y H2 I2 rx ry q => ho pins s2 σ H2 x y v u Q I2 rx ry q) hm
/-- a reading of a value as a test -/
def tTest (t : TE) : TT := fun σ H Q => t σ H fun x H' => ∃ k, x = .bl k ∧ Q k H'
theorem pt_cmpR {op : CmpOp} {r : R2} (ho : OpR X (compareOp op) r) (ha : PE X a ta) (hb : PE X b tb) (hm : behindInMarks op b = false) : PT X (.Compare a [op] [b] pos) (tTest (tOp r ta tb)) := by
  intro pins s σ H Q I h
  refine wpAny_isTrue_Compare1 (thn (ha pins s σ H _ I h) fun v s1 ⟨x, H1, I1, r1, q1⟩ => thn (hb pins s1 σ H1 _ I1 q1) fun u s2 ⟨y, H2, I2, r2, q2⟩ =>
    thn (ho pins s2 σ H2 x y v u _ I2 r1 r2 q2) fun c s3 ⟨z, H3, I3, r3, k, e, q3⟩ => ?_) hm
  subst e
  cases r3
  exact wpAny_truthy_bool ⟨H3, I3, q3⟩

/-! ### truth -/
/-- a value's truth by the abstract heap -/
def TruV (K : PySem.W.Frag) (x : V) (H : Hp) (k : Bool) : Prop :=
  match x with
  | .non => k = false
  | .bl b => k = b
  | .int i => k = (i != 0)
  | .str y => y.length ≤ sizeLine ∧ k = ((y.length : Int) != 0)
  | .byt y => y.size ≤ sizeLine ∧ k = ((y.size : Int) != 0)
  | .ref p => (∃ xs, SqL K H p xs ∧ k = !xs.isEmpty) ∨ (∃ xs, SqT K H p xs ∧ k = !xs.isEmpty) ∨ ∃ kvs, H p = some (.dK kvs) ∧ k = !kvs.isEmpty
  | _ => False
theorem isEmpty_kv {κ : Type} {kvs : List (κ × V)} {vs : List (κ × Value)} (r : KV kvs vs) : (!vs.isEmpty) = !kvs.isEmpty := by
  cases r <;> rfl
theorem isEmpty_of {xs : List V} {its : List Value} (r : Vals xs its) : (!its.toArray.isEmpty) = !xs.isEmpty := by
  cases r <;> simp
theorem line63 : (sizeLine : Nat) < 2 ^ 63 := by rw [sizeLine_eq]; decide
theorem tru_ok : TruR X (fun x H Q => ∃ k, TruV X.K x H k ∧ Q k H) := by
  intro pins s σ H x v Q I rx h
  obtain ⟨k, e, q⟩ := h
  have hl := line63
  have hs : sizeLine = 16777216 := sizeLine_eq
  cases x with
  | non =>
    cases rx
    have e' : k = false := e
    subst e'
    exact truthy_none ⟨H, I, q⟩
  | bl b =>
    cases rx
    have e' : k = b := e
    subst e'
    exact wpAny_truthy_bool ⟨H, I, q⟩
  | int i =>
    obtain ⟨t, rfl⟩ := rx
    have e' : k = (i != 0) := e
    subst e'
    exact PySem.P.truthy_int ⟨H, I, q⟩
  | str y =>
    obtain ⟨t, rfl⟩ := rx
    obtain ⟨hy, e'⟩ : y.length ≤ sizeLine ∧ k = ((y.length : Int) != 0) := e
    subst e'
    exact PySem.P.truthy_str (by omega) ⟨H, I.tok _, q⟩
  | byt y =>
    obtain ⟨t, rfl⟩ := rx
    obtain ⟨hy, e'⟩ : y.size ≤ sizeLine ∧ k = ((y.size : Int) != 0) := e
    subst e'
    exact PySem.W.truthy_bytes (by omega) ⟨H, I.tok _, q⟩
  | ref p =>
    cases rx
    have e' : (∃ xs, SqL X.K H p xs ∧ k = !xs.isEmpty) ∨ (∃ xs, SqT X.K H p xs ∧ k = !xs.isEmpty) ∨ ∃ kvs, H p = some (.dK kvs) ∧ k = !kvs.isEmpty := e
    rcases e' with ⟨xs, hx, e'⟩ | ⟨xs, hx, e'⟩ | ⟨kvs, hx, e'⟩
    · subst e'
      obtain ⟨its, r, pl, hz⟩ := I.list hx
      have hlen := r.length
      exact wpAny_truthy_list pl.isList (by simp only [List.size_toArray]; omega) ⟨H, I.tok _, by rw [isEmpty_of r]; exact q⟩
    · subst e'
      obtain ⟨its, r, pl, hz⟩ := I.tuple hx
      have hlen := r.length
      exact truthy_tuple pl (by simp only [List.size_toArray]; omega) ⟨H, I.tok _, by rw [isEmpty_of r]; exact q⟩
    · subst e'
      obtain ⟨hz, hS, vs, r, m⟩ : kvs.length ≤ sizeLine ∧ (p == sysModules) = false ∧ ∃ vs, KV kvs vs ∧ s.heap.DictOf (mixKind X.prog X.w) p vs := I.hok p _ hx
      have hlen : kvs.length = vs.length := Paired.length r
      exact wpAny_truthy_dict hS m (by omega) ⟨H, I.tok _, by rw [isEmpty_kv r]; exact q⟩
  | _ => exact (show False from e).elim
/-- any expression whose test is its value's truth (a name, a call, a subscript, a field ..: he by fun _ => rfl) -/
theorem pt_truth (ha : PE X a ta) (he : ∀ whole, isTrue a X.env whole = (do let v ← whole; standAt a.pos; holding [v] (truthy v))) :
    PT X a (fun σ H Q => ta σ H fun x H' => ∃ k, TruV X.K x H' k ∧ Q k H') := by
  intro pins s σ H Q I h
  exact isTrue_plain (thn (ha pins s σ H _ I h) fun v s1 ⟨x, H1, I1, r1, q1⟩ => tru_ok pins s1 σ H1 x v Q I1 r1 q1) (he _)

/-! ### strs and bytes -/
theorem op_add_str : OpR X (binaryOp .Add) (fun x y H Q => ∃ i j, x = .str i ∧ y = .str j ∧ i.length + j.length ≤ sizeLine ∧ Q (.str (i ++ j)) H) := by
  intro pins s σ H x y v u Q I rx ry h
  obtain ⟨i, j, rfl, rfl, hz, q⟩ := h
  obtain ⟨t, rfl⟩ := rx
  obtain ⟨t', rfl⟩ := ry
  exact add_str (fun t' tk => ⟨.str (i ++ j), H, I.tok _, ⟨_, rfl⟩, q⟩) hz


/-! ### scalar builtins, by CallR -/
theorem vals1 {x : V} {us : List Value} (r : Vals [x] us) : ∃ u, us = [u] ∧ RelV x u := by
  cases r with
  | cons r1 r2 => cases r2; exact ⟨_, rfl, r1⟩
theorem vals2 {x y : V} {us : List Value} (r : Vals [x, y] us) : ∃ u w', us = [u, w'] ∧ RelV x u ∧ RelV y w' := by
  cases r with
  | cons r1 r2 =>
    cases r2 with
    | cons r3 r4 => cases r4; exact ⟨_, _, rfl, r1, r3⟩
theorem call_int1 : CallR X (.type "int") (fun xs H Q => (∃ i, xs = [.int i] ∧ Q (.int i) H) ∨ ∃ k, xs = [.bl k] ∧ Q (.int (if k then 1 else 0)) H) := by
  intro pins s σ H xs us Q I r h
  rcases h with ⟨i, rfl, q⟩ | ⟨k, rfl, q⟩
  · obtain ⟨u, rfl, t, rfl⟩ := vals1 r
    exact call_int_int ⟨.int i, H, I, ⟨_, rfl⟩, q⟩
  · obtain ⟨u, rfl, r1⟩ := vals1 r
    cases r1
    exact call_int_bool ⟨.int (if k then 1 else 0), H, I.tok _, ⟨_, rfl⟩, q⟩
/-- len of a str, a bytes, a list, a tuple -/
def LenV (K : PySem.W.Frag) (x : V) (H : Hp) (n : Nat) : Prop :=
  match x with
  | .str y => y.length ≤ sizeLine ∧ n = y.length
  | .byt y => y.size ≤ sizeLine ∧ n = y.size
  | .ref p => (∃ xs, SqL K H p xs ∧ n = xs.length) ∨ ∃ xs, SqT K H p xs ∧ n = xs.length
  | _ => False
theorem call_len : CallR X (.builtin "len") (fun xs H Q => ∃ x n, xs = [x] ∧ LenV X.K x H n ∧ Q (.int n) H) := by
  intro pins s σ H xs us Q I r h
  obtain ⟨x, n, rfl, e, q⟩ := h
  obtain ⟨u, rfl, rx⟩ := vals1 r
  have hl := line63
  have hs : sizeLine = 16777216 := sizeLine_eq
  cases x with
  | str y =>
    obtain ⟨t, rfl⟩ := rx
    obtain ⟨hy, e'⟩ : y.length ≤ sizeLine ∧ n = y.length := e
    subst e'
    exact len_str (by omega) ⟨.int _, H, I.tok _, ⟨_, rfl⟩, q⟩
  | byt y =>
    obtain ⟨t, rfl⟩ := rx
    obtain ⟨hy, e'⟩ : y.size ≤ sizeLine ∧ n = y.size := e
    subst e'
    exact PySem.W.len_bytes (by omega) ⟨.int _, H, I.tok _, ⟨_, rfl⟩, q⟩
  | ref p =>
    cases rx
    have e' : (∃ xs, SqL X.K H p xs ∧ n = xs.length) ∨ ∃ xs, SqT X.K H p xs ∧ n = xs.length := e
    rcases e' with ⟨xs, hx, e'⟩ | ⟨xs, hx, e'⟩
    · subst e'
      obtain ⟨its, r', pl, hz⟩ := I.list hx
      have hlen := r'.length
      exact Calls.call_len_list pl.isList (by simp only [List.size_toArray]; omega) ⟨.int xs.length, H, I.tok _, ⟨_, by simp only [List.size_toArray]; rw [hlen]⟩, q⟩
    · subst e'
      obtain ⟨its, r', pl, hz⟩ := I.tuple hx
      have hlen := r'.length
      exact len_tuple pl (by simp only [List.size_toArray]; omega) ⟨.int xs.length, H, I.tok _, ⟨_, by simp only [List.size_toArray]; rw [hlen]⟩, q⟩
  | _ => exact (show False from e).elim
end
end L2

namespace L2
open PySem PySem.Spec PyProof.Rows

/-! ### an instance, its attributes a map -/
structure ObjM (h : Heap) (x dx C : Addr) (mA : Str → Option Value) : Prop where
  obj : h.get? x = some (PySem.W.instObj C dx)
  ns : h.Ns1 dx mA
  ne : dx ≠ x

theorem lookIn_ns {h : Heap} {dx : Addr} {mA : Str → Option Value} (n : h.Ns1 dx mA) : ∃ od, h.get? dx = some od ∧ ∀ name, PySem.W.lookIn name od = some (mA name) := by
  obtain ⟨o, es, ep, ho, hd, hk, _, hm⟩ := n
  refine ⟨o, ho, fun name => ?_⟩
  have e := hm name
  unfold nsFind findBy at e
  rw [← Array.find?_toList] at e
  unfold PySem.W.lookIn
  rw [hd]
  dsimp only
  split
  · rename_i y q
    rw [q] at e
    exact congrArg some e
  · rename_i q
    rw [q] at e
    have a : es.toList.any (·.refKey) = false := by
      rw [List.any_eq_false]
      intro y hy
      obtain ⟨z, t, hkey⟩ := hk y (Array.mem_toList_iff.mp hy)
      simp [DictEntry.refKey, hkey]
    have a' : ¬ es.toList.any (·.refKey) = true := by rw [a]; exact Bool.false_ne_true
    rw [if_neg a']
    exact congrArg some e

theorem ObjM.look {h : Heap} {x dx C : Addr} {mA : Str → Option Value} (I : ObjM h x dx C mA) : ∃ od, PySem.W.InstAt h x (PySem.W.instObj C dx) C (some od) ∧ ∀ name, PySem.W.lookIn name od = some (mA name) :=
  let ⟨od, ho, hl⟩ := lookIn_ns I.ns
  ⟨od, ⟨I.obj, rfl, rfl, ho⟩, hl⟩

section
variable {prog : Program} {w : World} {A : Around} {E : Value → Shared → Prop} {s : Shared} {K : PySem.W.Frag} {x dx C f : Addr} {mA : Str → Option Value} {name : Str} {v : Value}

theorem get_map {expr : Bool} {Q : Value → Shared → Prop} (X : K.In s.heap) (I : ObjM s.heap x dx C mA) (hg : PySem.W.plainGet K C name = true) (hh : PySem.W.hasDictIn K C = true)
    (ha : PySem.W.findIn K (.ref C) name = some none) (hv : mA name = some v) (hv' : PySem.W.handedIn v = true) (h : Q v { s with toks := s.toks + 1 }) :
    wpAny (model prog w) A (getAttr (.ref x) name expr) Q E s := by
  obtain ⟨od, J, hl⟩ := I.look
  exact PySem.W.get_value X J (PySem.W.plainGet_of hg).1 (PySem.W.findObj_own hh ha rfl (by rw [hl, hv])) hv' h


theorem get_meth {pl : Sem Bool} {Q : Value × List Value → Shared → Prop} (X : K.In s.heap) (I : ObjM s.heap x dx C mA) (hg : PySem.W.plainGet K C name = true)
    (hf : PySem.W.findIn K (.ref C) name = some (some (.ref f))) (ht : PySem.W.isFn K (.ref f) = true) (hv : mA name = none) (h : Q (.ref f, [.ref x]) s) :
    wpAny (model prog w) A (getMethod (.ref x) name pl) Q E s := by
  obtain ⟨od, J, hl⟩ := I.look
  exact PySem.W.method_fn X J (PySem.W.plainGet_of hg).1 (PySem.W.plainGet_of hg).2 hf (beq_iff_eq.mp ht) (by show (PySem.W.lookIn name od).map (·.isSome) = some false; rw [hl, hv]; rfl) h

theorem set_map {ns : List Str} {Q : Unit → Shared → Prop} (X : K.In s.heap) (I : ObjM s.heap x dx C mA)
    (hs : PySem.W.findIn K (.ref C) "__setattr__" = some (some (.builtin "object.__setattr__"))) (hp : PySem.W.plainOver K C = true) (ht : PySem.W.takerIn K C name = some none) (hh : PySem.W.hasDictIn K C = true)
    (hw : PySem.Within mA ns) (hsz : ns.length ≤ sizeLine)
    (h : ∀ h', ObjM h' x dx C (fun y => if y = name then some v else mA y) → Heap.SameBut dx s.heap h' → Q () { s with heap := h', toks := s.toks + 2 }) :
    wpAny (model prog w) A (setAttr (.ref x) name v) Q E s := by
  obtain ⟨od, J, hl⟩ := I.look
  refine PySem.W.set_plain X J hs (PySem.W.osa_open (s := { s with toks := s.toks + 1 }) (r := none) X J hp ht fun b => ?_)
  obtain ⟨cd, hc, hd'⟩ := PySem.W.any_some hh
  have hx : s.heap.get? x = some ⟨.ref C, some dx, .plain, #[]⟩ := I.obj
  refine wpAny_bind (wpAny_pure (wpAny_bind (wpAny_bind (wpAny_loadPart hx (wpAny_bind (PySem.W.Looks.here (s := { s with toks := s.toks + 1 }) (PySem.W.looks_clsIn X hc) ?_))))))
  rw [hd']
  refine wpAny_pure (a := some dx) (wpAny_bind (wpAny_pure (wpAny_bind ?_)))
  refine wpAny_nsSet1 (s := { s with toks := s.toks + 1 }) I.ns fun h' hn2 hs2 => ?_
  obtain ⟨oD, esD, epD, hoD, hdD, hcD⟩ := hn2.count (PySem.Within.cons name v hw)
  refine wpAny_bind (wpAny_lookBehind hoD (by rw [hdD]; exact pastItsLine_dict (Nat.le_trans hcD (by rw [List.length_cons]; omega))) ?_)
  exact wpAny_pure (h _ ⟨(hs2.2 _ (Ne.symm I.ne)).trans I.obj, hn2, I.ne⟩ hs2)

/-- C(..): the dict at the heap's end, the instance behind it; then its __init__ -/
theorem make_map {R : Result → Shared → Prop} {vs : List Value} {kw : List (Str × Value)} (X : K.In s.heap) (hm : PySem.W.makesIn K C = true)
    (hi : PySem.W.findIn K (.ref C) "__init__" = some (some (.ref f))) (hf : PySem.W.typeIn K (.ref f) = some (.type "function"))
    (h : codeAny (model prog w) (A.under (.builtin "type.__call__" ⟨.ref C :: vs, kw⟩)) (.call (.ref f) ⟨.ref (s.heap.objs.size + 1) :: vs, kw⟩) (PySem.W.InitBack (s.heap.objs.size + 1) R)
      { s with heap := (s.heap.push PySem.W.emptyDict).push (PySem.W.instObj C s.heap.objs.size) }) :
    codeAny (model prog w) A (.call (.ref C) ⟨vs, kw⟩) R s := by
  obtain ⟨hh, g, d, t, os⟩ := s
  exact PySem.W.make_core (PySem.W.makes_of X hm) (PySem.W.looks_findIn X hi) (fun self => PySem.W.bind_fn X self hf) (.inl rfl) h
end

/-! ### the attributes as a list of pairs -/
def putF (f : Str) (v : V) : List (Str × V) → List (Str × V)
  | [] => [(f, v)]
  | (g, x) :: r => if g = f then (g, v) :: r else (g, x) :: putF f v r
theorem lookup_putF (f g : Str) (v : V) : ∀ fs : List (Str × V), (putF f v fs).lookup g = if g = f then some v else fs.lookup g
  | [] => by
    show List.lookup g [(f, v)] = _
    by_cases h : g = f
    · have hb : (g == f) = true := beq_iff_eq.mpr h
      simp only [List.lookup, hb, if_pos h]
    · have hb : (g == f) = false := beq_eq_false_iff_ne.mpr h
      simp only [List.lookup, hb, if_neg h]
  | (k, x) :: r => by
    have ih := lookup_putF f g v r
    rw [show putF f v ((k, x) :: r) = (if k = f then (k, v) :: r else (k, x) :: putF f v r) from rfl]
    by_cases hk : k = f
    · rw [if_pos hk]
      by_cases h : g = k
      · have hb : (g == k) = true := beq_iff_eq.mpr h
        simp only [List.lookup, hb, if_pos (h.trans hk)]
      · have hb : (g == k) = false := beq_eq_false_iff_ne.mpr h
        simp only [List.lookup, hb, if_neg (fun e : g = f => h (e.trans hk.symm))]
    · rw [if_neg hk]
      by_cases h : g = k
      · have hb : (g == k) = true := beq_iff_eq.mpr h
        simp only [List.lookup, hb, if_neg (fun e : g = f => hk (h.symm.trans e))]
      · have hb : (g == k) = false := beq_eq_false_iff_ne.mpr h
        simp only [List.lookup, hb]
        exact ih
theorem keys_putF (f : Str) (v : V) : ∀ fs : List (Str × V), f ∈ (putF f v fs).map (·.1) ∧ ∀ g, g ∈ fs.map (·.1) → g ∈ (putF f v fs).map (·.1)
  | [] => ⟨by simp [putF], fun g h => by simp at h⟩
  | (k, x) :: r => by
    obtain ⟨i1, i2⟩ := keys_putF f v r
    rw [show putF f v ((k, x) :: r) = (if k = f then (k, v) :: r else (k, x) :: putF f v r) from rfl]
    by_cases hk : k = f
    · rw [if_pos hk]
      subst hk
      exact ⟨by simp, fun g h => by simpa using h⟩
    · rw [if_neg hk]
      refine ⟨?_, fun g h => ?_⟩
      · rw [List.map_cons]
        exact List.mem_cons_of_mem _ i1
      · rw [List.map_cons] at h ⊢
        rcases List.mem_cons.mp h with e | e
        · exact List.mem_cons.mpr (.inl e)
        · exact List.mem_cons_of_mem _ (i2 g e)
theorem length_putF (f : Str) (v : V) : ∀ fs : List (Str × V), (putF f v fs).length ≤ fs.length + 1
  | [] => by simp [putF]
  | (k, x) :: r => by
    have ih := length_putF f v r
    rw [show putF f v ((k, x) :: r) = (if k = f then (k, v) :: r else (k, x) :: putF f v r) from rfl]
    by_cases hk : k = f
    · rw [if_pos hk, List.length_cons, List.length_cons]; omega
    · rw [if_neg hk, List.length_cons, List.length_cons]; omega

theorem RelO.some_of {v : V} {o : Option Value} (r : RelO (some v) o) : ∃ u, o = some u ∧ RelV v u := by
  cases o with
  | none => exact (show False from r).elim
  | some u => exact ⟨u, rfl, r⟩
theorem RelO.none_of {o : Option Value} (r : RelO none o) : o = none := by
  cases o with
  | none => rfl
  | some u => exact (show False from r).elim
theorem handed_of {v : V} {u : Value} (r : RelV v u) : PySem.W.handedIn u = true := by
  cases v with
  | non => cases (show u = Value.none from r); rfl
  | bl b => cases (show u = Value.bool b from r); rfl
  | int i => obtain ⟨t, e⟩ := (show ∃ t, u = Value.int i t from r); cases e; rfl
  | str x => obtain ⟨t, e⟩ := (show ∃ t, u = Value.str x t from r); cases e; rfl
  | byt b => obtain ⟨t, e⟩ := (show ∃ t, u = Value.bytes b t from r); cases e; rfl
  | flt b => obtain ⟨t, e⟩ := (show ∃ t, u = Value.float b t from r); cases e; rfl
  | ref a => cases (show u = Value.ref a from r); rfl
  | ty n => cases (show u = Value.type n from r); rfl

section
variable {P : Program} {w : World} {H H' : Hp} {h h' : Heap} {a C dx : Addr} {fs fs' : List (Str × V)}
theorem ins_get (hok : HOk P w H h) (e : H a = some (.ins C dx fs)) : ∃ mA, ObjM h a dx C mA ∧ (∀ f, RelO (fs.lookup f) (mA f)) ∧ PySem.Within mA (fs.map (·.1)) ∧ fs.length ≤ 1000 ∧ H dx = some (.own a) := by
  obtain ⟨d, z, ne, ob, mA, n, r, q⟩ := (show ObjOk P w H h a (.ins C dx fs) from hok a _ e)
  exact ⟨mA, ⟨ob, n, ne⟩, r, q, z, d⟩
end

/-! ### what of the text a class must have -/
structure Cls (K : PySem.W.Frag) (C : Addr) : Prop where
  pg : PySem.W.plainGet K C Str.empty = true
  hd : PySem.W.hasDictIn K C = true
  po : PySem.W.plainOver K C = true
  sa : PySem.W.findIn K (.ref C) "__setattr__" = some (some (.builtin "object.__setattr__"))
theorem Cls.get {K : PySem.W.Frag} {C : Addr} (c : Cls K C) (f : Str) : PySem.W.plainGet K C f = true := c.pg
/-- no class of it has the name -/
def NoAttr (K : PySem.W.Frag) (C : Addr) (f : Str) : Prop := PySem.W.findIn K (.ref C) f = some none
theorem NoAttr.taker {K : PySem.W.Frag} {C : Addr} {f : Str} (n : NoAttr K C f) : PySem.W.takerIn K C f = some none := by
  unfold PySem.W.takerIn
  rw [show PySem.W.findIn K (.ref C) f = some none from n]
  rfl
/-- a method: a plain def of the class or of one above it -/
structure Meth (K : PySem.W.Frag) (C : Addr) (m : Str) (f : Addr) : Prop where
  at_ : PySem.W.findIn K (.ref C) m = some (some (.ref f))
  fn : PySem.W.isFn K (.ref f) = true
  kp : PySem.W.keepIn K (.ref f) = true

section
variable {X : Cx} {pins : List (Addr × Obj)} {σ : St} {H : Hp} {s : Shared} {a C dx : Addr} {fs : List (Str × V)} {f : Str} {v : V} {A : Around} {E : Value → Shared → Prop}

theorem getattr_ok {b : Bool} {Q : Value → Shared → Prop} (I : Inv X pins σ H s) (e : H a = some (.ins C dx fs)) (c : Cls X.K C) (n : NoAttr X.K C f) (l : fs.lookup f = some v)
    (h : ∀ u s', Inv X pins σ H s' → RelV v u → Q u s') : wpAny (model X.prog X.w) A (getAttr (.ref a) f b) Q E s := by
  obtain ⟨mA, O, r, _, _, _⟩ := ins_get I.hok e
  obtain ⟨u, hu, ru⟩ := RelO.some_of (v := v) (o := mA f) (by rw [← l]; exact r f)
  exact get_map I.kIn O (c.get f) c.hd n hu (handed_of ru) (h u _ (I.tok _) ru)


theorem getmeth_ok {m : Str} {g : Addr} {pl : Sem Bool} {Q : Value × List Value → Shared → Prop} (I : Inv X pins σ H s) (e : H a = some (.ins C dx fs)) (c : Cls X.K C) (k : Meth X.K C m g) (l : fs.lookup m = none)
    (h : Q (.ref g, [.ref a]) s) : wpAny (model X.prog X.w) A (getMethod (.ref a) m pl) Q E s := by
  obtain ⟨mA, O, r, _, _, _⟩ := ins_get I.hok e
  have hn : mA m = none := RelO.none_of (by rw [← l]; exact r m)
  exact get_meth I.kIn O (c.get m) k.at_ k.fn hn h

theorem setattr_ok {y : V} {u : Value} {Q : Unit → Shared → Prop} (I : Inv X pins σ H s) (e : H a = some (.ins C dx fs)) (c : Cls X.K C) (n : NoAttr X.K C f) (hl : fs.length < 1000) (ry : RelV y u)
    (h : ∀ s', Inv X pins σ (upd H a (.ins C dx (putF f y fs))) s' → Q () s') : wpAny (model X.prog X.w) A (setAttr (.ref a) f u) Q E s := by
  obtain ⟨mA, O, r, wi, _, ho⟩ := ins_get I.hok e
  have hz : (fs.map (·.1)).length ≤ sizeLine := by rw [List.length_map, sizeLine_eq]; omega
  refine set_map I.kIn O c.sa c.po n.taker c.hd wi hz fun h' O' sb => h _ ?_
  have hd : ∃ o, h'.get? dx = some o := let ⟨o, _, _, e', _⟩ := O'.ns; ⟨o, e'⟩
  refine I.write (x := a) (e := dx) (by rw [e]; exact True.intro) (.inr ho) (fun b q hb z => (sb.2 b hb).trans z) hd ?_
  refine ⟨by rw [upd_ne O.ne]; exact ho, ?_, O.ne, O'.obj, _, O'.ns, fun g => ?_, fun g hg => ?_⟩
  · have := length_putF f y fs; omega
  · show RelO ((putF f y fs).lookup g) (if g = f then some u else mA g)
    rw [lookup_putF]
    by_cases q : g = f
    · rw [if_pos q, if_pos q]; exact ry
    · rw [if_neg q, if_neg q]; exact r g
  · by_cases q : g = f
    · rw [q]; exact (keys_putF f y fs).1
    · refine (keys_putF f y fs).2 g (wi g fun z => hg ?_)
      show (if g = f then some u else mA g) = none
      rw [if_neg q]; exact z

/-- a new instance, tracked, without attributes -/
theorem Inv.made (I : Inv X pins σ H s) : Inv X pins σ (upd (upd H s.heap.objs.size (.own (s.heap.objs.size + 1))) (s.heap.objs.size + 1) (.ins C s.heap.objs.size []))
    { s with heap := (s.heap.push PySem.W.emptyDict).push (PySem.W.instObj C s.heap.objs.size) } := by
  have e1 : (s.heap.push PySem.W.emptyDict).get? s.heap.objs.size = some PySem.W.emptyDict := Heap.get?_push_size s.heap rfl
  have e2 : ((s.heap.push PySem.W.emptyDict).push (PySem.W.instObj C s.heap.objs.size)).get? (s.heap.objs.size + 1) = some (PySem.W.instObj C s.heap.objs.size) := by
    have := Heap.get?_push_size (s.heap.push PySem.W.emptyDict) (o := PySem.W.instObj C s.heap.objs.size) rfl
    rwa [Heap.size_push] at this
  have e3 : (s.heap.push PySem.W.emptyDict).Ns s.heap.objs.size (fun _ => none) := ⟨PySem.W.emptyDict, #[], _, e1, rfl, (fun e he => absurd he (by simp)), fun _ => rfl⟩
  have I1 := I.laid (a := s.heap.objs.size) (o := .own (s.heap.objs.size + 1)) (h' := s.heap.push PySem.W.emptyDict) (t' := s.toks) (fun b u q => Heap.get?_push_of_some _ q) (Nat.le_refl _) ⟨_, e1⟩
  refine I1.laid (a := s.heap.objs.size + 1) (o := .ins C s.heap.objs.size []) (t' := s.toks) (fun b u q => Heap.get?_push_of_some _ q) (Nat.le_of_eq (Heap.size_push _ _)) ?_
  have ne : s.heap.objs.size ≠ s.heap.objs.size + 1 := Nat.ne_of_lt (Nat.lt_succ_self _)
  refine ⟨by rw [upd_ne ne, upd_same], Nat.zero_le _, ne, e2, fun _ => none, (Heap.Ns1.of_empty e3).at fun o q => Heap.get?_push_of_some _ q, fun _ => True.intro, fun y hy => absurd rfl hy⟩

/-- e.f where nothing but the object is asked: through attributeBase (super) and the last hold -/
theorem attr_of {prog : Program} {w : World} {env : Env} {e : Expr} {f : Str} {pos : Pos} {s : Shared} {Q : Value → Shared → Prop} (hb : attributeBase e f env (eval e env) = eval e env)
    (h : wpAny (model prog w) A (eval e env) (fun o s₁ => wpAny (model prog w) A (getAttr o f true) Q E s₁) E s) : wpAny (model prog w) A (eval (.Attribute e f pos) env) Q E s :=
  Attribute_any_ h (by rw [arm_eval_Attribute, hb])
end

/-! ### readings and rules -/
/-- e.f, an attribute of the instance -/
def tFld (K : PySem.W.Frag) (ta : TE) (f : Str) : TE := fun σ H Q => ta σ H fun x H1 => ∃ a C dx fs v, x = .ref a ∧ H1 a = some (.ins C dx fs) ∧ Cls K C ∧ NoAttr K C f ∧ fs.lookup f = some v ∧ Q v H1
/-- e.f = value -/
def sFld (K : PySem.W.Frag) (ta tv : TE) (f : Str) : TS := fun D σ H => tv σ H fun y H1 => ta σ H1 fun x H2 => ∃ a C dx fs, x = .ref a ∧ H2 a = some (.ins C dx fs) ∧ Cls K C ∧ NoAttr K C f ∧ fs.length < 1000 ∧
  D.nx σ (upd H2 a (.ins C dx (putF f y fs)))
/-- an augmented operator on two values -/
def InOp (X : Cx) (op : Operator) (rd : V → V → Hp → VK → Prop) : Prop :=
  ∀ (pins : List (Addr × Obj)) (s : Shared) (σ : St) (H : Hp) (x y : V) (u v : Value) (Q : VK), Inv X pins σ H s → RelV x u → RelV y v → rd x y H Q → wpAny (model X.prog X.w) X.A (inplaceOp op u v) (EP X pins σ Q) X.xe s
/-- e.f op= value -/
def sFldAug (K : PySem.W.Frag) (ta tv : TE) (rd : V → V → Hp → VK → Prop) (f : Str) : TS := fun D σ H => ta σ H fun x H1 => ∃ a C dx fs v, x = .ref a ∧ H1 a = some (.ins C dx fs) ∧ Cls K C ∧ NoAttr K C f ∧ fs.lookup f = some v ∧
  tv σ H1 fun y H2 => rd v y H2 fun z H3 => ∃ dx' fs', H3 a = some (.ins C dx' fs') ∧ fs'.length < 1000 ∧ D.nx σ (upd H3 a (.ins C dx' (putF f z fs')))

section
variable {X : Cx} {o e value : Expr} {f : Str} {pos pos' tpos : Pos} {ta tv : TE}
theorem pe_fld (he : PE X e ta) (hb : attributeBase e f X.env (eval e X.env) = eval e X.env) : PE X (.Attribute e f pos) (tFld X.K ta f) := by
  intro pins s σ H Q I h
  refine attr_of hb (thn (he pins s σ H _ I h) fun u s1 ⟨x, H1, I1, rx, a, C, dx, fs, v, ex, ea, c, n, l, q⟩ => ?_)
  subst ex
  obtain rfl : u = Value.ref a := rx
  exact getattr_ok I1 ea c n l fun u' s2 I2 ru => ⟨v, H1, I2, ru, q⟩
theorem ps_fld (ha : PE X o ta) (hv : PE X value tv) (hs : swapsWith value (some (.Attribute o f pos')) pos.line X.env = pure false) : PS X (.Assign [.Attribute o f pos'] value pos) (sFld X.K ta tv f) := by
  intro pins s σ H D I h
  refine plainObj_wpAny_Assign_Attribute (thn (hv pins s σ H _ I h) fun u s1 ⟨y, H1, I1, ry, q⟩ => thn (ha pins s1 σ H1 _ I1 q) fun ov s2 ⟨x, H2, I2, rx, a, C, dx, fs, ex, ea, c, n, l, q2⟩ => ?_) hs
  subst ex
  obtain rfl : ov = Value.ref a := rx
  exact setattr_ok I2 ea c n l ry fun s3 I3 => ⟨σ, _, I3, q2⟩
theorem ps_fldaug {op : Operator} {rd : V → V → Hp → VK → Prop} (ha : PE X o ta) (hv : PE X value tv) (hop : InOp X op rd) : PS X (.AugAssign (.Attribute o f tpos) op value pos) (sFldAug X.K ta tv rd f) := by
  intro pins s σ H D I h
  refine wpAny_AugAssign_AttributeAny (thn (ha pins s σ H _ I h) fun ov s1 ⟨x, H1, I1, rx, a, C, dx, fs, v, ex, ea, c, n, l, q⟩ => ?_)
  subst ex
  obtain rfl : ov = Value.ref a := rx
  refine getattr_ok I1 ea c n l fun u s2 I2 ru => thn (hv pins s2 σ H1 _ I2 q) fun w3 s3 ⟨y, H2, I3, ry, q3⟩ => thn (hop pins s3 σ H2 v y u w3 _ I3 ru ry q3) fun w4 s4 ⟨z, H3, I4, rz, dx', fs', ea', l', q4⟩ => ?_
  exact setattr_ok I4 ea' c n l' rz fun s5 I5 => ⟨σ, _, I5, q4⟩
def rAdd : V → V → Hp → VK → Prop := fun x y H Q => ∃ i j, x = .int i ∧ y = .int j ∧ Q (.int (i + j)) H
theorem in_add : InOp X .Add rAdd := by
  rintro pins s σ H x y u v Q I rx ry ⟨i, j, rfl, rfl, q⟩
  obtain ⟨t, rfl⟩ := (show ∃ t, u = Value.int i t from rx)
  obtain ⟨t', rfl⟩ := (show ∃ t', v = Value.int j t' from ry)
  exact PyProof.Rows.iadd_int ⟨.int (i + j), H, I.tok _, ⟨_, rfl⟩, q⟩

end

/-! ### isinstance -/
section
variable {X : Cx} {pins : List (Addr × Obj)} {σ : St} {H : Hp} {s : Shared} {A : Around} {E : Value → Shared → Prop} {Q : Value → Shared → Prop} {c : Value} {b : Bool}
/-- the type of a value, as the fragment's deciders take it; for an instance its class -/
inductive TyOf (K : PySem.W.Frag) (H : Hp) : V → Value → Prop where
  | non : TyOf K H .non (.type "NoneType")
  | bl (x : Bool) : TyOf K H (.bl x) (.type "bool")
  | int (i : Int) : TyOf K H (.int i) (.type "int")
  | str (x : Str) : TyOf K H (.str x) (.type "str")
  | flt (x : UInt64) : TyOf K H (.flt x) (.type "float")
  | lst {a : Addr} {xs : List V} (e : H a = some (.lst xs)) : TyOf K H (.ref a) (.type "list")
  | frz {a : Addr} {o : Obj} {xs : List V} (e : H a = some (.frz o (.lst xs))) : TyOf K H (.ref a) (.type "list")
  | tup {a : Addr} {xs : List V} (e : H a = some (.tup xs)) : TyOf K H (.ref a) (.type "tuple")
  | dK {a : Addr} {kvs : List (Key × V)} (e : H a = some (.dK kvs)) : TyOf K H (.ref a) (.type "dict")
  | dT {a : Addr} {kvs : List (List Key × V)} (e : H a = some (.dT kvs)) : TyOf K H (.ref a) (.type "dict")
  | ins {a C dx : Addr} {fs : List (Str × V)} (e : H a = some (.ins C dx fs)) (cl : Cls K C) (ha : PySem.W.findIn K (.ref C) "__class__" = some (some (.builtin "object.__class__")))
      (hn : PySem.W.specialIn K (.builtin "object.__class__") "__get__" = some (some (.builtin "getset_descriptor.__get__"))) (htk : PySem.W.takesIn K (.builtin "object.__class__") = some true)
      (hm : PySem.W.mroIn K C (.type "object") = some true) : TyOf K H (.ref a) (.ref C)
/-- isinstance(x, c) for one class c, a built-in or an own one: kitOne's answer -/
theorem isinst_ok {x : V} {u t : Value} (I : Inv X pins σ H s) (rx : RelV x u) (ty : TyOf X.K H x t) (e : PySem.W.kitOne X.K t c = some b) (h : ∀ tk, Q (.bool b) { s with toks := tk }) :
    wpAny (model X.prog X.w) A (call (.builtin "isinstance") [u, c]) Q E s := by
  cases ty with
  | non => cases (show u = Value.none from rx); exact PySem.W.kia_one PySem.W.kitx_none I.kIn True.intro e (fun z => nomatch z) h
  | bl y => cases (show u = Value.bool y from rx); exact PySem.W.kia_one PySem.W.kitx_bool I.kIn True.intro e (fun z => nomatch z) h
  | int i => obtain ⟨t, q⟩ := (show ∃ t, u = Value.int i t from rx); cases q; exact PySem.W.kia_one PySem.W.kitx_int I.kIn True.intro e (fun z => nomatch z) h
  | str y => obtain ⟨t, q⟩ := (show ∃ t, u = Value.str y t from rx); cases q; exact PySem.W.kia_one PySem.W.kitx_str I.kIn True.intro e (fun z => nomatch z) h
  | flt y => obtain ⟨t, q⟩ := (show ∃ t, u = Value.float y t from rx); cases q; exact PySem.W.kia_one PySem.W.kitx_float I.kIn True.intro e (fun z => nomatch z) h
  | @lst a xs ea =>
    cases (show u = Value.ref a from rx)
    obtain ⟨_, _, n, _, h1⟩ := (show ObjOk X.prog X.w H s.heap a (.lst xs) from I.hok a _ ea)
    exact PySem.W.kia_one PySem.W.kitx_list I.kIn ⟨_, h1, rfl⟩ e (fun z => nomatch z) h
  | @frz a ob xs ea =>
    cases (show u = Value.ref a from rx)
    obtain ⟨_, _, _, n, _, h1⟩ := (show ObjOk X.prog X.w H s.heap a (.frz ob (.lst xs)) from I.hok a _ ea)
    exact PySem.W.kia_one PySem.W.kitx_list I.kIn ⟨_, h1, rfl⟩ e (fun z => nomatch z) h
  | @tup a xs ea =>
    cases (show u = Value.ref a from rx)
    obtain ⟨_, _, _, p⟩ := (show ObjOk X.prog X.w H s.heap a (.tup xs) from I.hok a _ ea)
    obtain ⟨o, h1, h2, _⟩ := p
    exact PySem.W.kia_one PySem.W.kitx_tuple I.kIn ⟨o, h1, h2⟩ e (fun z => nomatch z) h
  | @dK a kvs ea =>
    cases (show u = Value.ref a from rx)
    obtain ⟨_, _, vs, _, p⟩ := (show ObjOk X.prog X.w H s.heap a (.dK kvs) from I.hok a _ ea)
    obtain ⟨o, es, ep, h1, h2, _⟩ := p
    exact PySem.W.kia_one PySem.W.kitx_dict I.kIn ⟨o, h1, h2.1⟩ e (fun z => nomatch z) h
  | @dT a kvs ea =>
    cases (show u = Value.ref a from rx)
    obtain ⟨_, _, xs, _, o, es, ep, h1, h2, _⟩ := (show ObjOk X.prog X.w H s.heap a (.dT kvs) from I.hok a _ ea)
    exact PySem.W.kia_one PySem.W.kitx_dict I.kIn ⟨o, h1, h2.1⟩ e (fun z => nomatch z) h
  | @ins a C dx fs ea cl ha hn htk hm =>
    cases (show u = Value.ref a from rx)
    obtain ⟨mA, O, _⟩ := ins_get I.hok ea
    obtain ⟨od, J, _⟩ := O.look
    exact PySem.W.kia_one (PySem.W.kitx_own (cl.get _) cl.hd ha hn htk hm) I.kIn J e (fun z => nomatch z) h
end
end L2

namespace L2
open PySem PySem.Spec PyProof.Rows

/-! ### room -/
structure Room (k : Nat) (A : Around) : Prop where
  hd : A.handled = none
  dp : A.depth + 3 * k + 5 < recursionLimit
  un : A.units + 16 * k + 200 < cLine
theorem Room.mono {j k : Nat} {A : Around} (r : Room k A) (h : j ≤ k) : Room j A := ⟨r.hd, by have := r.dp; omega, by have := r.un; omega⟩
theorem Room.deeper {k : Nat} {A : Around} (r : Room (k + 1) A) (env : Env) : Room k (A.deeper env) :=
  ⟨r.hd, by have := r.dp; show A.depth + 1 + 3 * k + 5 < _; omega, by have := r.un; show A.units + 3 + 16 * k + 200 < _; omega⟩
theorem make_depth {A : Around} {C : Addr} {us : List Value} {kw : List (Str × Value)} : (A.under (.builtin "type.__call__" ⟨.ref C :: us, kw⟩)).depth = A.depth + 1 := by
  first | rfl | simp [Around.under, Code.weight, Code.isCreation, Code.isGuard, Code.isCaller, Code.frames, Code.isFrame, guardIds]
theorem make_units {A : Around} {C : Addr} {us : List Value} {kw : List (Str × Value)} : (A.under (.builtin "type.__call__" ⟨.ref C :: us, kw⟩)).units = A.units + 1 := by
  first | rfl | simp [Around.under, Code.cUnits, Code.frames, Code.isFrame]
theorem Room.make {k : Nat} {A : Around} (r : Room (k + 1) A) (C : Addr) (us : List Value) (kw : List (Str × Value)) : Room k (A.under (.builtin "type.__call__" ⟨.ref C :: us, kw⟩)) :=
  ⟨r.hd, by have := r.dp; rw [make_depth]; omega, by have := r.un; rw [make_units]; omega⟩
theorem Room.depth {k : Nat} {A : Around} (r : Room k A) : A.depth < recursionLimit := by have := r.dp; omega
theorem Room.units {k : Nat} {A : Around} (r : Room k A) : A.units + 64 < cLine := by have := r.un; omega

/-! ### argument lists and displays -/
def tNil : TA := fun _ H Q => Q [] H
def tCons (ta : TE) (tr : TA) : TA := fun σ H Q => ta σ H fun x H1 => tr σ H1 fun xs H2 => Q (x :: xs) H2
section
variable {X : Cx} {e : Expr} {es : List Expr} {te : TE} {t : TA} {pos : Pos}
theorem pa_nil : PA X [] tNil := fun _ _ _ _ H Q I h => Calls.spliced_nil ⟨[], H, I, .nil, h⟩
theorem pa_cons (ha : PE X e te) (hr : PA X es t) (hs : starEach (e :: es) X.env = (false, eval e X.env) :: starEach es X.env := by rfl) : PA X (e :: es) (tCons te t) := by
  intro pos pins s σ H Q I h
  rw [hs]
  show wpAny _ _ (spliced ((false, eval e X.env) :: backTo pos (starEach es X.env))) _ _ s
  refine Calls.spliced_cons (thn (ha pins s σ H _ I h) fun u s1 ⟨x, H1, I1, r1, q1⟩ => ?_)
  exact thn (hr pos pins s1 σ H1 _ I1 q1) fun us s2 ⟨xs, H2, I2, r2, q2⟩ => ⟨x :: xs, H2, I2, .cons r1 r2, q2⟩

/-- a tuple, a list of written items -/
def tTup (t : TA) : TE := fun σ H Q => t σ H fun xs H1 => xs.length ≤ sizeLine ∧ ∀ p, H1 p = none → Q (.ref p) (upd H1 p (.tup xs))
def tLst (t : TA) : TE := fun σ H Q => t σ H fun xs H1 => xs.length ≤ sizeLine ∧ ∀ p, H1 p = none → Q (.ref p) (upd H1 p (.lst xs))
theorem pe_tup {x1} (h : PA X es t) : PE X (.Tuple es x1 pos) (tTup t) := by
  intro pins s σ H Q I hq
  refine wpAny_Tuple_spliced (thn (h pos pins s σ H _ I hq) fun us s1 ⟨xs, H1, I1, r, z, q⟩ => ⟨by rw [← r.length]; exact z, ?_⟩)
  have hf : H1 s1.heap.objs.size = none := I1.hok.fresh (Nat.le_refl _)
  refine ⟨.ref s1.heap.objs.size, upd H1 s1.heap.objs.size (.tup xs), I1.laid (t' := s1.toks) (fun b u e => Heap.get?_push_of_some _ e) (Nat.le_refl _) ?_, rfl, q _ hf⟩
  exact ⟨z, us, r, ⟨_, Heap.get?_push_size _ rfl, rfl, _, rfl⟩⟩
theorem pe_lst (h : PA X es t) : PE X (.List es pos) (tLst t) := by
  intro pins s σ H Q I hq
  refine wpAny_List_spliced (thn (h pos pins s σ H _ I hq) fun us s1 ⟨xs, H1, I1, r, z, q⟩ => ⟨by rw [← r.length]; exact z, ?_⟩)
  have hf : H1 s1.heap.objs.size = none := I1.hok.fresh (Nat.le_refl _)
  refine ⟨.ref s1.heap.objs.size, upd H1 s1.heap.objs.size (.lst xs), I1.laid (t' := s1.toks) (fun b u e => Heap.get?_push_of_some _ e) (Nat.le_refl _) ?_, rfl, q _ hf⟩
  exact ⟨z, us, 0, r, Heap.get?_push_size _ rfl⟩
end

/-! ### what a def promises -/
/-- a def's promise: the bound arguments in the parameters' order, the heap, the wanted end, the wanted exception -/
abbrev Sp := List V → Hp → VK → XK → Prop
/-- how an exception lies behind a call (file 08 gives it): the callers' frames, abstract heap and state ahead of the call, the wish, the exception, the state -/
abbrev CXT := List Env → Hp → Shared → XK → Value → Shared → Prop

/-- the state at a call -/
structure Env0 (P : Program) (w : World) (K : PySem.W.Frag) (mg : Str → Option Value) (base : Heap) (A : Around) (outer : List Env) (s : Shared) (H : Hp) : Prop where
  frames : A.frames = some outer
  mod : Mod K mg base
  bs : ∀ b o, base.get? b = some o → s.heap.get? b = some o ∧ H b = none
  bsz : base.objs.size ≤ s.heap.objs.size
  funs : s.heap.FunFrames base outer
  frf : ∀ b ∈ frs outer, H b = none
  hok : HOk P w H s.heap
  bare : AllBare s.gens
/-- a call's end -/
def CE (outer : List Env) (P : Program) (w : World) (H : Hp) (s : Shared) (Q : VK) (u : Value) (s' : Shared) : Prop :=
  ∃ v H', s'.os = s.os ∧ AllBare s'.gens ∧ Un (frs outer) [] H H' s.heap s'.heap ∧ HOk P w H' s'.heap ∧ RelV v u ∧ Q v H'
def CR (CX : CXT) (outer : List Env) (P : Program) (w : World) (H : Hp) (s : Shared) (Q : VK) (E : XK) (r : Result) (s' : Shared) : Prop :=
  match r with
  | .ok (.ret u) => CE outer P w H s Q u s'
  | .ok _ => False
  | .error e => CX outer H s E e s'
structure FnOk (P : Program) (w : World) (K : PySem.W.Frag) (mg : Str → Option Value) (base : Heap) (CX : CXT) (k : Nat) (f : Addr) (fd : FuncData) (ps : List Str) (sp : Sp) : Prop where
  len : ∀ vs H Q E, sp vs H Q E → vs.length = ps.length
  run : ∀ (A : Around) (outer : List Env) (s : Shared) (H : Hp) (args : Args) (us : List Value) (vs : List V) (Q : VK) (E : XK), Room k A → Env0 P w K mg base A outer s H → BindsTo s fd args (ps.zip us) → Vals vs us → sp vs H Q E →
    codeAny (model P w) A (.call (.ref f) args) (CR CX outer P w H s Q E) s

theorem Env0.make {P : Program} {w : World} {K : PySem.W.Frag} {mg : Str → Option Value} {base : Heap} {A : Around} {outer : List Env} {s : Shared} {H : Hp} (e : Env0 P w K mg base A outer s H) (C : Addr) (us : List Value) (kw : List (Str × Value)) :
    Env0 P w K mg base (A.under (.builtin "type.__call__" ⟨.ref C :: us, kw⟩)) outer s H := ⟨by first | exact e.frames | (simpa [Around.under, Code.envs, Code.isFrame, pushEnvs] using e.frames), e.mod, e.bs, e.bsz, e.funs, e.frf, e.hok, e.bare⟩

section
variable {X : Cx} {pins : List (Addr × Obj)} {σ : St} {H : Hp} {s s' : Shared}
/-- from a body: what a callee wants -/
theorem Inv.env0 (I : Inv X pins σ H s) : Env0 X.prog X.w X.K X.mg X.base X.A X.stack s H :=
  ⟨I.ok.frames, I.ok.mod, I.bs, Nat.le_trans I.ok.bsz I.sz, I.stack, I.stkFree, I.hok, I.bare⟩
/-- behind a call -/
theorem Inv.after {Q : VK} {u : Value} (I : Inv X pins σ H s) (h : CE X.stack X.prog X.w H s Q u s') : EP X pins σ Q u s' := by
  obtain ⟨v, H', os, bare, un, hok, r, q⟩ := h
  obtain ⟨hh, g, d, t, os'⟩ := s'
  obtain rfl : os' = s.os := os
  exact ⟨v, H', I.call (h' := hh) (g' := g) (d' := d) (t' := t) (ch := []) un hok bare (fun b z => absurd z (by simp)), r, q⟩
end

/-! ### calls -/
/-- f(..): the written arguments, then the defaults dvs; E: what is wanted of an exception -/
def tCall (sp : Sp) (dvs : List V) (E : XK) (t : TA) : TE := fun σ H Q => t σ H fun vs H1 => sp (vs ++ dvs) H1 Q E
/-- o.m(..) of an instance of the class at C -/
def tMeth (C : Addr) (m : Str) (sp : Sp) (dvs : List V) (E : XK) (ta : TE) (t : TA) : TE := fun σ H Q => ta σ H fun x H1 => ∃ a dx fs, x = .ref a ∧ H1 a = some (.ins C dx fs) ∧ fs.lookup m = none ∧
  t σ H1 fun vs H2 => sp (x :: (vs ++ dvs)) H2 Q E
/-- C(..): a new instance and its dict, then __init__ -/
def tMake (C : Addr) (sp : Sp) (dvs : List V) (E : XK) (t : TA) : TE := fun σ H Q => t σ H fun vs H1 => ∀ x dx, H1 x = none → H1 dx = none → dx ≠ x →
  sp (.ref x :: (vs ++ dvs)) (upd (upd H1 dx (.own x)) x (.ins C dx [])) (fun v H2 => v = .non ∧ Q (.ref x) H2) E

/-- how the parameters are bound: us the positional arguments, kw the keywords' values by name, ds the defaults that fill up -/
def Binds (K : PySem.W.Frag) (fd : FuncData) (ps : List Str) (ds : List Value) : Prop :=
  ∀ (s : Shared) (us : List Value), K.In s.heap → (us ++ ds).length = ps.length → BindsTo s fd ⟨us, []⟩ (ps.zip (us ++ ds))
/-- every parameter is given -/
theorem Binds.all {K : PySem.W.Frag} {fd : FuncData} {ps : List Str} (h : ∀ us : List Value, us.length = ps.length → bindArgs fd ⟨us, []⟩ = pure (ps.zip us)) : Binds K fd ps [] := fun s us _ hl => by
  rw [List.append_nil] at hl ⊢
  exact .of_eq (h us hl)

/-- an exception of a callee reaches what this body wants of exceptions -/
def Passes (CX : CXT) (X : Cx) (E : XK) : Prop := ∀ (pins : List (Addr × Obj)) (σ : St) (H : Hp) (s : Shared) (e : Value) (s' : Shared), Inv X pins σ H s → CX X.stack H s E e s' → X.xe e s'

section
variable {X : Cx} {CX : CXT} {k : Nat} {f C : Addr} {fd : FuncData} {ps : List Str} {sp : Sp} {dvs : List V} {ds : List Value} {E : XK} {x m : Str} {p pos apos : Pos} {e o : Expr} {es : List Expr} {ta : TE} {t : TA}

/-- the callee runs -/
theorem run_fn {pins : List (Addr × Obj)} {σ : St} {H : Hp} {s : Shared} {Q : VK} {us : List Value} {vs : List V} (F : FnOk X.prog X.w X.K X.mg X.base CX k f fd ps sp) (hr : Room k X.A) (hb : Binds X.K fd ps ds) (hd : Vals dvs ds) (hx : Passes CX X E)
    (I : Inv X pins σ H s) (r : Vals vs us) (h : sp (vs ++ dvs) H Q E) : wpAny (model X.prog X.w) X.A (call (.ref f) us) (EP X pins σ Q) X.xe s := by
  have r2 : Vals (vs ++ dvs) (us ++ ds) := r.append hd
  have hl : (us ++ ds).length = ps.length := by rw [← r2.length]; exact F.len _ _ _ _ h
  refine wpAny_call (codeAny_mono (F.run X.A X.stack s H ⟨us, []⟩ (us ++ ds) (vs ++ dvs) Q E hr I.env0 (hb s us I.kIn hl) r2 h) fun r s' hq => ?_)
  cases r with
  | error e => exact hx pins σ H s e s' I hq
  | ok fl =>
    cases fl with
    | ret u => exact I.after hq
    | next => exact False.elim hq
    | brk => exact False.elim hq
    | cont => exact False.elim hq

theorem pe_call (F : FnOk X.prog X.w X.K X.mg X.base CX k f fd ps sp) (hr : Room k X.A) (hg : Gl X x) (hm : X.mg x = some (.ref f)) (hk : PySem.W.keepIn X.K (.ref f) = true) (hb : Binds X.K fd ps ds) (hd : Vals dvs ds) (hx : Passes CX X E)
    (ha : PA X (e :: es) t) (hdb : (x == ("__debug__" : Str)) = false := by decide) (he : starEach (e :: es) X.env = (false, eval e X.env) :: starEach es X.env := by rfl) (hpl : (backTo pos (starEach es X.env)).any (·.1) = false := by rfl) :
    PE X (.Call (.Name x p) (e :: es) [] pos) (tCall sp dvs E t) := by
  intro pins s σ H Q I h
  refine wpAny_Call_Name_kw (ld_glob I hg hm ?_ hdb)
  refine PySem.W.callWith_K (h₀ := X.base) I.ok.mod.kin hk (thn (ha pos pins s σ H _ I h) fun us s1 ⟨vs, H1, I1, r, q⟩ => ⟨I1.kIn, ?_⟩) he hpl
  exact run_fn F hr hb hd hx I1 r q

/-- o.m(e, ..) -/
theorem pe_meth {pl : Sem Bool} (he : PE X o ta) (c : Cls X.K C) (hm : Meth X.K C m f) (F : FnOk X.prog X.w X.K X.mg X.base CX k f fd ps sp) (hr : Room k X.A) (hb : Binds X.K fd ps ds) (hd : Vals dvs ds) (hx : Passes CX X E) (ha : PA X (e :: es) t)
    (hst : starEach (e :: es) X.env = (false, eval e X.env) :: starEach es X.env := by rfl) (hpl : (backTo pos (starEach es X.env)).any (·.1) = false := by rfl)
    (ht : eval (.Call (.Attribute o m apos) (e :: es) [] pos) X.env = (do
      let ov ← eval o X.env
      standAt apos.atName
      let (f, first) ← holding [ov] (getMethod ov m pl)
      callWith pos f first (backTo pos (starEach (e :: es) X.env)) (backToKw pos (keywordEach [] X.env))) := by rfl) :
    PE X (.Call (.Attribute o m apos) (e :: es) [] pos) (tMeth C m sp dvs E ta t) := by
  intro pins s σ H Q I h
  refine PySem.W.methodCall_KW (pl := pl) (thn (he pins s σ H _ I h) fun u s1 ⟨x, H1, I1, rx, a, dx, fs, ex, ea, l, q⟩ => ?_) ht
  subst ex
  obtain rfl : u = Value.ref a := rx
  refine getmeth_ok I1 ea c hm l ?_
  refine PySem.W.callWith_K (first := [.ref a]) (h₀ := X.base) I.ok.mod.kin hm.kp (thn (ha pos pins s1 σ H1 _ I1 q) fun us s2 ⟨vs, H2, I2, r, q2⟩ => ⟨I2.kIn, ?_⟩) hst hpl
  exact run_fn (us := .ref a :: us) (vs := .ref a :: vs) F hr hb hd hx I2 (.cons rfl r) q2
/-- o.m() -/
theorem pe_meth0 {pl : Sem Bool} (he : PE X o ta) (c : Cls X.K C) (hm : Meth X.K C m f) (F : FnOk X.prog X.w X.K X.mg X.base CX k f fd ps sp) (hr : Room k X.A) (hb : Binds X.K fd ps ds) (hd : Vals dvs ds) (hx : Passes CX X E)
    (ht : eval (.Call (.Attribute o m apos) [] [] pos) X.env = (do
      let ov ← eval o X.env
      standAt apos.atName
      let (f, first) ← holding [ov] (getMethod ov m pl)
      callWith pos f first (backTo pos (starEach [] X.env)) (backToKw pos (keywordEach [] X.env))) := by rfl) :
    PE X (.Call (.Attribute o m apos) [] [] pos) (tMeth C m sp dvs E ta tNil) := by
  intro pins s σ H Q I h
  refine PySem.W.methodCall_KW (pl := pl) (thn (he pins s σ H _ I h) fun u s1 ⟨x, H1, I1, rx, a, dx, fs, ex, ea, l, q⟩ => ?_) ht
  subst ex
  obtain rfl : u = Value.ref a := rx
  refine getmeth_ok I1 ea c hm l ?_
  exact PySem.W.callWith_K0 (first := [.ref a]) I1.kIn hm.kp (run_fn (us := [.ref a]) (vs := [.ref a]) F hr hb hd hx I1 (.cons rfl .nil) q)

/-- what a class must have to be made -/
structure Mk (K : PySem.W.Frag) (C f : Addr) : Prop where
  makes : PySem.W.makesIn K C = true
  init : PySem.W.findIn K (.ref C) "__init__" = some (some (.ref f))
  fn : PySem.W.isFn K (.ref f) = true
  kp : PySem.W.keepIn K (.ref C) = true

theorem run_make {pins : List (Addr × Obj)} {σ : St} {H : Hp} {s : Shared} {Q : VK} {us : List Value} {vs : List V} (M : Mk X.K C f) (F : FnOk X.prog X.w X.K X.mg X.base CX k f fd ps sp) (hr : Room (k + 1) X.A) (hb : Binds X.K fd ps ds) (hd : Vals dvs ds)
    (hx : Passes CX X E) (I : Inv X pins σ H s) (r : Vals vs us)
    (h : ∀ x dx, H x = none → H dx = none → dx ≠ x → sp (.ref x :: (vs ++ dvs)) (upd (upd H dx (.own x)) x (.ins C dx [])) (fun v H2 => v = .non ∧ Q (.ref x) H2) E) :
    wpAny (model X.prog X.w) X.A (call (.ref C) us) (EP X pins σ Q) X.xe s := by
  have hq := h (s.heap.objs.size + 1) s.heap.objs.size (I.hok.fresh (Nat.le_succ _)) (I.hok.fresh (Nat.le_refl _)) (Nat.ne_of_lt (Nat.lt_succ_self _))
  have I2 := Inv.made (C := C) I
  have r2 : Vals (V.ref (s.heap.objs.size + 1) :: (vs ++ dvs)) (Value.ref (s.heap.objs.size + 1) :: (us ++ ds)) := .cons rfl (r.append hd)
  have hl : (Value.ref (s.heap.objs.size + 1) :: us ++ ds).length = ps.length := by
    have e := r2.length
    rw [F.len _ _ _ _ hq] at e
    exact e.symm
  refine wpAny_call (make_map (f := f) I.kIn M.makes M.init (beq_iff_eq.mp M.fn) (codeAny_mono (F.run _ X.stack _ _ ⟨Value.ref (s.heap.objs.size + 1) :: us, []⟩ (Value.ref (s.heap.objs.size + 1) :: (us ++ ds)) _ _ E (hr.make C us [])
    (I2.env0.make C us []) (hb _ (Value.ref (s.heap.objs.size + 1) :: us) I2.kIn hl) r2 hq) fun r s' hq' => ?_))
  cases r with
  | error e => exact hx pins σ _ _ e s' I2 hq'
  | ok fl =>
    cases fl with
    | ret u =>
      obtain ⟨v, H', I3, rv, ev, q3⟩ := I2.after hq'
      subst ev
      exact ⟨rv, ⟨V.ref (s.heap.objs.size + 1), H', I3, rfl, q3⟩⟩
    | next => exact False.elim hq'
    | brk => exact False.elim hq'
    | cont => exact False.elim hq'
theorem pe_make (M : Mk X.K C f) (F : FnOk X.prog X.w X.K X.mg X.base CX k f fd ps sp) (hr : Room (k + 1) X.A) (hg : Gl X x) (hm : X.mg x = some (.ref C)) (hb : Binds X.K fd ps ds) (hd : Vals dvs ds) (hx : Passes CX X E)
    (ha : PA X (e :: es) t) (hdb : (x == ("__debug__" : Str)) = false := by decide) (he : starEach (e :: es) X.env = (false, eval e X.env) :: starEach es X.env := by rfl) (hpl : (backTo pos (starEach es X.env)).any (·.1) = false := by rfl) :
    PE X (.Call (.Name x p) (e :: es) [] pos) (tMake C sp dvs E t) := by
  intro pins s σ H Q I h
  refine wpAny_Call_Name_kw (ld_glob I hg hm ?_ hdb)
  refine PySem.W.callWith_K (h₀ := X.base) I.ok.mod.kin M.kp (thn (ha pos pins s σ H _ I h) fun us s1 ⟨vs, H1, I1, r, q⟩ => ⟨I1.kIn, ?_⟩) he hpl
  exact run_make M F hr hb hd hx I1 r q
end

/-! ### keywords -/
section
variable {X : Cx} {CX : CXT} {k : Nat} {f C : Addr} {fd : FuncData} {ps ks : List Str} {sp : Sp} {E : XK} {x m : Str} {p pos apos kpos : Pos} {e o : Expr} {es : List Expr} {kws : List Keyword} {te ta : TE} {t tk : TA} {nm : Option Str}

variable {g : List Value → List Value → List Value} {gV : List V → List V → List V}
end

/-! ### a def's body keeps its promise -/
/-- names: the parameters first -/
structure FnScope (N P : List Str) (sc : Scope) : Prop where
  kind : sc.kind = .function
  co : sc.isCoroutine = false
  gen : sc.isGenerator = false
  nd : N.Nodup
  pre : N.take P.length = P
  par : ∀ x ∈ P, sc.names.lookup x = some .local ∨ sc.names.lookup x = some .cell
  nofree : ∀ y ∈ sc.names, y.2 ≠ .free

theorem bindL_out {kindOf : Str → Option NameKind} {x : Str} : ∀ {binds : List (Str × Value)} {m : Str → Option Value}, (∀ v, (x, v) ∉ binds) → bindL kindOf binds m x = m x
  | [], _, _ => rfl
  | (n, v) :: r, m, h => by
    unfold bindL
    rw [bindL_out fun w hw => h w (List.mem_cons_of_mem _ hw)]
    split
    · have : x ≠ n := by rintro rfl; exact h v List.mem_cons_self
      simp [this]
    · rfl
theorem bindC_out {kindOf : Str → Option NameKind} {x : Str} : ∀ {binds : List (Str × Value)} {m : Str → Option Value}, (∀ v, (x, v) ∉ binds) → bindC kindOf binds m x = m x
  | [], _, _ => rfl
  | (n, v) :: r, m, h => by
    unfold bindC
    rw [bindC_out fun w hw => h w (List.mem_cons_of_mem _ hw)]
    split
    · rfl
    · have : x ≠ n := by rintro rfl; exact h v List.mem_cons_self
      simp [this]
theorem bindL_get {kindOf : Str → Option NameKind} {x : Str} {v : Value} : ∀ {P : List Str} {vs : List Value} {i : Nat} {m : Str → Option Value}, P.Nodup → P[i]? = some x → vs[i]? = some v → kindOf x = some .local →
    bindL kindOf (P.zip vs) m x = some v
  | [], _, _, _, _, h, _, _ => by simp at h
  | _ :: _, [], _, _, _, _, h, _ => by simp at h
  | p :: P, w :: vs, 0, m, nd, h1, h2, hk => by
    simp at h1 h2; subst h1; subst h2
    show bindL kindOf ((p, w) :: P.zip vs) m p = _
    unfold bindL
    rw [bindL_out fun v hv => (List.nodup_cons.mp nd).1 (List.of_mem_zip hv).1, if_pos hk]
    simp
  | p :: P, w :: vs, i + 1, m, nd, h1, h2, hk => by
    show bindL kindOf ((p, w) :: P.zip vs) m x = _
    unfold bindL
    exact bindL_get (i := i) (List.nodup_cons.mp nd).2 (by simpa using h1) (by simpa using h2) hk
theorem bindC_get {kindOf : Str → Option NameKind} {x : Str} {v : Value} : ∀ {P : List Str} {vs : List Value} {i : Nat} {m : Str → Option Value}, P.Nodup → P[i]? = some x → vs[i]? = some v → kindOf x ≠ some .local →
    bindC kindOf (P.zip vs) m x = some v
  | [], _, _, _, _, h, _, _ => by simp at h
  | _ :: _, [], _, _, _, _, h, _ => by simp at h
  | p :: P, w :: vs, 0, m, nd, h1, h2, hk => by
    simp at h1 h2; subst h1; subst h2
    show bindC kindOf ((p, w) :: P.zip vs) m p = _
    unfold bindC
    rw [bindC_out fun v hv => (List.nodup_cons.mp nd).1 (List.of_mem_zip hv).1, if_neg hk]
    simp
  | p :: P, w :: vs, i + 1, m, nd, h1, h2, hk => by
    show bindC kindOf ((p, w) :: P.zip vs) m x = _
    unfold bindC
    exact bindC_get (i := i) (List.nodup_cons.mp nd).2 (by simpa using h1) (by simpa using h2) hk

/-- the names' values at the entry -/
def start (N : List Str) (vs : List V) : St := vs.map some ++ List.replicate (N.length - vs.length) none

/-- the context of a def's body, at its entry; an exception leaves the frame, then lies as CX says -/
def cxOf (CX : CXT) (P : Program) (w : World) (K : PySem.W.Frag) (mg : Str → Option Value) (base : Heap) (N : List Str) (qual : Str) (scope : Scope) (f : Addr) (cd : Value) (A : Around) (outer : List Env) (s : Shared) (H : Hp) (E : XK) : Cx where
  prog := P
  w := w
  K := K
  mg := mg
  base := base
  A := A.deeper (envOfC qual scope s.heap.objs.size f cd)
  N := N
  s₀ := s
  H₀ := H
  env := envOfC qual scope s.heap.objs.size f cd
  outer := outer
  stack := envOfC qual scope s.heap.objs.size f cd :: outer
  ex := []
  calm := true
  fn := fun _ => true
  pn := []
  xe := fun e s' => wpAny (model P w) (A.deeper (envOfC qual scope s.heap.objs.size f cd)) (leaving (envOfC qual scope s.heap.objs.size f cd) e) (fun _ s'' => CX outer H s E e s'') (fun e' s'' => CX outer H s E e' s'') s'

theorem cell_has {sc : Scope} {n : Nat} {x : Str} (h : sc.names.lookup x = some .cell) : ∃ c, (cellsFrom n sc.names []).lookup x = some c := by
  have q := PySem.W.cellsFrom_some sc.names n [] (.inl h)
  exact Option.isSome_iff_exists.mp q

theorem inv_start {CX : CXT} {P : Program} {w : World} {K : PySem.W.Frag} {mg : Str → Option Value} {base : Heap} {N ps : List Str} {qual : Str} {scope : Scope} {f : Addr} {cd : Value} {A : Around} {outer : List Env} {s s1 : Shared} {H : Hp} {E : XK} {us : List Value} {vs : List V}
    (S : FnScope N ps scope) (hd : A.handled = none) (e0 : Env0 P w K mg base A outer s H) (hl : vs.length = ps.length) (r : Vals vs us)
    (x : InCallC s s.heap.objs.size (bindL (envOfC qual scope s.heap.objs.size f cd).kindOf (ps.zip us) fun _ => none) (cellsFrom (s.heap.objs.size + 1) scope.names []) (bindC (envOfC qual scope s.heap.objs.size f cd).kindOf (ps.zip us) fun _ => none) s1) :
    Inv (cxOf CX P w K mg base N qual scope f cd A outer s H E) [] (start N vs) H s1 := by
  have hpl : ps.length ≤ N.length := by have := congrArg List.length S.pre; rw [List.length_take] at this; omega
  obtain ⟨h1, tk, rfl, hk⟩ := x.done
  have noA : ∀ b : Addr, b ∉ (cxOf CX P w K mg base N qual scope f cd A outer s H E).ex := fun b z => absurd (show b ∈ ([] : List Addr) from z) (by simp)
  refine ⟨⟨e0.mod, S.kind, rfl, rfl, Nat.le_refl _, fun y z c h1 h2 => ?_, fun y hy => ?_, fun y c _ h => ?_, fun _ => hd, Around.frames_deeper e0.frames, .inr ⟨rfl, rfl⟩, fun b z => absurd z (noA b), e0.bs, e0.bsz, fun b _ _ => noA b, fun b z => absurd z (noA b), e0.funs, e0.frf⟩,
    rfl, e0.bare, Un.kept hk, ⟨_, x.toInCall.ns, fun i y v h1 h2 h3 => ?_⟩, fun y c h => ⟨_, x.cell y c h⟩, e0.hok.fresh (Nat.le_refl _), fun y c h => ?_, fun p hp => absurd (show p ∈ ([] : List (Addr × Obj)) from hp) (by simp), e0.hok.kept hk, ?_⟩
  · exact name_of_addr x.apart (PySem.mem_of_lookup h1) (PySem.mem_of_lookup h2)
  · have hy : scope.names.lookup y = some .cell ∨ scope.names.lookup y = some .free := hy
    rcases hy with hy | hy
    · exact cell_has hy
    · exact absurd rfl (S.nofree _ (PySem.mem_of_lookup hy))
  · exact Nat.le_of_lt (x.above y c (PySem.mem_of_lookup h))
  · have hi : i < vs.length := by
      unfold start at h2
      by_cases hi : i < vs.length
      · exact hi
      · rw [List.getElem?_append_right (by simpa using hi)] at h2
        rw [List.getElem?_replicate] at h2
        split at h2 <;> cases h2
    have ha : vs[i]? = some v := by
      unfold start at h2
      rw [List.getElem?_append_left (by simpa using hi), List.getElem?_map] at h2
      cases e : vs[i]? with
      | none => rw [e] at h2; cases h2
      | some a => rw [e] at h2; cases h2; rfl
    obtain ⟨u, hu, rv⟩ := r.get ha
    have hp : ps[i]? = some y := by
      rw [← S.pre, List.getElem?_take_of_lt (by omega)]; exact h1
    have ndP : ps.Nodup := by rw [← S.pre]; exact S.nd.sublist (List.take_sublist _ _)
    refine ⟨u, rv, ?_⟩
    rcases S.par y (List.mem_of_getElem? hp) with k | k
    · exact .inl ⟨k, bindL_get ndP hp hu k⟩
    · obtain ⟨c, e⟩ := cell_has (n := s.heap.objs.size + 1) k
      refine .inr ⟨.inl k, c, e, ?_⟩
      have q := x.cell y c e
      rw [bindC_get ndP hp hu (by show scope.names.lookup y ≠ _; rw [k]; decide)] at q
      exact q
  · exact e0.hok.fresh (Nat.le_of_lt (x.above y c (PySem.mem_of_lookup h)))
  · unfold start
    show _ = N.length
    rw [List.length_append, List.length_map, List.length_replicate]
    omega

/-- THE RULE: a def (or a method) of the text, by its body. The body's reading t is chosen for each entry; it is run at the parameters' values -/
theorem fn_of {CX : CXT} {P : Program} {w : World} {K : PySem.W.Frag} {mg : Str → Option Value} {base : Heap} {k : Nat} {f : Addr} {name qual : Str} {params : Arguments} {body : List Stmt} {scope : Scope} {dV kV doc pm cdv ct oc : Value} {an od : Option Addr}
    {osl : Array (Option Value)} {N ps : List Str} {sp : Sp} (lk : K.lookup f = some ⟨oc, od, .func (PySem.W.fnOf name qual params body scope dV kV doc pm an cdv ct), osl⟩) (hcd : PySem.W.codeIn K cdv qual = true) (S : FnScope N ps scope)
    (len : ∀ vs H Q E, sp vs H Q E → vs.length = ps.length)
    (hbody : ∀ (A : Around) (outer : List Env) (s : Shared) (H : Hp) (vs : List V) (Q : VK) (E : XK), Room k (A.deeper (envOfC qual scope s.heap.objs.size f cdv)) → sp vs H Q E →
      ∃ t, PSs (cxOf CX P w K mg base N qual scope f cdv A outer s H E) body t ∧ t { nx := fun _ H' => Q .non H', rt := Q } (start N vs) H) :
    FnOk P w K mg base CX (k + 1) f (PySem.W.fnOf name qual params body scope dV kV doc pm an cdv ct) ps sp := by
  refine ⟨len, fun A outer s H args us vs Q E hr e0 hb r hsp => ?_⟩
  have hl := len _ _ _ _ hsp
  have KX : K.In s.heap := e0.mod.kin.keeps fun b o e => (e0.bs b o e).1
  have lim : s.heap.NoLimit := e0.mod.nolimit.keeps fun b o e => (e0.bs b o e).1
  have hkind : ∀ y ∈ ps.zip us, scope.names.lookup y.1 = some .local ∨ (scope.names.lookup y.1 = some .cell ∧ ((cellsFrom (s.heap.objs.size + 1) scope.names []).lookup y.1).isSome = true) := fun ⟨n, v⟩ hy => by
    rcases S.par n (List.of_mem_zip hy).1 with q | q
    · exact .inl q
    · exact .inr ⟨q, PySem.W.cellsFrom_some _ _ _ (.inl q)⟩
  refine codeAny_call_function hr.depth (KX _ _ lk) rfl S.co S.gen rfl (PySem.W.codeRec_of KX hcd) (hb _ _ _ _ ?_)
  refine wpAny_newFunctionEnv_cells S.kind hkind fun env he s1 x => ?_
  subst he
  refine ⟨lim.keeps x.toInCall.keep, codeAny_func ?_⟩
  obtain ⟨t, ht, hq⟩ := hbody A outer s H vs Q E (hr.deeper _) hsp
  have I : Inv (cxOf CX P w K mg base N qual scope f cdv A outer s H E) [] (start N vs) H s1 := inv_start S hr.hd e0 hl r x
  refine wpAny_mono (ht [] s1 (start N vs) H _ I hq) (fun fl s' hs => ?_) fun e s' hs => hs
  have fin : ∀ {σ' : St} {H' : Hp} {v : V} {u : Value}, Inv (cxOf CX P w K mg base N qual scope f cdv A outer s H E) [] σ' H' s' → RelV v u → Q v H' → CE outer P w H s Q u s' :=
    fun {σ' H' v u} J rv q => ⟨v, H', J.os, J.bare, J.base, J.hok, rv, q⟩
  cases fl with
  | ret u =>
    obtain ⟨v, σ', H', J, rv, q⟩ := hs
    exact fin J rv q
  | next =>
    obtain ⟨σ', H', J, q⟩ := hs
    exact fin (v := V.non) (u := Value.none) J rfl q
  | brk =>
    obtain ⟨_, _, _, q⟩ := hs
    exact False.elim q
  | cont =>
    obtain ⟨_, _, _, q⟩ := hs
    exact False.elim q
end L2

namespace L2
open PySem PySem.Spec PyProof.Rows
section
variable {X : Cx} {x : Str} {p pos : Pos} {e : Expr} {es : List Expr} {t : TA} {id T : String} {r : List V → Hp → VK → Prop}

def tCB (r : List V → Hp → VK → Prop) (t : TA) : TE := fun σ H Q => t σ H fun vs H1 => r vs H1 Q
/-- f(e, ..), f a built-in function -/
theorem pe_callB (hc : CallR X (.builtin id) r) (hg : Gl X x) (hm : X.mg x = none) (hv : bootBuiltins x = some (.builtin id)) (ha : PA X (e :: es) t) (hn : x ≠ "__name__" := by decide) (hdb : (x == ("__debug__" : Str)) = false := by decide)
    (he : starEach (e :: es) X.env = (false, eval e X.env) :: starEach es X.env := by rfl) (hpl : (backTo pos (starEach es X.env)).any (·.1) = false := by rfl) : PE X (.Call (.Name x p) (e :: es) [] pos) (tCB r t) := by
  intro pins s σ H Q I h
  refine wpAny_Call_Name_kw (ld_blt I hg hm hv ?_ hn hdb)
  exact PyProof.Rows.callWith_builtin1 (thn (ha pos pins s σ H _ I h) fun us s1 ⟨vs, H1, I1, r1, q1⟩ => hc pins s1 σ H1 vs us Q I1 r1 q1) he hpl
/-- T(e, ..), T a built-in type -/
theorem pe_callTy (hc : CallR X (.type T) r) (hg : Gl X x) (hm : X.mg x = none) (hv : bootBuiltins x = some (.type T)) (ha : PA X (e :: es) t) (hn : x ≠ "__name__" := by decide) (hdb : (x == ("__debug__" : Str)) = false := by decide)
    (he : starEach (e :: es) X.env = (false, eval e X.env) :: starEach es X.env := by rfl) (hpl : (backTo pos (starEach es X.env)).any (·.1) = false := by rfl) : PE X (.Call (.Name x p) (e :: es) [] pos) (tCB r t) := by
  intro pins s σ H Q I h
  refine wpAny_Call_Name_kw (ld_blt I hg hm hv ?_ hn hdb)
  exact PyProof.Rows.callWith_type1 (thn (ha pos pins s σ H _ I h) fun us s1 ⟨vs, H1, I1, r1, q1⟩ => hc pins s1 σ H1 vs us Q I1 r1 q1) he hpl
end
end L2

namespace HT
open PySem PyProof.Rows



section
open PySem.SeqAt
open PySem.AutoSeq1 (wpAny_loadPart')
open PySem.MeetsSeq PySem.MeetsSeq2 PySem.MeetsSeq3

end

section
variable {prog : Program} {w : World} {A : Around} {E : Value → Shared → Prop} {s : Shared}


/-- t + u, t not empty -/
theorem cat_tup {t b : Addr} {vs ws : List Value} {Q : Value → Shared → Prop} (ht : IsTup s.heap t vs.toArray) (hb : IsTup s.heap b ws.toArray) (hv : vs ≠ [])
    (h1 : ws = [] → Q (.ref t) s) (h2 : ws ≠ [] → Q (.ref s.heap.objs.size) { s with heap := s.heap.push { cls := .type "tuple", data := .seq (vs ++ ws).toArray } })
    (hsz : vs.length + ws.length ≤ sizeLine) : wpAny (model prog w) A (binaryOp .Add (.ref t) (.ref b)) Q E s := by
  obtain ⟨⟨cls, dd, data, sl⟩, ho, hc, n, hd⟩ := id ht
  obtain ⟨⟨cls2, dd2, data2, sl2⟩, ho2, hc2, n2, hd2⟩ := id hb
  simp only at hc hd hc2 hd2
  subst hc hd hc2 hd2
  have e : vs.toArray ++ ws.toArray = (vs ++ ws).toArray := by simp
  by_cases hw : ws = []
  · exact concat_meets ⟨_, ho, rfl⟩ ⟨_, ho2, rfl⟩ noFill_tuple_add seq_tuple_add PySem.F.slot_tuple_add PySem.F.entry_tuple_add (PySem.F.args_tuple_add_2 _ _)
      (tuple_addW1 t b vs.toArray ws.toArray n n2 dd dd2 sl sl2 (by simpa using hv) (by simp [hw])) ⟨ho, ho2, h1 hw⟩
  · refine concat_meets ⟨_, ho, rfl⟩ ⟨_, ho2, rfl⟩ noFill_tuple_add seq_tuple_add PySem.F.slot_tuple_add PySem.F.entry_tuple_add (PySem.F.args_tuple_add_2 _ _)
      (tuple_addW2 t b vs.toArray ws.toArray n n2 dd dd2 sl sl2 (by simpa using hv) (by simpa using hw) (by rw [List.size_toArray, List.size_toArray]; exact hsz)) ⟨ho, ho2, ?_⟩
    rw [e]
    exact h2 hw

/-! ### t[a:b], not the whole -/
/-- a slice's bound as a place among n (d where it is left out) -/
def sIx (n d : Nat) : Option Int → Nat
  | none => d
  | some v => if v < 0 then (v + (n : Int)).toNat else min v.toNat n
theorem sIx_none (n d : Nat) : sIx n d none = d := rfl
theorem sIx_nat (n d k : Nat) : sIx n d (some (k : Int)) = min k n := by
  show (if (k : Int) < 0 then ((k : Int) + (n : Int)).toNat else min (k : Int).toNat n) = min k n
  rw [if_neg (by omega), Int.toNat_natCast]

end
end HT

namespace L2
open PySem PySem.Spec PyProof.Rows

/-! ### the parts of a slice -/
abbrev TO := St → Hp → (Option Int → Hp → Prop) → Prop
/-- a slice's part (left out, or an int) -/
def PO (X : Cx) (e : Option Expr) (t : TO) : Prop :=
  ∀ (pins : List (Addr × Obj)) (s : Shared) (σ : St) (H : Hp) (Q : Option Int → Hp → Prop), Inv X pins σ H s → t σ H Q →
    wpAny (model X.prog X.w) X.A (evalPart e X.env) (fun u s' => ∃ o H', Inv X pins σ H' s' ∧ IsPart u o ∧ Q o H') X.xe s
def tNoPart : TO := fun _ H Q => Q none H
def tPart (t : TE) : TO := fun σ H Q => t σ H fun x H1 => ∃ i, x = .int i ∧ Q (some i) H1

theorem intsAre_of {ns : List Int} : ∀ {us : List Value}, Vals (ns.map V.int) us → IntsAre us ns := by
  induction ns with
  | nil => intro us r; rw [List.map_nil] at r; cases r; exact .nil
  | cons n ns ih =>
    intro us r
    rw [List.map_cons] at r
    cases r with
    | cons r1 r2 =>
      obtain ⟨t, e⟩ := r1
      subst e
      exact .cons n t (ih r2)

section
variable {X : Cx} {e : Expr} {te : TE} {lo hi : Option Expr} {tl th : TO} {pos p2 : Pos}

theorem po_none : PO X none tNoPart := by
  intro pins s σ H Q I h
  rw [evalPart_none]
  exact wpAny_pure ⟨none, H, I, .none, h⟩
theorem po_some (h : PE X e te) : PO X (some e) (tPart te) := by
  intro pins s σ H Q I hw
  rw [evalPart_some]
  refine thn (h pins s σ H _ I hw) fun u s1 ⟨x, H1, I1, r1, q1⟩ => ?_
  obtain ⟨i, rfl, q⟩ := q1
  obtain ⟨t, rfl⟩ := r1
  exact ⟨some i, H1, I1, .int i t, q⟩

/-- what a slice of a value is, by values: the slice object stands at sl -/
def SlR (X : Cx) (r : V → Option Int → Option Int → Hp → VK → Prop) : Prop :=
  ∀ (pins : List (Addr × Obj)) (s : Shared) (σ : St) (H : Hp) (x : V) (v vl vu : Value) (lo hi : Option Int) (sl : Addr) (Q : VK), Inv X pins σ H s → RelV x v → s.heap.IsSliceOf sl vl vu .none → IsPart vl lo → IsPart vu hi → r x lo hi H Q →
    ∃ T id, typeLookup (.type T) "__getitem__" = pure (some (.builtin id)) ∧ s.TypeIs v T ∧ wpAny (model X.prog X.w) X.A (getItem v (.ref sl)) (EP X pins σ Q) X.xe s
def tSl (r : V → Option Int → Option Int → Hp → VK → Prop) (te : TE) (tl th : TO) : TE := fun σ H Q => te σ H fun x H1 => tl σ H1 fun l H2 => th σ H2 fun u H3 => r x l u H3 Q
/-- a[lo:hi], any a -/
theorem pe_slice {r : V → Option Int → Option Int → Hp → VK → Prop} (hr : SlR X r) (he : PE X e te) (hl : PO X lo tl) (hu : PO X hi th) : PE X (.Subscript e (.Slice lo hi none p2) pos) (tSl r te tl th) := by
  intro pins s σ H Q I h
  refine Subscript_ (thn (he pins s σ H _ I h) fun v s1 ⟨x, H1, I1, r1, q1⟩ => ?_)
  refine wpAny_Slice (thn (hl pins s1 σ H1 _ I1 q1) fun vl s2 ⟨l, H2, I2, pl, q2⟩ => thn (hu pins s2 σ H2 _ I2 q2) fun vu s3 ⟨u, H3, I3, pu, q3⟩ => ?_)
  rw [evalPart_none]
  refine wpAny_pure ?_
  have I4 : Inv X pins σ H3 { s3 with heap := s3.heap.push { cls := .type "slice", data := .fields #[vl, vu, .none] } } := I3.kept (t' := s3.toks) fun b ob q => Heap.get?_push_of_some _ q
  obtain ⟨T, id, hT, ht, hg⟩ := hr pins { s3 with heap := s3.heap.push { cls := .type "slice", data := .fields #[vl, vu, .none] } } σ H3 x v vl vu l u s3.heap.objs.size Q I4 r1 (Heap.IsSliceOf.new ..) pl pu q3
  show wpAny (model X.prog X.w) X.A (subscriptTail e (.Slice lo hi none p2) v (.ref s3.heap.objs.size)) (EP X pins σ Q) X.xe { s3 with heap := s3.heap.push { cls := .type "slice", data := .fields #[vl, vu, .none] } }
  exact tail_any (ops := [.ref s3.heap.objs.size, v]) ht hT hg (by with_unfolding_all rfl)

/-- the items of xs[lo:hi] -/
def cutV (xs : List V) (lo hi : Option Int) : List V := (xs.drop (HT.sIx xs.length 0 lo)).take (HT.sIx xs.length xs.length hi - HT.sIx xs.length 0 lo)
theorem cutV_length (xs : List V) (lo hi : Option Int) : (cutV xs lo hi).length ≤ xs.length := by
  unfold cutV
  rw [List.length_take, List.length_drop]
  omega

/-! ### t < u, t + u -/
/-- t + u, t not empty: u empty gives t itself -/
def rCatT (K : PySem.W.Frag) : R2 := fun x y H Q => ∃ a b xs ys, x = .ref a ∧ y = .ref b ∧ SqT K H a xs ∧ SqT K H b ys ∧ xs ≠ [] ∧ xs.length + ys.length ≤ sizeLine ∧
  (ys = [] → Q (.ref a) H) ∧ (ys ≠ [] → ∀ p, H p = none → Q (.ref p) (upd H p (.tup (xs ++ ys))))
theorem Vals.nil_iff {xs : List V} {us : List Value} (r : Vals xs us) : us = [] ↔ xs = [] := by
  cases r with
  | nil => simp
  | cons _ _ => simp
theorem op_catT : OpR X (binaryOp .Add) (rCatT X.K) := by
  intro pins s σ H x y v u Q I rx ry h
  obtain ⟨a, b, xs, ys, rfl, rfl, ha, hb, hx, hz, q1, q2⟩ := h
  cases rx
  cases ry
  obtain ⟨its, r1, p1, _⟩ := I.tuple ha
  obtain ⟨its2, r2, p2, _⟩ := I.tuple hb
  refine HT.cat_tup p1 p2 (fun z => hx (r1.nil_iff.mp z)) (fun z => ⟨.ref a, H, I, rfl, q1 (r2.nil_iff.mp z)⟩) (fun z => ?_) (by rw [← r1.length, ← r2.length]; exact hz)
  refine ⟨.ref s.heap.objs.size, _, I.laid (t' := s.toks) (o := .tup (xs ++ ys)) (fun b ob q => Heap.get?_push_of_some _ q) (Nat.le_refl _) ?_, rfl, q2 (fun w => z (r2.nil_iff.mpr w)) _ (I.hok.fresh (Nat.le_refl _))⟩
  exact ⟨by rw [List.length_append]; exact hz, _, r1.append r2, IsTup.new _ _⟩
end
end L2

namespace L2
open PySem PySem.Spec PyProof.Rows

/-! ### places -/
/-- the place that an index of any sign means -/
def ixN (n : Nat) (i : Int) : Option Nat := if 0 ≤ i then (if i < n then some i.toNat else none) else if -(n : Int) ≤ i then some (i + n).toNat else none
def atI {α : Type} (xs : List α) (i : Int) : Option α := (ixN xs.length i).bind fun j => xs[j]?
theorem ixN_seq {n : Nat} {i : Int} {j : Nat} (h : ixN n i = some j) : seqIndex? i n = some j ∧ j < n ∧ -(n : Int) ≤ i ∧ i < n := by
  unfold ixN at h
  by_cases h0 : 0 ≤ i
  · rw [if_pos h0] at h
    by_cases h1 : i < n
    · rw [if_pos h1] at h
      have e : i.toNat = j := Option.some.inj h
      exact ⟨by rw [seqIndex_of h0 h1, e], by omega, by omega, h1⟩
    · rw [if_neg h1] at h; cases h
  · rw [if_neg h0] at h
    by_cases h1 : -(n : Int) ≤ i
    · rw [if_pos h1] at h
      have e : (i + n).toNat = j := Option.some.inj h
      exact ⟨by rw [seqIndex_neg (by omega) h1, e], by omega, h1, by omega⟩
    · rw [if_neg h1] at h; cases h
theorem atI_get {α : Type} {xs : List α} {i : Int} {v : α} (h : atI xs i = some v) : ∃ j, seqIndex? i xs.length = some j ∧ xs[j]? = some v ∧ j < xs.length ∧ -(xs.length : Int) ≤ i ∧ i < xs.length := by
  unfold atI at h
  cases e : ixN xs.length i with
  | none => rw [e] at h; cases h
  | some j =>
    rw [e] at h
    obtain ⟨h1, h2, h3, h4⟩ := ixN_seq e
    exact ⟨j, h1, h, h2, h3, h4⟩
theorem atI_nat {α : Type} {xs : List α} {j : Nat} {v : α} (h : xs[j]? = some v) : atI xs (j : Int) = some v := by
  have hj : j < xs.length := (List.getElem?_eq_some_iff.mp h).1
  have e : ixN xs.length (j : Int) = some j := by
    unfold ixN
    rw [if_pos (by omega), if_pos (by omega)]; simp
  unfold atI; rw [e]; exact h

/-! ### what may be subscripted -/
/-- what stands as an index of a plain subscript -/
def PlainIx (b : Expr) : Prop := ∀ o i, subscripted b false o i = operate [o, i] (getItem o i)
/-- a subscript by values -/
def IxR (X : Cx) (r : R2) : Prop :=
  ∀ (value slice : Expr) (pins : List (Addr × Obj)) (s : Shared) (σ : St) (H : Hp) (x y : V) (v u : Value) (Q : VK), Inv X pins σ H s → RelV x v → RelV y u → r x y H Q →
    subscripted slice false v u = operate [v, u] (getItem v u) → wpAny (model X.prog X.w) X.A (subscriptTail value slice v u) (EP X pins σ Q) X.xe s
/-- a call of a builtin's method by values: the receiver, the arguments -/
def MtR (X : Cx) (id : String) (r : V → List V → Hp → VK → Prop) : Prop :=
  ∀ (pins : List (Addr × Obj)) (s : Shared) (σ : St) (H : Hp) (x : V) (xs : List V) (v : Value) (us : List Value) (Q : VK), Inv X pins σ H s → RelV x v → Vals xs us → r x xs H Q →
    wpAny (model X.prog X.w) X.A (call (.builtin id) (v :: us)) (EP X pins σ Q) X.xe s
section
variable {X : Cx} {a b : Expr} {ta tb : TE} {pos : Pos}
theorem IxR.or {r r' : R2} (h : IxR X r) (h' : IxR X r') : IxR X (fun x y H Q => r x y H Q ∨ r' x y H Q) := by
  intro value slice pins s σ H x y v u Q I rx ry q hs
  rcases q with q | q
  · exact h value slice pins s σ H x y v u Q I rx ry q hs
  · exact h' value slice pins s σ H x y v u Q I rx ry q hs
theorem MtR.or {id : String} {r r' : V → List V → Hp → VK → Prop} (h : MtR X id r) (h' : MtR X id r') : MtR X id (fun x xs H Q => r x xs H Q ∨ r' x xs H Q) := by
  intro pins s σ H x xs v us Q I rx rs q
  rcases q with q | q
  · exact h pins s σ H x xs v us Q I rx rs q
  · exact h' pins s σ H x xs v us Q I rx rs q
/-- a[b] -/
theorem pe_ix {r : R2} (hr : IxR X r) (ha : PE X a ta) (hb : PE X b tb) (hs : PlainIx b) : PE X (.Subscript a b pos) (tOp r ta tb) := by
  intro pins s σ H Q I h
  exact Subscript_ (binT ha hb I h fun v u s2 x y H2 I2 rx ry q => hr a b pins s2 σ H2 x y v u Q I2 rx ry q (hs _ _))

def rIxL (K : PySem.W.Frag) : R2 := fun x y H Q => ∃ p xs i v, x = .ref p ∧ y = .int i ∧ SqL K H p xs ∧ atI xs i = some v ∧ Q v H
def rIxT (K : PySem.W.Frag) : R2 := fun x y H Q => ∃ p xs i v, x = .ref p ∧ y = .int i ∧ SqT K H p xs ∧ atI xs i = some v ∧ Q v H
theorem ix_list : IxR X (rIxL X.K) := by
  intro value slice pins s σ H x y v u Q I rx ry h hs
  obtain ⟨p, xs, i, z, rfl, rfl, hq, he, q⟩ := h
  cases rx
  obtain ⟨t, rfl⟩ := ry
  obtain ⟨its, r, pl, hz⟩ := I.list hq
  obtain ⟨j, h1, h2, h3, h4, h5⟩ := atI_get he
  obtain ⟨w, ew, rw'⟩ := r.get h2
  have hl := r.length
  have hn := line63
  have fin : EP X pins σ Q w s := ⟨z, H, I, rw', q⟩
  by_cases h0 : 0 ≤ i
  · have hj : i.toNat = j := by
      rw [seqIndex_of h0 h5] at h1
      exact Option.some.inj h1
    exact item_listR pl.isList h0 (by omega) (by rw [hj]; simpa using ew) fin hs
  · have hj : (i + (its.toArray.size : Int)).toNat = j := by
      rw [seqIndex_neg (by omega) h4] at h1
      rw [List.size_toArray, ← hl]
      exact Option.some.inj h1
    exact subscriptTail_builtinR (x := w) pl.isList.typeIs slot_list_getitem.lookup
      (wpAny_getItem_list_neg (Q := fun r s' => r = w ∧ EP X pins σ Q r s') pl.isList (by omega) (by rw [List.size_toArray] <;> omega) (by omega) (by rw [hj]; simpa using ew) ⟨rfl, fin⟩) hs
theorem ix_tup : IxR X (rIxT X.K) := by
  intro value slice pins s σ H x y v u Q I rx ry h hs
  obtain ⟨p, xs, i, z, rfl, rfl, hq, he, q⟩ := h
  cases rx
  obtain ⟨t, rfl⟩ := ry
  obtain ⟨its, r, pl, hz⟩ := I.tuple hq
  obtain ⟨j, h1, h2, h3, h4, h5⟩ := atI_get he
  obtain ⟨w, ew, rw'⟩ := r.get h2
  have hl := r.length
  have hn := line63
  have fin : EP X pins σ Q w s := ⟨z, H, I, rw', q⟩
  exact subscriptTail_builtinR (x := w) pl.typeIs slot_tuple_getitem.lookup
    (getItem_tuple (j := j) (Q := fun r s' => r = w ∧ EP X pins σ Q r s') pl (by omega) (by omega) (by rw [List.size_toArray, ← hl]; exact h1) (by simpa using ew) ⟨rfl, fin⟩) hs

/-! ### xs[i] = v, any sign -/
/-- the list's object behind a store -/
theorem mapSeq_set (its : List Value) (n j : Nat) (u : Value) : Obj.mapSeq (·.setIfInBounds j u) { cls := .type "list", data := .seq its.toArray n } = { cls := .type "list", data := .seq (its.set j u).toArray n } := by
  simp [Obj.mapSeq]
theorem Inv.lst {pins : List (Addr × Obj)} {σ : St} {H : Hp} {s : Shared} {p : Addr} {xs : List V} (I : Inv X pins σ H s) (h : H p = some (.lst xs)) :
    ∃ (its : List Value) (n : Nat), Vals xs its ∧ s.heap.get? p = some { cls := .type "list", data := .seq its.toArray n } ∧ xs.length ≤ sizeLine := by
  obtain ⟨z, its, n, r, e⟩ := I.hok p _ h
  exact ⟨its, n, r, e, z⟩
/-- the list at p is written by an update of its object -/
theorem Inv.lstUpd {pins : List (Addr × Obj)} {σ : St} {H : Hp} {s : Shared} {p : Addr} {xs ys : List V} {its its' : List Value} {n n' : Nat} {f : Obj → Obj} (I : Inv X pins σ H s) (h : H p = some (.lst xs))
    (ho : s.heap.get? p = some { cls := .type "list", data := .seq its.toArray n }) (hf : f { cls := .type "list", data := .seq its.toArray n } = { cls := .type "list", data := .seq its'.toArray n' }) (r : Vals ys its') (hz : ys.length ≤ sizeLine) (t : Nat) :
    Inv X pins σ (upd H p (.lst ys)) { s with heap := s.heap.update p f, toks := t } := by
  have e : (s.heap.update p f).get? p = some { cls := .type "list", data := .seq its'.toArray n' } := by
    rw [Heap.get?_update_self f ho (by rw [hf] <;> rfl), hf]
  refine I.write (x := p) (e := p) (by rw [h]; trivial) (.inl rfl) (fun b u hb q => (Heap.get?_update_other _ _ (Ne.symm hb)).trans q) ⟨_, e⟩ ?_
  exact ⟨hz, its', n', r, e⟩
def rSetL : V → V → V → Hp → (Hp → Prop) → Prop := fun o i v H Q => ∃ p xs k j, o = .ref p ∧ i = .int k ∧ H p = some (.lst xs) ∧ ixN xs.length k = some j ∧ Q (upd H p (.lst (xs.set j v)))
theorem set_list : PSet X rSetL := by
  intro pins s σ H o i v ov iv u Q I ro ri rv h
  obtain ⟨p, xs, k, j, rfl, rfl, hp, hj, q⟩ := h
  cases ro
  obtain ⟨t, rfl⟩ := ri
  obtain ⟨its, n, r, ho, hz⟩ := I.lst hp
  obtain ⟨h1, h2, h3, h4⟩ := ixN_seq hj
  have hl := r.length
  have hn := line63
  have I' : Inv X pins σ (upd H p (.lst (xs.set j v))) { s with heap := s.heap.update p (Obj.mapSeq (·.setIfInBounds j u)) } :=
    I.lstUpd hp ho (mapSeq_set its n j u) (r.set rv j) (by rw [List.length_set]; exact hz) s.toks
  by_cases h0 : 0 ≤ k
  · have hk : k.toNat = j := by
      rw [seqIndex_of h0 h4] at h1
      exact Option.some.inj h1
    exact PySem.W.ki_setAt ho h0 (by omega) (by rw [List.size_toArray, ← hl]; exact h4) (by rw [hk]; exact ⟨_, I', q⟩)
  · have hk : (k + (its.toArray.size : Int)).toNat = j := by
      rw [seqIndex_neg (by omega) h3] at h1
      rw [List.size_toArray, ← hl]
      exact Option.some.inj h1
    exact PySem.W.ki_setBack ho (by omega) (by rw [List.size_toArray, ← hl]; exact h3) (by omega) (by rw [hk]; exact ⟨_, I', q⟩)

/-! ### slices -/
theorem slice_bounds (lo hi : Option Int) (n : Nat) : (sliceBounds lo hi none n).1 = ((HT.sIx n 0 lo : Nat) : Int) ∧ (sliceBounds lo hi none n).2.1 = ((HT.sIx n n hi : Nat) : Int) ∧ (sliceBounds lo hi none n).2.2 = 1 := by
  refine ⟨?_, ?_, rfl⟩
  · cases lo with
    | none => simp [sliceBounds, HT.sIx]
    | some i =>
      simp only [sliceBounds, HT.sIx, Option.getD_none, show (1 : Int) > 0 by decide, if_true]
      by_cases h : i < 0
      · simp only [h, if_true] <;> omega
      · simp only [h, if_false] <;> omega
  · cases hi with
    | none => simp [sliceBounds, HT.sIx]
    | some i =>
      simp only [sliceBounds, HT.sIx, Option.getD_none, show (1 : Int) > 0 by decide, if_true]
      by_cases h : i < 0
      · simp only [h, if_true] <;> omega
      · simp only [h, if_false] <;> omega
theorem slicePick_cut (its : List Value) (lo hi : Option Int) : slicePick its.toArray lo hi none = ((its.drop (HT.sIx its.length 0 lo)).take (HT.sIx its.length its.length hi - HT.sIx its.length 0 lo)).toArray := by
  obtain ⟨h1, h2, h3⟩ := slice_bounds lo hi its.toArray.size
  unfold slicePick
  rw [h1, h2, h3]
  simp only [sliceRange_one, pick_run, List.size_toArray] <;> rfl
/-- xs[lo:hi] of a list: a new list -/
def rSlL (K : PySem.W.Frag) : V → Option Int → Option Int → Hp → VK → Prop := fun x lo hi H Q => ∃ a xs, x = .ref a ∧ SqL K H a xs ∧ ∀ p, H p = none → Q (.ref p) (upd H p (.lst (cutV xs lo hi)))
theorem sl_list : SlR X (rSlL X.K) := by
  intro pins s σ H x v vl vu lo hi sl Q I rx hs pl pu h
  obtain ⟨a, xs, rfl, hx, q⟩ := h
  cases rx
  obtain ⟨its, r, ht, hz⟩ := I.list hx
  have hlen := r.length
  refine ⟨"list", _, slot_list_getitem.lookup, ht.isList.typeIs, ?_⟩
  refine wpAny_getItem_list_slice ht.isList hs pl pu .none (by simp) ?_ (by rw [List.size_toArray] <;> omega)
  rw [slicePick_cut, ← hlen]
  refine ⟨.ref s.heap.objs.size, _, I.laid (t' := s.toks) (o := .lst (cutV xs lo hi)) (fun b ob q => Heap.get?_push_of_some _ q) (Nat.le_refl _) ?_, rfl, q _ (I.hok.fresh (Nat.le_refl _))⟩
  exact ⟨Nat.le_trans (cutV_length xs lo hi) hz, _, 0, (r.drop (HT.sIx xs.length 0 lo)).take (HT.sIx xs.length xs.length hi - HT.sIx xs.length 0 lo), Heap.get?_push_size _ rfl⟩

/-! ### in, not in: flat items -/
def flatV : V → Bool
  | .non => true
  | .bl _ => true
  | .int _ => true
  | .str _ => true
  | _ => false
/-- == of flat values -/
def eqV : V → V → Bool
  | .non, .non => true
  | .bl a, .bl b => a == b
  | .bl a, .int b => (if a then 1 else 0) == b
  | .int a, .bl b => a == (if b then 1 else 0)
  | .int a, .int b => a == b
  | .str a, .str b => a == b
  | _, _ => false
theorem eqAt_V {A : Around} {s : Shared} {y x : V} {u v : Value} (ry : RelV y u) (rx : RelV x v) (fy : flatV y = true) (fx : flatV x = true) : SeqAt.EqAt A s u v (eqV y x) := by
  cases y with
  | non =>
    cases ry
    cases x with
    | non => cases rx; exact SeqAt.EqAt.same _
    | bl b => cases rx; exact SeqAt.EqAt.none_bool b
    | int b => obtain ⟨t, rfl⟩ := rx; exact SeqAt.EqAt.none_int b t
    | str b => obtain ⟨t, rfl⟩ := rx; exact SeqAt.EqAt.none_str b t
    | _ => exact absurd (show false = true from fx) Bool.false_ne_true
  | bl a =>
    cases ry
    cases x with
    | non => cases rx; exact SeqAt.EqAt.bool_none a
    | bl b => cases rx; exact SeqAt.EqAt.bool_bool a b
    | int b => obtain ⟨t, rfl⟩ := rx; exact SeqAt.EqAt.bool_int a b t
    | str b => obtain ⟨t, rfl⟩ := rx; exact SeqAt.EqAt.bool_str a b t
    | _ => exact absurd (show false = true from fx) Bool.false_ne_true
  | int a =>
    obtain ⟨t', rfl⟩ := ry
    cases x with
    | non => cases rx; exact SeqAt.EqAt.int_none a t'
    | bl b => cases rx; exact SeqAt.EqAt.int_bool a t' b
    | int b => obtain ⟨t, rfl⟩ := rx; exact SeqAt.EqAt.int_int a t' b t
    | str b => obtain ⟨t, rfl⟩ := rx; exact SeqAt.EqAt.int_str a t' b t
    | _ => exact absurd (show false = true from fx) Bool.false_ne_true
  | str a =>
    obtain ⟨t', rfl⟩ := ry
    cases x with
    | non => cases rx; exact SeqAt.EqAt.str_none a t'
    | bl b => cases rx; exact SeqAt.EqAt.str_bool a t' b
    | int b => obtain ⟨t, rfl⟩ := rx; exact SeqAt.EqAt.str_int a t' b t
    | str b => obtain ⟨t, rfl⟩ := rx; exact SeqAt.EqAt.str_str a t' b t
    | _ => exact absurd (show false = true from fx) Bool.false_ne_true
  | _ => exact absurd (show false = true from fy) Bool.false_ne_true
/-- the items' answers, read off the values (a value's own answer does not lean on its token) -/
def eqU (x : V) (u : Value) : Bool := match u with
  | .none => eqV .non x
  | .bool b => eqV (.bl b) x
  | .int i _ => eqV (.int i) x
  | .str z _ => eqV (.str z) x
  | _ => false
theorem eqU_of {x y : V} {u : Value} (r : RelV y u) (f : flatV y = true) : eqU x u = eqV y x := by
  cases y with
  | non => cases r; rfl
  | bl b => cases r; rfl
  | int i => obtain ⟨t, rfl⟩ := r; rfl
  | str z => obtain ⟨t, rfl⟩ := r; rfl
  | _ => exact absurd (show false = true from f) Bool.false_ne_true
theorem any_eqU {x : V} : ∀ {xs : List V} {us : List Value}, Vals xs us → xs.all flatV = true → us.any (eqU x) = xs.any fun y => eqV y x
  | _, _, .nil, _ => rfl
  | y :: xs, u :: us, .cons r t, f => by
    rw [List.all_cons, Bool.and_eq_true] at f
    rw [List.any_cons, List.any_cons, eqU_of r f.1, any_eqU t f.2]
theorem mem_eqAt {A : Around} {s : Shared} {x : V} {v : Value} (rx : RelV x v) (fx : flatV x = true) : ∀ {xs : List V} {us : List Value}, Vals xs us → xs.all flatV = true → ∀ u ∈ us, SeqAt.EqAt A s u v (eqU x u)
  | _, _, .nil, _ => fun u hu => by cases hu
  | y :: xs, u :: us, .cons r t, f => fun u' hu => by
    rw [List.all_cons, Bool.and_eq_true] at f
    rcases List.mem_cons.mp hu with rfl | hu
    · rw [eqU_of r f.1]; exact eqAt_V r rx f.1 fx
    · exact mem_eqAt rx fx t f.2 u' hu
def inV (x : V) (xs : List V) : Bool := xs.any fun y => eqV y x
/-- x in a list or tuple of flat items -/
def rIn (K : PySem.W.Frag) (neg : Bool) : R2 := fun x y H Q => ∃ p xs, y = .ref p ∧ (SqL K H p xs ∨ SqT K H p xs) ∧ flatV x = true ∧ xs.all flatV = true ∧ Q (.bl (if neg then !inV x xs else inV x xs)) H
theorem op_notIn_seq : OpR X (compareOp .NotIn) (rIn X.K true) := by
  intro pins s σ H x y v u Q I rx ry h
  obtain ⟨p, xs, rfl, hq, fx, fs, q⟩ := h
  cases ry
  rcases hq with hq | hq
  · obtain ⟨its, r, pl, hz⟩ := I.list hq
    refine SeqAt.notIn_listAt (eqU x) pl.isList (fun w hw => mem_eqAt rx fx r fs w (by simpa using hw)) ⟨.bl _, H, I, rfl, ?_⟩
    rw [show its.toArray.any (eqU x) = its.any (eqU x) by simp, any_eqU r fs]
    exact q
  · obtain ⟨its, r, pl, hz⟩ := I.tuple hq
    refine SeqAt.notIn_tupleAt (eqU x) pl (fun w hw => mem_eqAt rx fx r fs w (by simpa using hw)) ⟨.bl _, H, I, rfl, ?_⟩
    rw [show its.toArray.any (eqU x) = its.any (eqU x) by simp, any_eqU r fs]
    exact q

/-! ### len, list(x), tuple(x) of any list or tuple that is read -/
theorem call_list_of : CallR X (.type "list") (fun xs H Q => ∃ p ys, xs = [.ref p] ∧ (SqL X.K H p ys ∨ SqT X.K H p ys) ∧ ∀ l, H l = none → Q (.ref l) (upd H l (.lst ys))) := by
  intro pins s σ H xs us Q I r h
  obtain ⟨p, ys, rfl, hq, q⟩ := h
  obtain ⟨u, rfl, rx⟩ := vals1 r
  cases rx
  have fin : ∀ (its : List Value), Vals ys its → ys.length ≤ sizeLine → ∀ (h' : Heap) (c' : Nat), (∀ b o', s.heap.get? b = some o' → h'.get? b = some o') →
      h'.get? s.heap.objs.size = some { cls := .type "list", dict := none, data := .seq its.toArray c', slots := #[] } → EP X pins σ Q (.ref s.heap.objs.size) { s with heap := h' } := fun its r' hz h' c' kp e =>
    ⟨.ref s.heap.objs.size, _, I.laid (t' := s.toks) kp (Nat.le_refl _) (show ObjOk X.prog X.w _ h' _ (.lst ys) from ⟨hz, its, c', r', e⟩), rfl, q _ (I.hok.fresh (Nat.le_refl _))⟩
  rcases hq with hq | hq
  · obtain ⟨its, r', pl, hz⟩ := I.list hq
    have hlen := r'.length
    obtain ⟨o, ho, hc, n, hd⟩ := pl.isList
    exact call_list_seq p (.inl rfl) ho hc hd (fun h' c' kp e => fin its r' hz h' c' kp e) (by simp only [List.size_toArray] <;> omega)
  · obtain ⟨its, r', pl, hz⟩ := I.tuple hq
    have hlen := r'.length
    obtain ⟨o, ho, hc, n, hd⟩ := pl
    exact call_list_seq p (.inr rfl) ho hc hd (fun h' c' kp e => fin its r' hz h' c' kp e) (by simp only [List.size_toArray] <;> omega)

/-! ### the call of a builtin's method: o.m(..) -/
/-- the value is of that builtin type -/
def tyV (K : PySem.W.Frag) (T : String) (x : V) (H : Hp) : Prop := match x with
  | .str _ => T = "str"
  | .int _ => T = "int"
  | .ref p => (T = "list" ∧ ∃ xs, SqL K H p xs) ∨ (T = "tuple" ∧ ∃ o, K.lookup p = some o ∧ o.cls = .type "tuple" ∧ o.dict = none) ∨
      (T = "dict" ∧ ((∃ kvs, H p = some (.dK kvs)) ∨ ∃ kvs, H p = some (.dT kvs))) ∨ (T = "set" ∧ ∃ S n, H p = some (.set S n))
  | _ => False
theorem tyV_is {pins : List (Addr × Obj)} {σ : St} {H : Hp} {s : Shared} {T : String} {x : V} {v : Value} (I : Inv X pins σ H s) (r : RelV x v) (ty : tyV X.K T x H) :
    s.TypeIs v T ∧ ∀ a, v = .ref a → ∃ ob, s.heap.get? a = some ob ∧ ob.dict = none := by
  cases x with
  | str z =>
    obtain ⟨t, rfl⟩ := r
    cases (show T = "str" from ty)
    exact ⟨typeIs_str s z t, fun _ e => nomatch e⟩
  | int i =>
    obtain ⟨t, rfl⟩ := r
    cases (show T = "int" from ty)
    exact ⟨typeIs_int s i t, fun _ e => nomatch e⟩
  | ref p =>
    cases r
    rcases ty with ⟨rfl, xs, hq⟩ | ⟨rfl, o, hk, hc, hd⟩ | ⟨rfl, hk⟩ | ⟨rfl, S, n, hk⟩
    · obtain ⟨its, _, pl, _⟩ := I.list hq
      refine ⟨pl.isList.typeIs, fun a e => ?_⟩
      cases e
      obtain ⟨o, n, e, c, hd, _⟩ := pl
      exact ⟨o, e, hd⟩
    · refine ⟨⟨o, I.kIn p o hk, hc⟩, fun a e => ?_⟩
      cases e
      exact ⟨o, I.kIn _ o hk, hd⟩
    · have z : ∃ o, s.heap.get? p = some o ∧ o.ExactDict := by
        rcases hk with ⟨kvs, hk⟩ | ⟨kvs, hk⟩
        · obtain ⟨_, _, _, _, o, _, _, e, ex, _⟩ := I.hok p _ hk
          exact ⟨o, e, ex⟩
        · obtain ⟨_, _, _, _, o, _, _, e, ex, _⟩ := I.hok p _ hk
          exact ⟨o, e, ex⟩
      obtain ⟨o, e, ex⟩ := z
      refine ⟨⟨o, e, ex.1⟩, fun a e2 => ?_⟩
      cases e2
      exact ⟨o, e, ex.2.1⟩
    · obtain ⟨o, _, _, _, e, ex, _⟩ := I.hok p _ hk
      refine ⟨⟨o, e, ex.1⟩, fun a e2 => ?_⟩
      cases e2
      exact ⟨o, e, ex.2.1⟩
  | _ => exact False.elim ty
def tBM0 (K : PySem.W.Frag) (T : String) (r : V → List V → Hp → VK → Prop) (to : TE) : TE := fun σ H Q => to σ H fun x H1 => tyV K T x H1 ∧ r x [] H1 Q
def tBM (K : PySem.W.Frag) (T : String) (r : V → List V → Hp → VK → Prop) (to : TE) (t : TA) : TE := fun σ H Q => to σ H fun x H1 => tyV K T x H1 ∧ t σ H1 fun xs H2 => r x xs H2 Q
variable {o e : Expr} {es : List Expr} {to : TE} {t : TA} {name : Str} {apos cpos : Pos} {T id : String} {r : V → List V → Hp → VK → Prop}
theorem pe_bm0 (pa : PlainAttrs T) (slot : Slot T name id) (hty : typeOf (.builtin id) = pure (.type "method_descriptor")) (hm : MtR X id r) (ho : PE X o to)
    (hbase : attributeBase o name X.env (eval o X.env) = eval o X.env := by rfl) (hline : (apos.endLine == cpos.line) = true := by rfl) : PE X (.Call (.Attribute o name apos) [] [] cpos) (tBM0 X.K T r to) := by
  intro pins s σ H Q I h
  refine wpAny_Call_method0_late hbase hline (thn (ho pins s σ H _ I h) fun v s1 ⟨x, H1, I1, r1, ty, q1⟩ => ?_)
  obtain ⟨h1, h2⟩ := tyV_is I1 r1 ty
  exact ⟨T, id, pa, slot, hty, h1, h2, Calls.callWith_builtin rfl (PySem.evalArgs_none (hm pins s1 σ H1 x [] v [] Q I1 r1 .nil q1))⟩
theorem pe_bm (pa : PlainAttrs T) (slot : Slot T name id) (hty : typeOf (.builtin id) = pure (.type "method_descriptor")) (hm : MtR X id r) (ho : PE X o to) (ha : PA X (e :: es) t)
    (hbase : attributeBase o name X.env (eval o X.env) = eval o X.env := by rfl)
    (hfew : ((backTo cpos (starEach (e :: es) X.env)).all (fun x => !x.1) && (backToKw cpos (keywordEach [] X.env)).all (fun x => x.1.isSome)
      && decide ((e :: es).length + ([] : List Keyword).length + (if ([] : List Keyword).isEmpty then 0 else 1) < 30)) = true := by rfl)
    (hline : (apos.endLine == cpos.line) = true := by rfl) (hs : starEach (e :: es) X.env = (false, eval e X.env) :: starEach es X.env := by rfl) (hplain : (backTo cpos (starEach es X.env)).any (·.1) = false := by rfl) :
    PE X (.Call (.Attribute o name apos) (e :: es) [] cpos) (tBM X.K T r to t) := by
  intro pins s σ H Q I h
  refine wpAny_Call_method_late hbase hfew hline rfl (thn (ho pins s σ H _ I h) fun v s1 ⟨x, H1, I1, r1, ty, q1⟩ => ?_)
  obtain ⟨h1, h2⟩ := tyV_is I1 r1 ty
  refine ⟨T, id, pa, slot, hty, h1, h2, ?_⟩
  have hA := ha cpos pins s1 σ H1 _ I1 q1
  rw [hs] at hA ⊢
  refine Calls.callWith_builtin (by show (false || (backTo cpos (starEach es X.env)).any (·.1)) = false; rw [hplain] <;> rfl) (Calls.evalArgs_plain ?_)
  exact thn hA fun us s2 ⟨vs, H2, I2, r2, q2⟩ => hm pins s2 σ H2 x vs v us Q I2 r1 r2 q2
/- xs.append(e), list.index on a module's tuple .. are MtR facts of 06m -/
end
end L2

namespace L2
open PySem PySem.Spec PyProof.Rows

def MtM (X : Cx) (id : String) (r : V → List V → Hp → VK → Prop) : Prop :=
  ∀ (pins : List (Addr × Obj)) (s : Shared) (σ : St) (H : Hp) (x : V) (xs : List V) (v : Value) (us : List Value) (Q : VK), Inv X pins σ H s → RelV x v → Vals xs us → r x xs H Q →
    wpAny (model X.prog X.w) X.A (call (.builtin id) (v :: us)) (EP X pins σ Q) X.xe s

/-! ### lists of values -/
theorem Vals.one : ∀ {x : V} {us : List Value}, Vals [x] us → ∃ u, us = [u] ∧ RelV x u
  | _, _, .cons r .nil => ⟨_, rfl, r⟩
theorem Vals.zero : ∀ {us : List Value}, Vals [] us → us = []
  | _, .nil => rfl
theorem Vals.dropLast {xs : List V} {us : List Value} (h : Vals xs us) : Vals xs.dropLast us.dropLast := by
  induction h with
  | nil => exact .nil
  | cons r t ih =>
    cases t with
    | nil => exact .nil
    | cons q t' => exact .cons r ih
theorem Vals.eraseIdx : ∀ {xs : List V} {us : List Value} (i : Nat), Vals xs us → Vals (xs.eraseIdx i) (us.eraseIdx i)
  | _, _, _, .nil => .nil
  | _, _, 0, .cons _ t => t
  | _, _, i + 1, .cons r t => .cons r (Vals.eraseIdx i t)
theorem Vals.rep {xs : List V} {us : List Value} (h : Vals xs us) : ∀ k : Nat, Vals (List.replicate k xs).flatten (List.replicate k us).flatten
  | 0 => .nil
  | k + 1 => by
    rw [List.replicate_succ, List.replicate_succ, List.flatten_cons, List.flatten_cons]
    exact Vals.append h (Vals.rep h k)
theorem erase_last {α : Type} (l : List α) : l.eraseIdx (l.length - 1) = l.dropLast := by
  induction l with
  | nil => rfl
  | cons a r ih =>
    cases r with
    | nil => rfl
    | cons b r =>
      have e : (a :: b :: r).length - 1 = ((b :: r).length - 1) + 1 := by
        have h1 : (a :: b :: r).length = r.length + 2 := rfl
        have h2 : (b :: r).length = r.length + 1 := rfl
        omega
      rw [e, List.eraseIdx_cons_succ, ih]
      all_goals rfl
theorem len_erase {α : Type} : ∀ (l : List α) (i : Nat), (l.eraseIdx i).length ≤ l.length
  | [], _ => Nat.le_refl _
  | _ :: _, 0 => Nat.le_succ _
  | _ :: r, i + 1 => Nat.succ_le_succ (len_erase r i)
theorem foldl_rep (its : List Value) : ∀ (k : Nat) (acc : List Value),
    List.foldl (fun x1 x2 => x1 ++ x2) acc.toArray (List.replicate k its.toArray) = (acc ++ (List.replicate k its).flatten).toArray
  | 0, acc => by simp
  | k + 1, acc => by
    have e : acc.toArray ++ its.toArray = (acc ++ its).toArray := by simp
    have e2 : (acc ++ its) ++ (List.replicate k its).flatten = acc ++ (List.replicate (k + 1) its).flatten := by
      rw [List.replicate_succ, List.flatten_cons, List.append_assoc]
    rw [← e2, ← foldl_rep its k (acc ++ its), ← e, List.replicate_succ, List.foldl_cons]

section
variable {X : Cx} {pins : List (Addr × Obj)} {σ : St} {H : Hp} {s : Shared} {l b : Addr} {xs ys zs : List V}

/-! ### the two steps: a tracked list is rewritten, a new list is laid -/
theorem Inv.lset {its its' : List Value} {n : Nat} {f : Array Value → Array Value} {t' : Nat} (I : Inv X pins σ H s) (hH : H l = some (.lst xs))
    (e : s.heap.get? l = some { cls := .type "list", data := .seq its.toArray n }) (hf : f its.toArray = its'.toArray) (hv : Vals ys its') (hz : ys.length ≤ sizeLine) :
    Inv X pins σ (upd H l (.lst ys)) { s with heap := s.heap.update l (Obj.mapSeq f), toks := t' } := by
  have q := PySem.IsL.update e f
  rw [hf] at q
  refine I.write (x := l) (e := l) (by rw [hH]; exact trivial) (.inl rfl) (fun b' u hb hu => (Heap.get?_update_other s.heap (Obj.mapSeq f) (Ne.symm hb)).trans hu) ⟨_, q⟩ ?_
  exact ⟨hz, its', _, hv, q⟩
theorem Inv.lnew {its : List Value} {t' : Nat} (I : Inv X pins σ H s) (hv : Vals ys its) (hz : ys.length ≤ sizeLine) :
    Inv X pins σ (upd H s.heap.objs.size (.lst ys)) { s with heap := s.heap.push { cls := .type "list", data := .seq its.toArray }, toks := t' } :=
  I.laid (fun _ _ q => Heap.get?_push_of_some _ q) (Nat.le_refl _) ⟨hz, its, 0, hv, Heap.get?_push_size _ rfl⟩
theorem Inv.fresh (I : Inv X pins σ H s) : H s.heap.objs.size = none := I.hok.fresh (Nat.le_refl _)
theorem Inv.lstM (I : Inv X pins σ H s) (hH : H l = some (.lst xs)) : xs.length ≤ sizeLine ∧ ∃ (its : List Value) (n : Nat), Vals xs its ∧ xs.length = its.length ∧ s.heap.get? l = some { cls := .type "list", data := .seq its.toArray n } := by
  obtain ⟨z, its, n, r, e⟩ := I.hok l _ hH
  exact ⟨z, its, n, r, r.length, e⟩

theorem notLongL {n : Nat} (h : n ≤ sizeLine) : Builtin.List.listTooLong n = false := by
  unfold Builtin.List.listTooLong
  exact decide_eq_false (by omega)
end

section
variable {X : Cx}

/-! ### methods -/
def rAppend : V → List V → Hp → VK → Prop := fun x vs H Q => ∃ l xs y, x = .ref l ∧ vs = [y] ∧ H l = some (.lst xs) ∧ xs.length < sizeLine ∧ Q .non (upd H l (.lst (xs ++ [y])))
theorem mt_append : MtM X "list.append" rAppend := by
  intro pins s σ H x vs v us Q I rx rv h
  obtain ⟨l, xs, y, rfl, rfl, hH, hz, q⟩ := h
  cases rx
  obtain ⟨u, rfl, ru⟩ := rv.one
  obtain ⟨z, its, n, r, hl, e⟩ := I.lstM hH
  refine call_meets F.slot_list_append ⟨_, e, rfl⟩ F.entry_list_append (F.args_list_append_2 _ _) (PySem.list_append l its.toArray n u (by rw [List.size_toArray]; omega)) ⟨e, ?_⟩
  refine ⟨.non, _, I.lset (its' := its ++ [u]) hH e (by simp) (r.append (.cons ru .nil)) ?_, rfl, q⟩
  rw [List.length_append, List.length_singleton]
  omega


def rPop : V → List V → Hp → VK → Prop := fun x vs H Q => ∃ l xs y, x = .ref l ∧ vs = [] ∧ H l = some (.lst xs) ∧ xs[xs.length - 1]? = some y ∧ Q y (upd H l (.lst xs.dropLast))
theorem mt_pop : MtM X "list.pop" rPop := by
  intro pins s σ H x vs v us Q I rx rv h
  obtain ⟨l, xs, y, rfl, rfl, hH, hy, q⟩ := h
  cases rx
  have hus := rv.zero
  subst hus
  obtain ⟨z, its, n, r, hl, e⟩ := I.lstM hH
  obtain ⟨u, hu, ru⟩ := r.get hy
  have hy' : its.toArray[its.toArray.size - 1]? = some u := by
    show its.toArray[its.length - 1]? = some u
    rw [← Array.getElem?_toList, ← hl]
    exact hu
  refine call_meets F.slot_list_pop ⟨_, e, rfl⟩ F.entry_list_pop (F.args_list_pop_1 _) (MeetsSeq.list_pop_last l its.toArray n u hy' (by rw [List.size_toArray]; omega)) ⟨e, ?_⟩
  refine ⟨y, _, I.lset (its' := its.dropLast) hH e ?_ r.dropLast ?_, ru, q⟩
  · show its.toArray.eraseIdxIfInBounds (its.toArray.size - 1) = its.dropLast.toArray
    rw [List.size_toArray, List.eraseIdxIfInBounds_toArray, erase_last]
  · rw [List.length_dropLast]
    omega

def rPopAt : V → List V → Hp → VK → Prop := fun x vs H Q => ∃ l xs i k y, x = .ref l ∧ vs = [.int i] ∧ H l = some (.lst xs) ∧ -(2 ^ 63) ≤ i ∧ i < 2 ^ 63 ∧ seqIndex? i xs.length = some k ∧ xs[k]? = some y ∧ Q y (upd H l (.lst (xs.eraseIdx k)))
theorem mt_popAt : MtM X "list.pop" rPopAt := by
  intro pins s σ H x vs v us Q I rx rv h
  obtain ⟨l, xs, i, k, y, rfl, rfl, hH, h1, h2, hk, hy, q⟩ := h
  cases rx
  obtain ⟨u, rfl, ru⟩ := rv.one
  obtain ⟨t, rfl⟩ := ru
  obtain ⟨z, its, n, r, hl, e⟩ := I.lstM hH
  obtain ⟨w, hw, rw'⟩ := r.get hy
  refine call_meets F.slot_list_pop ⟨_, e, rfl⟩ F.entry_list_pop (F.args_list_pop_2 _ _)
    (MeetsSeq.list_pop_at l its.toArray n i t k w (fitsIndex_both h1 h2) (by rw [List.size_toArray, ← hl]; exact hk) (by rw [← Array.getElem?_toList]; exact hw) (by rw [List.size_toArray]; omega)) ⟨e, ?_⟩
  refine ⟨y, _, I.lset (its' := its.eraseIdx k) hH e ?_ (r.eraseIdx k) ?_, rw', q⟩
  · show its.toArray.eraseIdxIfInBounds k = (its.eraseIdx k).toArray
    rw [List.eraseIdxIfInBounds_toArray]
  · have := len_erase xs k
    omega


def rClear : V → List V → Hp → VK → Prop := fun x vs H Q => ∃ l xs, x = .ref l ∧ vs = [] ∧ H l = some (.lst xs) ∧ Q .non (upd H l (.lst []))
theorem mt_clear : MtM X "list.clear" rClear := by
  intro pins s σ H x vs v us Q I rx rv h
  obtain ⟨l, xs, rfl, rfl, hH, q⟩ := h
  cases rx
  have hus := rv.zero
  subst hus
  obtain ⟨z, its, n, r, hl, e⟩ := I.lstM hH
  refine call_meets F.slot_list_clear ⟨_, e, rfl⟩ F.entry_list_clear (F.args_list_clear_1 _) (AutoSeq1.list_clear_list_0 l its.toArray n (by rw [List.size_toArray]; omega)) ⟨e, ?_⟩
  exact ⟨.non, _, I.lset (its' := []) (ys := []) hH e rfl .nil (Nat.zero_le _), rfl, q⟩

/-! ### list + list, list += list, list * int -/
def rCat : R2 := fun x y H Q => ∃ l b xs zs, x = .ref l ∧ y = .ref b ∧ H l = some (.lst xs) ∧ H b = some (.lst zs) ∧ xs.length + zs.length ≤ sizeLine ∧ ∀ p, H p = none → Q (.ref p) (upd H p (.lst (xs ++ zs)))
theorem op_cat : OpR X (binaryOp .Add) rCat := by
  intro pins s σ H x y v u Q I rx ry h
  obtain ⟨l, b, xs, zs, rfl, rfl, hH, hB, hz, q⟩ := h
  cases rx
  cases ry
  obtain ⟨z, its, n, r, hl, e⟩ := I.lstM hH
  obtain ⟨z2, its2, n2, r2, hl2, e2⟩ := I.lstM hB
  refine PySem.P.add_list e e2 ?_ (by rw [List.size_toArray, List.size_toArray]; omega)
  have ea : its.toArray ++ its2.toArray = (its ++ its2).toArray := by simp
  rw [ea]
  exact ⟨.ref _, _, I.lnew (t' := s.toks) (r.append r2) (by rw [List.length_append]; omega), rfl, q _ I.fresh⟩
/-- a list times an int (a negative one is nothing) -/
def rRep : R2 := fun x y H Q => ∃ l k xs, x = .ref l ∧ y = .int k ∧ H l = some (.lst xs) ∧ -(2 ^ 63) ≤ k ∧ k < 2 ^ 63 ∧ xs.length * k.toNat ≤ sizeLine ∧
  ∀ p, H p = none → Q (.ref p) (upd H p (.lst (List.replicate k.toNat xs).flatten))
theorem len_rep {α : Type} (xs : List α) (k : Nat) : (List.replicate k xs).flatten.length = k * xs.length := by
  induction k with
  | zero => simp
  | succ k ih => rw [List.replicate_succ, List.flatten_cons, List.length_append, ih, Nat.succ_mul, Nat.add_comm]
theorem op_rep : OpR X (binaryOp .Mult) rRep := by
  intro pins s σ H x y v u Q I rx ry h
  obtain ⟨l, k, xs, rfl, rfl, hH, h1, h2, hz, q⟩ := h
  cases rx
  obtain ⟨t, rfl⟩ := ry
  obtain ⟨z, its, n, r, hl, e⟩ := I.lstM hH
  have hlen : its.toArray.size * k.toNat ≤ sizeLine := by rw [List.size_toArray, ← hl]; exact hz
  have hcap : ¬ its.toArray.size * k.toNat > (2 ^ 63 - 1) / 8 := by
    have : (sizeLine : Nat) ≤ (2 ^ 63 - 1) / 8 := by decide
    omega
  have hfit : ¬ (!Builtin.List.listFitsIndex k) = true := by
    rw [fitsIndex_both h1 h2]
    exact Bool.false_ne_true
  have hlong : ¬ Builtin.List.listTooLong (its.toArray.size * k.toNat) = true := by
    rw [notLongL hlen]
    exact Bool.false_ne_true
  have hnew : List.foldl (fun x1 x2 => x1 ++ x2) #[] (List.replicate (if its.toArray.isEmpty = true then 0 else k.toNat) its.toArray) = (List.replicate k.toNat its).flatten.toArray := by
    have f0 : ∀ m : Nat, List.foldl (fun x1 x2 => x1 ++ x2) #[] (List.replicate m its.toArray) = (List.replicate m its).flatten.toArray := fun m => by
      have := foldl_rep its m []
      rw [List.nil_append] at this
      exact this
    rw [f0]
    cases its with
    | nil => simp
    | cons a r' => rw [if_neg (by simp)]
  refine wpAny_binaryOp_repeat_ref (T := "list") (U := "int") (by decide) ⟨_, e, rfl⟩ (fun s' => typeIs_int s' k t) noFill_list_mul F.fills_int_mul F.slot_int_rmul repeat_list F.slot_int_index.lookup
    (call_meets F.slot_int_rmul (typeIs_int s k t) F.entry_int_rmul (F.args_int_rmul_2 _ _) (int___rmul___int_list k t l its.toArray n)
      ⟨e, rfl, ⟨_, e, rfl⟩, call_meets F.slot_list_mul ⟨_, e, rfl⟩ F.entry_list_mul (F.args_list_mul_2 _ _) (AutoListH.list___mul___list_int_3 l its.toArray n k t hfit hcap hlong) ⟨e, ?_⟩⟩)
  rw [hnew]
  exact ⟨.ref _, _, I.lnew (t' := s.toks) (r.rep k.toNat) (by rw [len_rep, Nat.mul_comm]; exact hz), rfl, q _ I.fresh⟩

/-! ### del xs[i] -/
end

/-! ### xs[a:b] = ys -/
section
variable {prog : Program} {w : World} {A : Around} {E : Value → Shared → Prop} {s : Shared}
set_option maxRecDepth 100000 in
end

section
variable {X : Cx}
end
end L2

namespace Att
open PySem PySem.W PySem.Calls PyProof.Rows

/-! ### the script -/
theorem ints_of_wellAll {P : Params} {h : Heap} : ∀ (ns : List Int) (vs : List Value), WellAll P h vs (ns.map WData.int) → IntsAre vs ns := by
  intro ns
  induction ns with
  | nil =>
    intro vs w
    rw [List.map_nil] at w
    cases w
    exact .nil
  | cons n ns ih =>
    intro vs w
    rw [List.map_cons] at w
    cases w with
    | cons a b =>
      cases a
      exact .cons _ _ (ih _ b)

theorem script_of {l : OpenLaw} {n : Nat} (hn : l.most = some n) {P : Params} {h : Heap} {args : List WData} {vals : List Value}
    (hpre : l.row.toRowW.claim.pre args = true) (hwl : WellAll P h vals args) :
    ∃ a vs ns, vals = [Value.ref a] ∧ args = [WData.list (ns.map WData.int)] ∧ h.get? a = some { cls := .type "list", data := .seq vs.toArray } ∧ IntsAre vs ns ∧ ns.length ≤ n := by
  have hsh : WShape.hasAll [] args [.list .int] = true := (pre_splitW hpre).1
  have hc : l.pre.holds [] { args := args } = true := (pre_splitW hpre).2
  obtain ⟨d, r, rfl, h1, h2⟩ := hasAllW_cons hsh
  obtain rfl := hasAllW_nil h2
  obtain ⟨xs, rfl, h3⟩ := hasW_list h1
  obtain ⟨ns, rfl⟩ := items_int h3
  have hlen : ns.length ≤ n := by
    unfold OpenLaw.pre at hc
    have h4 : (WTm.not (.lt (.lit (.int (n : Int))) (.len (.arg 0)))).holds [] { args := [.list (ns.map .int)] } = true := by
      have h4 := (holds_andW hc).1
      rw [hn] at h4
      exact h4
    have h5 := condW_of h4 (w_not (w_lt w_lit (w_len_list (w_arg rfl))))
    rw [List.length_map] at h5
    refine Nat.le_of_not_lt fun q => ?_
    have q' : (n : Int) < ((ns.length : Nat) : Int) := by omega
    first
      | (rw [decide_eq_true q'] at h5; exact absurd h5 (by decide))
      | (simp at h5; omega)
  cases hwl with
  | cons w1 w2 =>
    cases w2
    cases w1 with
    | list ho hall => exact ⟨_, _, ns, rfl, rfl, ho, ints_of_wellAll ns _ hall, hlen⟩

theorem post_true (l : OpenLaw) (args : List WData) : l.row.toRowW.claim.post args (.bool true) args = true :=
  postW_of (r := l.row.toRowW) (X := (true == true))
    (show WShape.has [] (.bool true) .bool = true by first | rfl | decide | simp [WShape.has, WShape.arms, WShape.armsAll])
    (show (WTm.eq .res (.lit (.bool true))).value [] { args := args, res := some (.bool true), after := args } = some (.bool (true == true)) from w_eq_bool (w_res rfl) w_lit) rfl

/-! ### the attachment: holds_open's last premise (the goal 'hc' behind k_head) from a wpAny of the law's body -/

/-- the same from a codeAny of the CALL (for a layer whose function contracts speak of calls) -/
theorem attach_call {l : OpenLaw} {n : Nat} {q : Program} {loose : List Str} {XP : (Str → Option Value) → Heap → Prop} {YP : World → Heap → Prop} {d : DefRec}
    (hn : l.most = some n) (hdf : d.params.defaults = [])
    (call : ∀ (w : World) (s₀ s₁ : Shared) (mg mb : Str → Option Value) (fa : Addr) (o : Obj) (pm cd doc : Value) (a : Addr) (vs : List Value) (ns : List Int),
      Ground q loose [] XP w s₀ mg mb s₁.heap → YP w s₁.heap →
      s₁.heap.get? fa = some o → o.data = .func (docDef d.name d.params d.body d.scope pm cd doc) → s₁.heap.CodeRec cd d.name → mg d.name = some (.ref fa) →
      s₁.heap.get? a = some { cls := .type "list", data := .seq vs.toArray } → IntsAre vs ns → ns.length ≤ n → s₁.gens = #[] →
      codeAny (model l.prog w) callerA (.call (.ref fa) ⟨[.ref a], []⟩) (fun r s' => r = .ok (.ret (.bool true)) ∧ OldK s₁.heap s'.heap ∧ s'.os = s₁.os ∧ AllBare s'.gens) s₁) :
    WalkO q loose XP YP l.row.toRowW d [] (fun f vs => PySem.call f vs) := by
  intro w s₀ s₁ mg mb G Y fa o pm cd doc dV kV ho hd hcd hD hmg hg args vals as hpre hlay hrd hwl hlo
  obtain rfl : dV = .none := Dflts.none hD hdf
  obtain rfl : kV = .none := Dflts.noKw hD
  obtain ⟨a, vs, ns, rfl, rfl, hobj, hints, hlen⟩ := script_of hn hpre hwl
  refine enter_call (codeAny_mono (call w s₀ s₁ mg mb fa o pm cd doc a vs ns G Y ho (fd_plain hd) hcd hmg hobj hints hlen hg) fun r s' hq => ?_)
  obtain ⟨rfl, h2, h3, h4⟩ := hq
  exact ⟨.inl ⟨.bool true, .bool true, [], rfl, fun _ => rfl, .bool true, post_true l _, fun _ => ⟨List.Pairwise.nil, fun _ hm => (nomatch hm)⟩⟩, h2, h3, h4⟩


/-! ### rules over ANY heap (no ledger) from facts about the written part K: the library's own take a ledger (News) for what they write -/
section
variable {prog : Program} {w : World} {A : Around} {E : Value → Shared → Prop} {s : Shared} {K : Frag}





/-! the whole heap as the ledger: makes every rule that writes through a ledger a rule over any heap -/

end
end Att

namespace L2
open PySem PySem.Spec PyProof.Rows

theorem vals_ints : ∀ {vs : List Value} {ns : List Int}, IntsAre vs ns → Vals (ns.map V.int) vs
  | _, _, .nil => .nil
  | _, _, .cons n t h => .cons ⟨t, rfl⟩ (vals_ints h)



end L2

/-! SHORT WORDS over the layer: a def of the text, its body, what a loop and a test want. -/
namespace L2
open PySem PySem.Spec PyProof.Rows

/-! ### the text by places -/
/-- the j-th statement of a class's body -/
def inClass (s : Stmt) (j : Nat) : Stmt := match s with
  | .ClassDef _ _ _ body _ _ _ _ _ _ _ => body.getD j (.Pass ⟨0, 0, 0, 0⟩)
  | _ => .Pass ⟨0, 0, 0, 0⟩
def defArgs (s : Stmt) : Arguments := match s with
  | .FunctionDef _ a _ _ _ _ _ _ _ _ => a
  | _ => { posonlyargs := [], args := [], vararg := none, kwonlyargs := [], kw_defaults := [], kwarg := none, defaults := [] }
def defBody (s : Stmt) : List Stmt := match s with
  | .FunctionDef _ _ b _ _ _ _ _ _ _ => b
  | _ => []
def defScope (s : Stmt) : Scope := match s with
  | .FunctionDef _ _ _ _ _ _ sc _ _ _ => sc
  | _ => { kind := .function, names := [], isGenerator := false, isCoroutine := false }

/-! ### no exception leaves a def -/
abbrev CX0 : CXT := fun _ _ _ _ _ _ => False
abbrev E0 : XK := fun _ _ _ => False
theorem pass0 {X : Cx} : Passes CX0 X E0 := fun _ _ _ _ _ _ _ h => h.elim

/-! ### a def (or method) of the text as it stands behind the top -/
structure Fun (K : PySem.W.Frag) (x qual : Str) (st : Stmt) (f : Addr) (fd : FuncData) : Prop where
  ex : ∃ (oc : Value) (od : Option Addr) (kV doc pm : Value) (an : Option Addr) (cdv ct : Value) (osl : Array (Option Value)),
    fd = PySem.W.fnOf x qual (defArgs st) (defBody st) (defScope st) .none kV doc pm an cdv ct ∧ K.lookup f = some ⟨oc, od, .func fd, osl⟩ ∧ PySem.W.codeIn K cdv qual = true
  kp : PySem.W.keepIn K (.ref f) = true
section
variable {P : Program} {w : World} {K : PySem.W.Frag} {mg : Str → Option Value} {base : Heap}
/-- THE RULE for a def: its body as a term of rules, and the reading of that term -/
theorem Fun.ok {x qual : Str} {st : Stmt} {f : Addr} {fd : FuncData} {N ps : List Str} {k : Nat} {sp : Sp} (F : Fun K x qual st f fd) (S : FnScope N ps (defScope st)) (len : ∀ vs H Q E, sp vs H Q E → vs.length = ps.length)
    (hbody : ∀ (cdv : Value) (A : Around) (outer : List Env) (s : Shared) (H : Hp) (vs : List V) (Q : VK) (E : XK), Room k (A.deeper (envOfC qual (defScope st) s.heap.objs.size f cdv)) → sp vs H Q E →
      ∃ t, PSs (cxOf CX0 P w K mg base N qual (defScope st) f cdv A outer s H E).nox (defBody st) t ∧ t { nx := fun _ H' => Q .non H', rt := Q } (start N vs) H) : FnOk P w K mg base CX0 (k + 1) f fd ps sp := by
  obtain ⟨oc, od, kV, doc, pm, an, cdv, ct, osl, rfl, lk, hcd⟩ := F.ex
  refine fn_of lk hcd S len fun A outer s H vs Q E hr hsp => ?_
  obtain ⟨t, h, q⟩ := hbody cdv A outer s H vs Q E hr hsp
  exact ⟨t, h.nox, q⟩
/-- how its arguments bind (no defaults): h is «fun _ _ _ _ _ _ us hl => match us, hl with | [_, _], _ => rfl», one _ a parameter -/
theorem Fun.binds {x qual : Str} {st : Stmt} {f : Addr} {fd : FuncData} {ps : List Str} (F : Fun K x qual st f fd)
    (h : ∀ (kV doc pm : Value) (an : Option Addr) (cdv ct : Value) (us : List Value), us.length = ps.length → bindArgs (PySem.W.fnOf x qual (defArgs st) (defBody st) (defScope st) .none kV doc pm an cdv ct) ⟨us, []⟩ = pure (ps.zip us)) : Binds K fd ps [] := by
  obtain ⟨oc, od, kV, doc, pm, an, cdv, ct, osl, rfl, lk, hcd⟩ := F.ex
  exact .all (h kV doc pm an cdv ct)
theorem fun_mk {x qual : Str} {st : Stmt} {f : Addr} {oc : Value} {od an : Option Addr} {osl : Array (Option Value)} {kV doc pm cdv ct : Value} (l : K.lookup f = some ⟨oc, od, .func (PySem.W.fnOf x qual (defArgs st) (defBody st) (defScope st) .none kV doc pm an cdv ct), osl⟩)
    (c : PySem.W.codeIn K cdv qual = true) (k : PySem.W.keepIn K (.ref f) = true) : Fun K x qual st f (PySem.W.fnOf x qual (defArgs st) (defBody st) (defScope st) .none kV doc pm an cdv ct) := ⟨⟨oc, od, kV, doc, pm, an, cdv, ct, osl, rfl, l, c⟩, k⟩
end
theorem hu_of {A : Around} {k : Nat} (hr : Room k A) : A.units + 1 < cLine := Nat.lt_of_le_of_lt (Nat.add_le_add_left (by decide : 1 ≤ 64) _) hr.units
theorem small1000 {n : Nat} (h : n ≤ 1000) : n < sizeLine := Nat.lt_of_le_of_lt h (by decide)

/-! ### expressions in short: the name that stands in the i-th slot -/
section
variable {X : Cx}
theorem pv (i : Nat) {x : Str} {pos : Pos} (hN : X.N[i]? = some x := by rfl) (hv : Vis X.env.scope x := by first | exact Or.inl rfl | exact Or.inr (Or.inl rfl) | exact Or.inr (Or.inr rfl)) (hd : (x == ("__debug__" : Str)) = false := by decide)
    (hcd : (x == ("__classdict__" : Str)) = false := by decide) : PE X (.Name x pos) (tVar i) := pe_var hN hv hd hcd
end

/-! ### tests -/
theorem iteF {A B : Prop} (h : B) : if false = true then A else B := by
  rw [if_neg Bool.false_ne_true]
  exact h
theorem iteT {A B : Prop} (h : A) : if true = true then A else B := by
  rw [if_pos rfl]
  exact h
theorem iteNS {c A B : Prop} [Decidable c] (hc : c) (h : B) : if (!decide c) = true then A else B := by
  rw [decide_eq_true hc]
  exact iteF h

/-! ### heaps -/
/-- all that was tracked is as it was -/
def Same (H H' : Hp) : Prop := ∀ b o, H b = some o → H' b = some o
theorem Same.refl (H : Hp) : Same H H := fun _ _ h => h
theorem Same.trans {H H1 H2 : Hp} (a : Same H H1) (b : Same H1 H2) : Same H H2 := fun c o h => b c o (a c o h)
theorem Same.free {H H' : Hp} (e : Same H H') {l : Addr} (h : H' l = Option.none) : H l = Option.none := by
  cases q : H l with
  | none => rfl
  | some o =>
    rw [e l o q] at h
    cases h
theorem Same.seq {K : PySem.W.Frag} {H H' : Hp} {a : Addr} {xs : List V} (e : Same H H') (h : SqL K H a xs) : SqL K H' a xs := by
  rcases h with (h | ⟨o, h⟩) | h
  · exact .inl (.inl (e _ _ h))
  · exact .inl (.inr ⟨o, e _ _ h⟩)
  · exact .inr h

end L2
/-! Comprehensions over the hand layer: [elt for tg in iter (if test)]. -/
namespace L2
open PySem PySem.Spec PyProof.Rows

/-! ### the cells that the block is handed -/
def compCl (env : Env) : List (Str × NameKind) → List (Str × Addr) → List (Str × Addr)
  | [], acc => acc
  | (n, k) :: r, acc => compCl env r (if k == .free then (n, (env.cells.lookup n).getD 0) :: acc else acc)

theorem closure_go {env : Env} : ∀ (l : List (Str × NameKind)) (acc : List (Str × Addr)), (∀ y ∈ l, y.2 = .free → ∃ c, env.cells.lookup y.1 = some c) →
    (forIn l acc fun (x : Str × NameKind) (cs : List (Str × Addr)) => (if x.2 == .free then (do let c ← cellOf env x.1; pure (ForInStep.yield ((x.1, c) :: cs))) else pure (ForInStep.yield cs) : Sem (ForInStep (List (Str × Addr))))) = pure (compCl env l acc)
  | [], acc, _ => by rw [List.forIn_nil]; rfl
  | (n, k) :: r, acc, h => by
    have ih := fun a => closure_go (env := env) r a fun y hy => h y (List.mem_cons_of_mem _ hy)
    rw [List.forIn_cons]
    by_cases e : (k == NameKind.free) = true
    · obtain ⟨c, hc⟩ := h (n, k) List.mem_cons_self (by simpa using e)
      have hc' : env.cells.lookup n = some c := hc
      have hcell : cellOf env n = pure c := by unfold cellOf; rw [hc']
      simp only [e, if_true, hcell, pure_bind]
      rw [ih]
      show _ = pure (compCl env r (if k == .free then (n, (env.cells.lookup n).getD 0) :: acc else acc))
      rw [if_pos e, hc']
      rfl
    · simp only [e, if_false, pure_bind, Bool.false_eq_true]
      rw [ih]
      show _ = pure (compCl env r (if k == .free then (n, (env.cells.lookup n).getD 0) :: acc else acc))
      rw [if_neg e]
theorem closure_eq {env : Env} {scope : Scope} (h : ∀ y ∈ scope.names, y.2 = .free → ∃ c, env.cells.lookup y.1 = some c) : closureFor scope env = pure (compCl env scope.names []) := by
  have q := closure_go (env := env) scope.names [] h
  unfold closureFor
  simp only [bind_pure]
  exact q
theorem look_cons {n x : Str} {c : Addr} {l : List (Str × Addr)} : ((n, c) :: l).lookup x = if x == n then some c else l.lookup x := by
  rw [List.lookup_cons]
  cases x == n <;> rfl
theorem compCl_look {env : Env} : ∀ (l : List (Str × NameKind)) (acc : List (Str × Addr)) (x : Str) (c : Addr), (∀ y ∈ l, y.2 = .free → ∃ c, env.cells.lookup y.1 = some c) → (compCl env l acc).lookup x = some c → acc.lookup x = some c ∨ env.cells.lookup x = some c
  | [], acc, x, c, _, e => .inl e
  | (n, k) :: r, acc, x, c, h, e => by
    have ih := compCl_look (env := env) r _ x c (fun y hy => h y (List.mem_cons_of_mem _ hy)) (show (compCl env r (if k == .free then (n, (env.cells.lookup n).getD 0) :: acc else acc)).lookup x = some c from e)
    rcases ih with ih | ih
    · by_cases ek : (k == NameKind.free) = true
      · rw [if_pos ek, look_cons] at ih
        by_cases ex : (x == n) = true
        · rw [if_pos ex] at ih
          obtain ⟨c', hc⟩ := h (n, k) List.mem_cons_self (by simpa using ek)
          have hc' : env.cells.lookup n = some c' := hc
          rw [hc'] at ih
          have e1 : c' = c := Option.some.inj ih
          have e2 : x = n := by simpa using ex
          exact .inr (by rw [e2, hc', e1])
        · rw [if_neg ex] at ih
          exact .inl ih
      · rw [if_neg ek] at ih
        exact .inl ih
    · exact .inr ih
theorem compCl_keep {env : Env} : ∀ (l : List (Str × NameKind)) (acc : List (Str × Addr)) (x : Str), (∃ c, acc.lookup x = some c) → ∃ c, (compCl env l acc).lookup x = some c
  | [], acc, x, h => h
  | (n, k) :: r, acc, x, ⟨c, h⟩ => by
    refine compCl_keep (env := env) r (if k == .free then (n, (env.cells.lookup n).getD 0) :: acc else acc) x ?_
    by_cases ek : (k == NameKind.free) = true
    · rw [if_pos ek, look_cons]
      by_cases ex : (x == n) = true
      · rw [if_pos ex]; exact ⟨_, rfl⟩
      · rw [if_neg ex]; exact ⟨c, h⟩
    · rw [if_neg ek]; exact ⟨c, h⟩
theorem compCl_has {env : Env} : ∀ (l : List (Str × NameKind)) (acc : List (Str × Addr)) (x : Str), (x, NameKind.free) ∈ l → ∃ c, (compCl env l acc).lookup x = some c
  | [], acc, x, h => by cases h
  | (n, k) :: r, acc, x, h => by
    rcases List.mem_cons.mp h with e | e
    · obtain ⟨e1, e2⟩ := Prod.mk.inj e
      refine compCl_keep (env := env) r _ x ?_
      rw [if_pos (show (k == NameKind.free) = true from by rw [← e2]; rfl), look_cons, if_pos (show (x == n) = true from by rw [e1]; simp)]
      exact ⟨_, rfl⟩
    · exact compCl_has (env := env) r _ x e

/-! ### the block's names -/
abbrev relN (env : Env) (l : List (Str × NameKind)) : List (Str × NameKind) := l.map fun (n, k) => if (k == NameKind.free && env.scope.kind == .function && env.kindOf n == some .cell) then (n, NameKind.cell) else (n, k)
theorem relN_cons {env : Env} {n x : Str} {k : NameKind} {r : List (Str × NameKind)} :
    (relN env ((n, k) :: r)).lookup x = if x == n then some (if (k == NameKind.free && env.scope.kind == .function && env.kindOf n == some .cell) then NameKind.cell else k) else (relN env r).lookup x := by
  show List.lookup x ((if (k == NameKind.free && env.scope.kind == .function && env.kindOf n == some .cell) = true then (n, NameKind.cell) else (n, k)) :: relN env r) = _
  by_cases hc : (k == NameKind.free && env.scope.kind == .function && env.kindOf n == some .cell) = true
  · rw [if_pos hc, if_pos hc, List.lookup_cons]
    cases x == n <;> rfl
  · rw [if_neg hc, if_neg hc, List.lookup_cons]
    cases x == n <;> rfl
theorem lk_cons {n x : Str} {k : NameKind} {r : List (Str × NameKind)} : ((n, k) :: r).lookup x = if x == n then some k else r.lookup x := by
  rw [List.lookup_cons]
  cases x == n <;> rfl
theorem relN_free {env : Env} : ∀ {l : List (Str × NameKind)} {x : Str}, l.lookup x = some .free → (relN env l).lookup x = some .cell ∨ (relN env l).lookup x = some .free
  | [], x, h => by cases h
  | (n, k) :: r, x, h => by
    rw [lk_cons] at h
    rw [relN_cons]
    by_cases ex : (x == n) = true
    · rw [if_pos ex] at h ⊢
      have hk : k = .free := Option.some.inj h
      subst hk
      split
      · exact .inl rfl
      · exact .inr rfl
    · rw [if_neg ex] at h ⊢
      exact relN_free h
theorem relN_inv {env : Env} : ∀ {l : List (Str × NameKind)} {x : Str}, (∀ y ∈ l, y.2 ≠ .cell) → ((relN env l).lookup x = some .cell ∨ (relN env l).lookup x = some .free) → l.lookup x = some .free
  | [], x, _, h => by rcases h with h | h <;> cases h
  | (n, k) :: r, x, hc, h => by
    rw [relN_cons] at h
    rw [lk_cons]
    by_cases ex : (x == n) = true
    · rw [if_pos ex] at h ⊢
      have hk := hc (n, k) List.mem_cons_self
      have hk' : k ≠ .cell := hk
      by_cases c : (k == NameKind.free && env.scope.kind == .function && env.kindOf n == some .cell) = true
      · have : k = .free := by
          simp only [Bool.and_eq_true] at c
          simpa using c.1.1
        rw [this]
      · simp only [if_neg c] at h
        rcases h with h | h
        · exact absurd (Option.some.inj h) hk'
        · exact h
    · rw [if_neg ex] at h ⊢
      exact relN_inv (fun y hy => hc y (List.mem_cons_of_mem _ hy)) h

/-- the context of a comprehension's block: C its names' dict, s2 and H2 the state when its iterator was made, fp the iterator's objects -/
def compCx (X : Cx) (scope : Scope) (N' : List Str) (C : Addr) (s2 : Shared) (H2 : Hp) (fp : List Addr) (E : Value → Shared → Prop) : Cx where
  prog := X.prog
  w := X.w
  K := X.K
  mg := X.mg
  base := X.base
  A := X.A
  N := N'
  s₀ := s2
  H₀ := H2
  env := compEnvC scope (compCl X.env scope.names []) C X.env
  outer := X.stack
  stack := X.stack
  ex := fp
  fn := fun _ => false
  calm := X.calm
  pn := []
  xe := E
/-- the values of the names that the block takes from around it -/
def capS (cap : List (Option Nat)) (σ : St) : St := cap.map fun o => o.bind fun j => (σ[j]?).join
structure CSc (X : Cx) (scope : Scope) (N' : List Str) (cap : List (Option Nat)) : Prop where
  kind : scope.kind = .function
  nocell : ∀ y ∈ scope.names, y.2 ≠ .cell
  names : ∀ y ∈ scope.names, y.2 = .local → scope.names.lookup y.1 = some .local
  free : ∀ y ∈ scope.names, y.2 = .free → X.env.kindOf y.1 = some .cell ∨ X.env.kindOf y.1 = some .free
  len : cap.length = N'.length
  cap : ∀ i ∈ List.range cap.length, ∀ j ∈ (cap[i]?).join, N'[i]? = X.N[j]? ∧ (N'[i]?).isSome = true ∧ (N'[i]?).bind (fun n => scope.names.lookup n) = some .free
/-- the same over closed things: the scope around, its names -/
structure CScD (sc : Scope) (N : List Str) (scope : Scope) (N' : List Str) (cap : List (Option Nat)) : Prop where
  kind : scope.kind = .function
  nocell : ∀ y ∈ scope.names, y.2 ≠ .cell
  names : ∀ y ∈ scope.names, y.2 = .local → scope.names.lookup y.1 = some .local
  free : ∀ y ∈ scope.names, y.2 = .free → sc.names.lookup y.1 = some .cell ∨ sc.names.lookup y.1 = some .free
  len : cap.length = N'.length
  cap : ∀ i ∈ List.range cap.length, ∀ j ∈ List.range N.length, cap[i]? = some (some j) → N'[i]? = N[j]? ∧ (N'[i]?).isSome = true ∧ (N'[i]?).bind (fun n => scope.names.lookup n) = some .free
theorem csc_of {X : Cx} {sc : Scope} {N : List Str} {scope : Scope} {N' : List Str} {cap : List (Option Nat)} (hs : X.env.scope = sc) (hN : X.N = N) (D : CScD sc N scope N' cap) (hc : (cap.all fun o => o.all fun j => decide (j < N.length)) = true := by rfl) : CSc X scope N' cap := by
  subst hs hN
  refine ⟨D.kind, D.nocell, D.names, D.free, D.len, fun i hi j hj => ?_⟩
  have e : cap[i]? = some (some j) := by
    cases q : cap[i]? with
    | none => rw [q] at hj; cases hj
    | some o =>
      rw [q] at hj
      have : o = some j := hj
      rw [this]
  have hm : some j ∈ cap := List.mem_of_getElem? e
  have hl := List.all_eq_true.mp hc (some j) hm
  have hl' : j < X.N.length := of_decide_eq_true (by simpa using hl)
  exact D.cap i hi j (List.mem_range.mpr hl') e
def PIfs (X : Cx) (ifs : List Expr) (t : TT) : Prop :=
  ∀ (pins : List (Addr × Obj)) (s : Shared) (σ : St) (H : Hp) (Q : Bool → Hp → Prop), Inv X pins σ H s → t σ H Q →
    wpAny (model X.prog X.w) X.A (forIn ifs true fun c r => if r = true then do let ok ← isTrue c X.env (eval c X.env); pure (ForInStep.yield ok) else pure (ForInStep.yield r)) (TP X pins σ Q) X.xe s
def tAll : TT := fun _ H Q => Q true H
theorem pif_nil {X : Cx} : PIfs X [] tAll := fun _ _ _ H _ I h => wpAny_tests_nil ⟨H, I, h⟩

/-- one turn after another -/
theorem comp_loop {prog : Program} {w : World} {A : Around} {R : Result → Shared → Prop} {s : Shared} {elt tg iter : Expr} {ifs : List Expr} {scope : Scope} {pos : Pos} {it acc : Value} {env : Env} {NE : Value → Shared → Prop}
    (hN : NE = notedBy (model prog w) A env fun e s' => R (.error e) s') (I : Nat → Shared → Prop)
    (turn : ∀ n s, I n s → wpAny (model prog w) A (pyNext it) (fun r s1 => match r with
      | none => R (.ok .next) s1
      | some v => wpAny (model prog w) A (letOwnedTupleGo tg it v) (fun _ s2 => wpAny (model prog w) A (assign tg env v) (fun _ s3 =>
          wpAny (model prog w) A (forIn ifs true fun c r => if r = true then do let ok ← isTrue c env (eval c env); pure (ForInStep.yield ok) else pure (ForInStep.yield r)) (fun ok s4 =>
            if ok = true then wpAny (model prog w) A (eval elt env) (fun x s5 => wpAny (model prog w) A (call (.builtin "list.append") [acc, x]) (fun _ s6 => ∃ m, m < n ∧ I m s6) NE s5) NE s4
            else ∃ m, m < n ∧ I m s4) NE s3) NE s2) NE s1) NE s)
    (n : Nat) (h : I n s) : codeAny (model prog w) A (.compLoop (.ListComp elt [⟨tg, iter, ifs, 0⟩] scope pos) 0 it acc env) R s := by
  subst hN
  refine codeAny_loop rfl I (fun k s' hI => ?_) n h
  refine (wpAny_noted ?_ : wpAny _ A ((compTurn (.ListComp elt [⟨tg, iter, ifs, 0⟩] scope pos) 0 it acc env).onRaise (fun x => do noteFrame x env; theTreesLotGoes x)) _ _ s')
  rw [compTurn_list]
  refine wpAny_bind (wpAny_standAt (wpAny_bind (thn (turn k s' hI) fun r s1 h1 => ?_)))
  cases r with
  | none => exact wpAny_pure h1
  | some v =>
    refine wpAny_bind (thn h1 fun _ s2 h2 => wpAny_bind (thn h2 fun _ s3 h3 => wpAny_bind (thn h3 fun ok s4 h4 => ?_)))
    cases ok with
    | false => exact wpAny_pure ⟨rfl, h4⟩
    | true => exact wpAny_bind (wpAny_bind (thn h4 fun x s5 h5 => wpAny_bind (thn h5 fun _ s6 h6 => wpAny_pure (wpAny_pure ⟨rfl, h6⟩))))

/-- the turns' reading: what the block does with the items of J, its list at p -/
def Turns (J : It) (g : TG) (tst : TT) (te : TE) (p : Addr) (Q : Hp → Prop) (σ : St) (H : Hp) : Prop :=
  ∃ W : Nat → Nat → St → Hp → Prop, (∃ m, W 0 m σ H) ∧ ∀ i m σ' H', W i m σ' H' →
    (J.stop i H' ∧ Q H') ∨ (J.go i H' ∧ ∃ N : St → Hp → Prop, (∀ σ2 H2, N σ2 H2 → ∃ m', m' < m ∧ W (i + 1) m' σ2 H2) ∧
      ∀ x H1, J.yld i H' x H1 → g x σ' H1 fun σ2 H2 => tst σ2 H2 fun c H3 => if c = true then te σ2 H3 fun y H4 => ∃ xs, H4 p = some (.lst xs) ∧ xs.length < sizeLine ∧ N σ2 (upd H4 p (.lst (xs ++ [y]))) else N σ2 H3)
def tComp (wi : TI) (cap : List (Option Nat)) (g : TG) (tst : TT) (te : TE) : TE := fun σ H Q => wi σ H fun J H1 => ∀ p, H1 p = none → Turns J g tst te p (fun H' => Q (.ref p) H') (capS cap σ) (upd H1 p (.lst []))

section
variable {X : Cx} {pins : List (Addr × Obj)} {σ : St} {H : Hp} {s : Shared}

theorem Inv.cellOf (I : Inv X pins σ H s) {scope : Scope} {N' : List Str} {cap : List (Option Nat)} (S : CSc X scope N' cap) : ∀ y ∈ scope.names, y.2 = .free → ∃ c, X.env.cells.lookup y.1 = some c := fun y hy e => I.ok.has y.1 (S.free y hy e)
theorem Inv.clLook (I : Inv X pins σ H s) {scope : Scope} {N' : List Str} {cap : List (Option Nat)} (S : CSc X scope N' cap) {x : Str} {c : Addr} (e : (compCl X.env scope.names []).lookup x = some c) : X.env.cells.lookup x = some c := by
  rcases compCl_look scope.names [] x c (I.cellOf S) e with h | h
  · cases h
  · exact h

/-- the block's context is sound -/
theorem Inv.compOk (I : Inv X pins σ H s) {scope : Scope} {N' : List Str} {cap : List (Option Nat)} (S : CSc X scope N' cap) {fp : List Addr} {C : Addr} {E : Value → Shared → Prop} (hC : s.heap.objs.size ≤ C) (hf : ∀ b ∈ fp, FpOk X pins H b)
    (ho : ∀ b ∈ fp, b < s.heap.objs.size) : (compCx X scope N' C s H fp E).Ok := by
  have nst : ∀ b ∈ fp, b ∉ frs X.stack := fun b hb z => by
    obtain ⟨_, f1, f2, _⟩ := hf b hb
    rcases List.mem_cons.mp (I.stkSub b z) with e | e
    · exact f1 e
    · exact f2 e
  refine ⟨I.ok.mod, S.kind, I.ok.glob, I.ok.blt, hC, fun x y c h1 h2 => ?_, fun x hx => ?_, fun x c h => (by cases h), I.ok.hd, I.ok.frames, .inl rfl, fun b hb => ⟨?_, fun x c e => ?_⟩, fun b o e => I.bs b o e, Nat.le_trans I.ok.bsz I.sz, fun b o e hb => ?_, nst, I.stack, I.stkFree⟩
  · exact I.ok.inj x y c (I.clLook S h1) (I.clLook S h2)
  · have q : scope.names.lookup x = some .free := relN_inv S.nocell hx
    exact compCl_has _ _ x (PySem.mem_of_lookup q)
  · exact Nat.ne_of_lt (Nat.lt_of_lt_of_le (ho b hb) hC)
  · exact (hf b hb).2.2.2.2.1 x c (I.clLook S e)
  · rcases (hf b hb).2.2.2.1 with z | z
    · exact I.ok.noex b o e z
    · exact absurd (Nat.lt_of_lt_of_le (Heap.lt_size e) (Nat.le_trans I.ok.bsz z)) (Nat.lt_irrefl _)

/-- the block's first state: the new list at the heap's end, the names' dict behind it -/
theorem Inv.compStart (I : Inv X pins σ H s) {scope : Scope} {N' : List Str} {cap : List (Option Nat)} (S : CSc X scope N' cap) {fp : List Addr} {D C : Addr} {h1 : Heap} {m : Str → Option Value} {tk : Nat} {E : Value → Shared → Prop}
    (hD : s.heap.objs.size ≤ D) (hC : s.heap.objs.size ≤ C) (hDC : D ≠ C) (hf : ∀ b ∈ fp, FpOk X pins H b) (ho : ∀ b ∈ fp, b < s.heap.objs.size)
    (k : ∀ b o, s.heap.get? b = some o → h1.get? b = some o) (hd : h1.get? D = some { cls := .type "list", data := .seq #[] }) (hn : h1.Ns C m) :
    Inv (compCx X scope N' C s H fp E) [] (capS cap σ) (upd H D (.lst [])) { s with heap := h1, toks := tk } := by
  have lt : ∀ b o, s.heap.get? b = some o → b ≠ D := fun b o e => Nat.ne_of_lt (Nat.lt_of_lt_of_le (Heap.lt_size e) hD)
  refine ⟨I.compOk S hC hf ho, rfl, I.bare, Un.laid k hD (I.hok.fresh hD), ⟨m, hn, fun i x v e1 e2 e3 => ?_⟩, fun x c e => ?_, ?_, fun x c e => ?_, fun p hp => absurd (show p ∈ ([] : List (Addr × Obj)) from hp) (by simp),
    I.hok.laid k hD ⟨Nat.zero_le _, [], _, .nil, hd⟩, by unfold capS; rw [List.length_map]; exact S.len⟩
  · -- a name taken from around
    have e2' : (cap.map fun o => o.bind fun j => (σ[j]?).join)[i]? = some (some v) := e2
    rw [List.getElem?_map] at e2'
    cases hc : cap[i]? with
    | none => rw [hc] at e2'; cases e2'
    | some o =>
      rw [hc] at e2'
      have e2'' : (o.bind fun j => (σ[j]?).join) = some v := Option.some.inj e2'
      cases o with
      | none => cases e2''
      | some j =>
        have hv : (σ[j]?).join = some v := e2''
        have hσ : σ[j]? = some (some v) := by
          cases q : σ[j]? with
          | none => rw [q] at hv; cases hv
          | some w' => rw [q] at hv; rw [show w' = some v from hv]
        have hi : i ∈ List.range cap.length := List.mem_range.mpr (List.getElem?_eq_some_iff.mp hc).1
        obtain ⟨a1, _, a3⟩ := S.cap i hi j (by rw [hc]; rfl)
        have e1' : N'[i]? = some x := e1
        rw [e1'] at a1 a3
        have a3' : scope.names.lookup x = some .free := a3
        have hk := S.free _ (PySem.mem_of_lookup a3') rfl
        have hk' : X.env.kindOf x = some .cell ∨ X.env.kindOf x = some .free := hk
        obtain ⟨m0, hn0, hl⟩ := I.loc
        obtain ⟨u, ru, lk⟩ := hl j x v a1.symm hσ (hk'.elim (fun z => .inr (.inl z)) fun z => .inr (.inr z))
        refine ⟨u, ru, ?_⟩
        rcases lk with ⟨z, _⟩ | ⟨_, c, ec, hcell⟩
        · rcases hk' with q | q
          · rw [z] at q; cases q
          · rw [z] at q; cases q
        · obtain ⟨c', ec'⟩ := compCl_has (env := X.env) scope.names [] x (PySem.mem_of_lookup a3')
          have : c' = c := Option.some.inj ((I.clLook S ec').symm.trans ec)
          subst this
          exact .inr ⟨relN_free (env := X.env) a3', c', ec', hcell.keeps k⟩
  · obtain ⟨v, z⟩ := I.cell x c (I.clLook S e)
    exact ⟨v, z.keeps k⟩
  · show upd H D _ C = none
    rw [upd_ne hDC.symm]
    exact I.hok.fresh hC
  · obtain ⟨v, o, z, _⟩ := I.cell x c (I.clLook S e)
    rw [upd_ne (lt c o z)]
    exact I.freeC x c (I.clLook S e)

theorem Inv.compBack {scope : Scope} {N' : List Str} {fp : List Addr} {C : Addr} {E : Value → Shared → Prop} {pins' : List (Addr × Obj)} {σ' : St} {H' : Hp} {s' : Shared} (I : Inv X pins σ H s) (hf : ∀ b ∈ fp, FpOk X pins H b)
    (J : Inv (compCx X scope N' C s H fp E) pins' σ' H' s') : Inv X pins σ H' s' :=
  I.call' (ch := fp) J.os J.base J.hok J.bare fun b hb => ⟨(hf b hb).2.2.2.1, (hf b hb).2.1, (hf b hb).2.2.2.2.1, (hf b hb).2.2.2.2.2⟩

/-- the end of the block -/
def CompEnd (X : Cx) (pins : List (Addr × Obj)) (σ : St) (Q : VK) (acc : Value) (C : Addr) (r : Result) (s' : Shared) : Prop :=
  match r with
  | .ok _ => ∃ p H' m, acc = .ref p ∧ Inv X pins σ H' s' ∧ FpOk X pins H' C ∧ s'.heap.Ns C m ∧ Q (.ref p) H'
  | .error _ => False

theorem comp_core {elt tg iter : Expr} {ifs : List Expr} {scope : Scope} {pos : Pos} {N' : List Str} {cap : List (Option Nat)} {wi : TI} {g : TG} {tst : TT} {te : TE} {Q : VK} (hc : X.calm = true) (S : CSc X scope N' cap) (hi : PI X tg iter wi)
    (hg : ∀ C s2 H2 fp, PG (compCx X scope N' C s2 H2 fp fun _ _ => False) tg g) (ht : ∀ C s2 H2 fp, PIfs (compCx X scope N' C s2 H2 fp fun _ _ => False) ifs tst)
    (he : ∀ C s2 H2 fp, PE (compCx X scope N' C s2 H2 fp fun _ _ => False) elt te) (I : Inv X pins σ H s) (h : tComp wi cap g tst te σ H Q) :
    wpAny (model X.prog X.w) X.A (eval iter X.env) (fun x s1 => wpAny (model X.prog X.w) X.A (pyIter x) (fun it s2 => wpAny (model X.prog X.w) X.A (newList []) (fun acc s3 =>
      wpAny (model X.prog X.w) X.A (newFunctionEnv scope X.env.globals (compCl X.env scope.names []) [] X.env.qual none .none (some X.env)) (fun cenv s4 =>
        codeAny (model X.prog X.w) X.A (.compStart (.ListComp elt [⟨tg, iter, ifs, 0⟩] scope pos) 0 it acc { cenv with scope := relabel scope X.env }) (CompEnd X pins σ Q acc cenv.locals) s4) X.xe s3) X.xe s2) X.xe s1) X.xe s := by
  refine thn (hi pins s σ H _ I h) fun v s1 h1 => thn h1 fun itv s2 h2 => ?_
  obtain ⟨it, fp, tn, J, H2, e, I2, T, st2, f2, q⟩ := h2
  subst e
  have ho : ∀ b ∈ fp, b < s2.heap.objs.size := fun b hb => by
    obtain ⟨o, e, _⟩ := T.obj _ _ st2 b hb
    exact Heap.lt_size e
  refine wpAny_newObj_type (wpAny_newFunctionEnv S.nocell (by intro y hy; simp at hy) (fun hp1 hns1 hsb1 => ?_) S.kind)
  have hDn : s2.heap.objs.size ≠ (s2.heap.push { cls := .type "list", dict := none, data := .seq ([] : List Value).toArray }).objs.size := by rw [Heap.size_push]; exact Nat.ne_of_lt (Nat.lt_succ_self _)
  have hCle : s2.heap.objs.size ≤ (s2.heap.push { cls := .type "list", dict := none, data := .seq ([] : List Value).toArray }).objs.size := by rw [Heap.size_push]; exact Nat.le_succ _
  have old : ∀ b o, s2.heap.get? b = some o → hp1.get? b = some o := fun b o e =>
    hsb1.extBut b o (Nat.ne_of_lt (Nat.lt_of_lt_of_le (Heap.lt_size e) hCle)) (Heap.get?_push_of_some _ (Heap.get?_push_of_some _ e))
  have hacc : hp1.get? s2.heap.objs.size = some { cls := .type "list", data := .seq #[] } := hsb1.extBut _ _ hDn (Heap.get?_push_of_some _ (Heap.get?_push_size _ rfl))
  -- the block
  let X' : Cx := compCx X scope N' (s2.heap.push { cls := .type "list", dict := none, data := .seq ([] : List Value).toArray }).objs.size s2 H2 fp fun _ _ => False
  obtain ⟨W, ⟨m0, w0⟩, turn⟩ := q s2.heap.objs.size (I2.hok.fresh (Nat.le_refl _))
  have J0 : Inv X' [] (capS cap σ) (upd H2 s2.heap.objs.size (.lst [])) { s2 with heap := hp1, toks := s2.toks + ([] : List (Str × Value)).length } := I2.compStart S (Nat.le_refl _) hCle hDn f2 ho old hacc hns1
  have stat : ∀ {H' : Hp}, (∀ b ∈ fp, H' b = none) → ∀ b ∈ fp, FpOk X' [] H' b := fun hn b hb => by
    obtain ⟨_, g1, g2, g3, g4, g5⟩ := f2 b hb
    refine ⟨hn b hb, Nat.ne_of_lt (Nat.lt_of_lt_of_le (ho b hb) hCle), J0.ok.exfs b hb, .inl hb, fun x c e => g4 x c (I2.clLook S e), fun p hp => absurd (show p ∈ ([] : List (Addr × Obj)) from hp) (by simp)⟩
  have fr0 : ∀ b ∈ fp, upd H2 s2.heap.objs.size (.lst []) b = none := fun b hb => by rw [upd_ne (Nat.ne_of_lt (ho b hb))]; exact (f2 b hb).1
  have loop : codeAny (model X.prog X.w) X.A (.compLoop (.ListComp elt [⟨tg, iter, ifs, 0⟩] scope pos) 0 (.ref it) (.ref s2.heap.objs.size) X'.env)
      (CompEnd X pins σ Q (.ref s2.heap.objs.size) (s2.heap.push { cls := .type "list", dict := none, data := .seq ([] : List Value).toArray }).objs.size) { s2 with heap := hp1, toks := s2.toks + ([] : List (Str × Value)).length } := by
    refine comp_loop rfl (fun n s' => ∃ i σ' H', Inv X' [] σ' H' s' ∧ tn i s'.heap ∧ (∀ b ∈ fp, H' b = none) ∧ W i n σ' H') ?_ m0 ⟨0, _, _, J0, T.keep _ _ _ st2 fun b _ o e => old b o e, fr0, w0⟩
    rintro n s3 ⟨i, σ3, H3, I3, st3, fr3, w3⟩
    have no : ∀ (e : Value) (s' : Shared), X'.xe e s' → notedBy (model X.prog X.w) X.A X'.env (fun e s' => CompEnd X pins σ Q (.ref s2.heap.objs.size) (s2.heap.push { cls := .type "list", dict := none, data := .seq ([] : List Value).toArray }).objs.size (.error e) s') e s' := fun _ _ z => z.elim
    rcases turn i n σ3 H3 w3 with ⟨stop, qn⟩ | ⟨go, N, hN, step⟩
    · refine wpAny_mono (T.done X' rfl rfl rfl hc i [] s3 σ3 H3 X'.xe I3 (stat fr3) st3 stop) (fun r s4 ⟨hr, I4⟩ => ?_) no
      subst hr
      obtain ⟨mC, hmC, _⟩ := I4.loc
      exact ⟨_, H3, mC, rfl, I2.compBack f2 I4, I2.fpOk hCle I4.free, hmC, qn⟩
    · refine wpAny_mono (T.item X' rfl rfl rfl hc i [] s3 σ3 H3 X'.xe I3 (stat fr3) st3 go) (fun r s4 ⟨u, hr, h4⟩ => ?_) no
      subst hr
      refine wpAny_mono h4 (fun _ s5 ⟨x, H5, I5, r5, y5, st5, fr5⟩ => ?_) no
      have I5' := I5.pinned (stat fr5) (T.obj _ _ st5)
      refine wpAny_mono (hg _ _ _ _ _ s5 σ3 H5 x u _ I5' r5 (step x H5 y5)) (fun _ s6 ⟨σ6, H6, I6, q6⟩ => ?_) no
      refine wpAny_mono (ht _ _ _ _ _ s6 σ6 H6 _ I6 q6) (fun ok s7 ⟨H7, I7, q7⟩ => ?_) no
      have again : ∀ {σ7 : St} {H7 : Hp} {s7 : Shared}, Inv X' ([] ++ pinsAt fp s5.heap) σ7 H7 s7 → N σ7 H7 → ∃ m, m < n ∧ ∃ i σ' H', Inv X' [] σ' H' s7 ∧ tn i s7.heap ∧ (∀ b ∈ fp, H' b = none) ∧ W i m σ' H' := fun {σ7 H7 s7} I7 n7 => by
        obtain ⟨m', hm, w7⟩ := hN σ7 H7 n7
        refine ⟨m', hm, i + 1, σ7, H7, I7.unpinned, T.keep _ _ _ st5 fun b hb o e => (I7.pin (b, o) (List.mem_append_right _ (List.mem_append_right _ (mem_pinsAt hb e)))).1, fun b hb => ?_, w7⟩
        obtain ⟨o, e, d⟩ := T.obj _ _ st5 b hb
        exact (I7.pin (b, o) (List.mem_append_right _ (List.mem_append_right _ (mem_pinsAt hb e)))).2.1
      cases ok with
      | false => exact again I7 q7
      | true =>
        refine wpAny_mono (he _ _ _ _ _ s7 σ6 H7 _ I7 q7) (fun y s8 ⟨z, H8, I8, r8, xs, e8, l8, q8⟩ => ?_) no
        refine wpAny_mono (mt_append (X := X') _ s8 σ6 H8 (.ref s2.heap.objs.size) [z] (.ref s2.heap.objs.size) [y] (fun _ H9 => N σ6 H9) I8 rfl (.cons r8 .nil) ⟨_, xs, z, rfl, rfl, e8, l8, q8⟩) (fun _ s9 ⟨_, H9, I9, _, q9⟩ => ?_) no
        exact again I9 q9
  exact codeAny_compStart_list loop (T.self _ 0 _ _ _ (T.keep _ _ _ st2 fun b _ o e => old b o e) loop)

/-- [elt for tg in iter (if test)] as a value -/
theorem pe_comp {elt tg iter : Expr} {ifs : List Expr} {scope : Scope} {pos : Pos} {N' : List Str} {cap : List (Option Nat)} {wi : TI} {g : TG} {tst : TT} {te : TE} (hc : X.calm = true) (S : CSc X scope N' cap) (hi : PI X tg iter wi)
    (hg : ∀ C s2 H2 fp, PG (compCx X scope N' C s2 H2 fp fun _ _ => False) tg g) (ht : ∀ C s2 H2 fp, PIfs (compCx X scope N' C s2 H2 fp fun _ _ => False) ifs tst)
    (he : ∀ C s2 H2 fp, PE (compCx X scope N' C s2 H2 fp fun _ _ => False) elt te) (hs : ∀ x, foldedSetIterable iter X.env x = pure x := by intro _; rfl) :
    PE X (.ListComp elt [⟨tg, iter, ifs, 0⟩] scope pos) (tComp wi cap g tst te) := by
  intro pins s σ H Q I h
  rw [eval_ListComp]
  refine wpAny_comprehension_free (use := none) rfl hs (closure_eq (I.cellOf S)) S.kind S.names (thn (comp_core (Q := Q) hc S hi hg ht he I h) fun xv s1 h1 => thn h1 fun it s2 h2 => thn h2 fun acc s3 h3 => thn h3 fun cenv s4 h4 => codeAny_mono h4 fun r s5 h5 => ?_)
  cases r with
  | error e => exact False.elim h5
  | ok fl =>
    obtain ⟨p, H', m, rfl, I', F', hn, q⟩ := h5
    refine ⟨m, hn, fun h' sb => ⟨.ref p, H', ?_, rfl, q⟩⟩
    exact I'.turned (t' := s5.toks) (fun b o hb e => sb.extBut b o hb e) F'.1 F'.2.1 F'.2.2.2.1 F'.2.2.2.2.1 F'.2.2.2.2.2
/-- x = [elt for tg in iter (if test)], x a plain local on the comprehension's own line -/
theorem ps_setComp {i : Nat} {x : Str} {elt tg iter : Expr} {ifs : List Expr} {scope : Scope} {pos pos' cpos : Pos} {N' : List Str} {cap : List (Option Nat)} {wi : TI} {g : TG} {tst : TT} {te : TE} (hN : X.N.Nodup) (hx : X.N[i]? = some x) (hl : X.env.scope.names.lookup x = some .local)
    (hc : X.calm = true) (S : CSc X scope N' cap) (hi : PI X tg iter wi)
    (hg : ∀ C s2 H2 fp, PG (compCx X scope N' C s2 H2 fp fun _ _ => False) tg g) (ht : ∀ C s2 H2 fp, PIfs (compCx X scope N' C s2 H2 fp fun _ _ => False) ifs tst)
    (he : ∀ C s2 H2 fp, PE (compCx X scope N' C s2 H2 fp fun _ _ => False) elt te)
    (hsw : swapsWith (.ListComp elt [⟨tg, iter, ifs, 0⟩] scope cpos) (some (.Name x pos')) pos.line X.env = pure true := by rfl) (hs : ∀ x, foldedSetIterable iter X.env x = pure x := by intro _; rfl) :
    PS X (.Assign [.Name x pos'] (.ListComp elt [⟨tg, iter, ifs, 0⟩] scope cpos) pos) (tAsg (tComp wi cap g tst te) (gName i)) := by
  intro pins s σ H D I h
  rw [exec_Assign_Name_used _ _ _ _ hsw]
  refine wpAny_bind (wpAny_standAt (wpAny_bind ?_))
  show wpAny (model X.prog X.w) X.A (do let _ ← comprehension (.ListComp elt [⟨tg, iter, ifs, 0⟩] scope cpos) scope X.env _ (newList []) false (eval iter X.env) (some (assign (.Name x pos') X.env))) _ _ s
  refine wpAny_bind (thn (wpAny_comprehension_free (use := some (assign (.Name x pos') X.env)) (Q := fun _ s' => SP X pins D .next s') rfl hs (closure_eq (I.cellOf S)) S.kind S.names
    (thn (comp_core (Q := fun v H1 => gName i v σ H1 D.nx) hc S hi hg ht he I h) fun xv s1 h1 => thn h1 fun it s2 h2 => thn h2 fun acc s3 h3 => thn h3 fun cenv s4 h4 => codeAny_mono h4 fun r s5 h5 => ?_)) fun _ s' hq => wpAny_pure (wpAny_pure hq))
  cases r with
  | error e => exact False.elim h5
  | ok fl =>
    obtain ⟨p, H', m, rfl, I', F', hn, q⟩ := h5
    refine (wpAny_assign_Name (store_ok2 (v := V.ref p) I' hN hx (.inl hl) rfl (fun s6 I6 ⟨a, sb6, ha⟩ => ?_) (.inr hl)) : wpAny (model X.prog X.w) X.A (assign (.Name x pos') X.env (.ref p)) _ _ s5)
    have aC : cenv.locals ≠ a := by
      rcases ha with z | z
      · rw [z]; exact F'.2.1
      · exact fun w' => F'.2.2.2.2.1 _ _ z w'.symm
    refine ⟨m, hn.sameBut sb6 aC, fun h' sb => ⟨_, H', ?_, q⟩⟩
    exact I6.turned (t' := s6.toks) (fun b o hb e => sb.extBut b o hb e) F'.1 F'.2.1 F'.2.2.2.1 F'.2.2.2.2.1 F'.2.2.2.2.2
end

/-! ### the forms one uses -/
/-- over a list that the block leaves as it is: Pv holds between two turns, the new list's items among what it says -/
theorem turns_list {K : PySem.W.Frag} {a p : Addr} {xs : List V} {g : TG} {tst : TT} {te : TE} {Q : Hp → Prop} {σ : St} {H : Hp} (Pv : Nat → St → Hp → Prop) (h0 : Pv 0 σ H) (hl : ∀ i σ H, i ≤ xs.length → Pv i σ H → SqL K H a xs)
    (hs : ∀ i x σ H, xs[i]? = some x → Pv i σ H → g x σ H fun σ2 H2 => tst σ2 H2 fun c H3 => if c = true then te σ2 H3 fun y H4 => ∃ ys, H4 p = some (.lst ys) ∧ ys.length < sizeLine ∧ Pv (i + 1) σ2 (upd H4 p (.lst (ys ++ [y]))) else Pv (i + 1) σ2 H3)
    (hd : ∀ σ H, Pv xs.length σ H → Q H) : Turns (Itl K a) g tst te p Q σ H := by
  refine ⟨fun i m σ H => m = xs.length - i ∧ i ≤ xs.length ∧ Pv i σ H, ⟨xs.length, by simp, Nat.zero_le _, h0⟩, ?_⟩
  rintro i m σ H ⟨rfl, hi, p⟩
  have q := hl i σ H hi p
  by_cases hlt : i < xs.length
  · refine .inr ⟨⟨xs, xs[i], q, by simp [hlt]⟩, Pv (i + 1), fun σ' H' p' => ⟨xs.length - (i + 1), by omega, rfl, hlt, p'⟩, fun x H' y => ?_⟩
    obtain ⟨e, y⟩ := y
    subst e
    exact hs i x σ _ (y xs q) p
  · have e : i = xs.length := by omega
    subst e
    exact .inl ⟨⟨xs, q, Nat.le_refl _⟩, hd σ H p⟩
theorem turns_range {p : Addr} {lo : Int} {n : Nat} {g : TG} {tst : TT} {te : TE} {Q : Hp → Prop} {σ : St} {H : Hp} (Pv : Nat → St → Hp → Prop) (h0 : Pv 0 σ H)
    (hs : ∀ i σ H, i < n → Pv i σ H → g (.int (lo + i)) σ H fun σ2 H2 => tst σ2 H2 fun c H3 => if c = true then te σ2 H3 fun y H4 => ∃ ys, H4 p = some (.lst ys) ∧ ys.length < sizeLine ∧ Pv (i + 1) σ2 (upd H4 p (.lst (ys ++ [y]))) else Pv (i + 1) σ2 H3)
    (hd : ∀ σ H, Pv n σ H → Q H) : Turns (Itr lo n) g tst te p Q σ H := by
  refine ⟨fun i m σ H => m = n - i ∧ i ≤ n ∧ Pv i σ H, ⟨n, by simp, Nat.zero_le _, h0⟩, ?_⟩
  rintro i m σ H ⟨rfl, hi, p⟩
  by_cases hlt : i < n
  · refine .inr ⟨hlt, Pv (i + 1), fun σ' H' p' => ⟨n - (i + 1), by omega, rfl, hlt, p'⟩, fun x H' y => ?_⟩
    obtain ⟨e, y⟩ := y
    subst e y
    exact hs i σ _ hlt p
  · have e : i = n := by omega
    subst e
    exact .inl ⟨Nat.le_refl _, hd σ H p⟩
end L2
/-! enumerate(list), zip(list, list), walked by a loop or a comprehension with a pair of names. -/
namespace L2
open PySem PySem.Spec PyProof.Rows
section
variable {X : Cx} {pins : List (Addr × Obj)} {σ : St} {H : Hp} {s : Shared} {h' : Heap}
/-- records of ours have turned, a new object is laid and tracked -/
theorem Inv.turnedLaid {t' : Nat} {ch : List Addr} {a : Addr} {o : HO} (I : Inv X pins σ H s) (hf : ∀ b ∈ ch, FpOk X pins H b) (k : ∀ b ob, b ∉ ch → s.heap.get? b = some ob → h'.get? b = some ob) (hp : s.heap.objs.size ≤ a)
    (new : ObjOk X.prog X.w (upd H a o) h' a o) : Inv X pins σ (upd H a o) { s with heap := h', toks := t' } := by
  have hn := I.hok.fresh hp
  have ntr : ∀ b u, H b = some u → b ∉ ch := fun b u e hb => by
    have z := (hf b hb).1
    rw [z] at e; cases e
  have lt : ∀ b ob, s.heap.get? b = some ob → b ≠ a := fun b ob e => Nat.ne_of_lt (Nat.lt_of_lt_of_le (Heap.lt_size e) hp)
  refine I.step (g' := s.gens) (d' := s.drawn) (ch := ch) (fun b hb => ⟨(hf b hb).2.2.2.1, (hf b hb).2.1, (hf b hb).2.2.2.2.1, (hf b hb).2.2.2.2.2⟩) (fun b ob _ _ hc e _ => k b ob hc e) (fun b ob _ _ hc e _ => ⟨ob.slots, k b ob hc e⟩)
    (fun b ob _ e n => by rw [upd_ne (lt b ob e)]; exact n) (fun b ob hc e => ⟨ob, k b ob hc e⟩) (fun b xs e => by rw [upd_ne (ne_of_none e hn)]; exact e) (fun b ob u e => by rw [upd_ne (ne_of_none e hn)]; exact e)
    (fun b pl y e => by rw [upd_ne (ne_of_none e hn)]; exact e) (fun m hm => ?_) (fun b u e => ?_) I.bare
  · obtain ⟨ob, es, ep, ho, r⟩ := hm
    exact ⟨ob, es, ep, k _ ob (fun z => (hf _ z).2.1 rfl) ho, r⟩
  · by_cases hb : b = a
    · subst hb
      rw [upd_same] at e
      cases e
      exact new
    · rw [upd_ne hb] at e
      refine (I.hok b u e).stay (fun c v hc q => k c v ?_ q) (fun c q => by rw [upd_ne (ne_of_none q hn)]; exact q) (fun c xs q => by rw [upd_ne (ne_of_none q hn)]; exact q) fun c ob y q => by rw [upd_ne (ne_of_none q hn)]; exact q
      rcases hc with rfl | hc
      · exact ntr c u e
      · exact ntr c _ hc
/-- records of ours have turned -/
theorem Inv.turnedAll {t' : Nat} {ch : List Addr} (I : Inv X pins σ H s) (hf : ∀ b ∈ ch, FpOk X pins H b) (k : ∀ b ob, b ∉ ch → s.heap.get? b = some ob → h'.get? b = some ob) : Inv X pins σ H { s with heap := h', toks := t' } := by
  have ntr : ∀ b u, H b = some u → b ∉ ch := fun b u e hb => by
    have z := (hf b hb).1
    rw [z] at e; cases e
  refine I.step (g' := s.gens) (d' := s.drawn) (ch := ch) (fun b hb => ⟨(hf b hb).2.2.2.1, (hf b hb).2.1, (hf b hb).2.2.2.2.1, (hf b hb).2.2.2.2.2⟩) (fun b ob _ _ hc e _ => k b ob hc e) (fun b ob _ _ hc e _ => ⟨ob.slots, k b ob hc e⟩)
    (fun b ob _ _ n => n) (fun b ob hc e => ⟨ob, k b ob hc e⟩) (fun b xs e => e) (fun b ob u e => e) (fun b pl y e => e) (fun m hm => ?_) (fun b u e => ?_) I.bare
  · obtain ⟨ob, es, ep, ho, r⟩ := hm
    exact ⟨ob, es, ep, k _ ob (fun z => (hf _ z).2.1 rfl) ho, r⟩
  · refine (I.hok b u e).stay (fun c v hc q => k c v ?_ q) (fun c q => q) (fun c xs q => q) fun c ob y q => q
    rcases hc with rfl | hc
    · exact ntr c u e
    · exact ntr c _ hc
end

/-- enumerate of the list at a: pairs (i, x), each a new tuple -/
def Ite (K : PySem.W.Frag) (a : Addr) : It :=
  ⟨fun i H => ∃ xs x, SqL K H a xs ∧ xs[i]? = some x, fun i H v H' => ∃ t x, v = .ref t ∧ H t = none ∧ H' = upd H t (.tup [.int i, x]) ∧ ∀ xs, SqL K H a xs → xs[i]? = some x, fun i H => ∃ xs, SqL K H a xs ∧ xs.length ≤ i⟩
theorem tup_new {P : Program} {w : World} {H : Hp} {h : Heap} {a : Addr} {xs : List V} {us : List Value} (r : Vals xs us) (hz : xs.length ≤ sizeLine) {n : Nat} (e : h.get? a = some { cls := .type "tuple", data := .seq us.toArray n }) : ObjOk P w H h a (.tup xs) :=
  ⟨hz, us, r, _, e, rfl, _, rfl⟩
theorem turn_enum {P : Program} {w : World} {K : PySem.W.Frag} {es : List Expr} {k : Nat} {pos : Pos} (a e it : Addr) (hei : e ≠ it) : Turn P w K (.Tuple es k pos) (Ite K a) [e, it] e (fun i h => (∃ old, IsEnum h e it i old) ∧ h.IsListIter it a i) where
  mem := by simp
  obj := fun i h st b hb => by
    obtain ⟨⟨old, he⟩, o, ho, c, d⟩ := st
    rcases List.mem_cons.mp hb with z | hb
    · subst z
      exact ⟨_, he, fun v q => by
        have q' : Data.fields _ = Data.cell v := q
        cases q'⟩
    · have z : b = it := by simpa using hb
      subst z
      exact ⟨o, ho, fun v q => by rw [d] at q; cases q⟩
  keep := fun i h h' st k => ⟨let ⟨old, he⟩ := st.1; ⟨old, k e (by simp) _ he⟩, st.2.at fun o q => k it (by simp) o q⟩
  item := by
    intro X hP hw hK hc i pins s σ H E I hf st hg
    subst hP hw hK
    obtain ⟨xs, x, hq, hx⟩ := hg
    obtain ⟨its, rv, p, hz⟩ := I.list hq
    obtain ⟨u, hu, ru⟩ := rv.get hx
    obtain ⟨⟨old, he⟩, hit⟩ := st
    refine wpAny_pyNext_enum_item he hit p.isList (x := u) (by simpa using hu) hei fun h1 ho hit1 hT hsz hk => ⟨_, rfl, ?_⟩
    have hel : e < s.heap.objs.size := Heap.lt_size he
    have hil : it < s.heap.objs.size := by obtain ⟨_, q, _⟩ := hit; exact Heap.lt_size q
    refine wpAny_letOwnedTupleGo_enum ho fun h2 he2 hs2 => ?_
    refine ⟨.ref s.heap.objs.size, upd H s.heap.objs.size (.tup [.int i, x]), ?_, rfl, ⟨_, x, rfl, I.hok.fresh (Nat.le_refl _), rfl, fun ys hy => by rw [I.list_inj hy hq]; exact hx⟩, ⟨⟨u, by simpa using he2⟩, hit1.at fun o q => (hs2.2 it hei.symm).trans q⟩, fun b hb => ?_⟩
    · refine I.turnedLaid (ch := [e, it]) hf (fun b ob hb q => (hs2.2 b fun z => hb (by simp [z])).trans (hk b ob (fun z => hb (by simp [z])) (fun z => hb (by simp [z])) q)) (Nat.le_refl _) ?_
      exact tup_new (us := [.int i s.toks, u]) (.cons ⟨_, rfl⟩ (.cons ru .nil)) (by show 2 ≤ sizeLine; decide) ((hs2.2 _ (Nat.ne_of_gt hel)).trans hT)
    · have hbl : b < s.heap.objs.size := by
        rcases List.mem_cons.mp hb with z | hb
        · rw [z]; exact hel
        · rw [show b = it by simpa using hb]; exact hil
      rw [upd_ne (Nat.ne_of_lt hbl)]
      exact (hf b hb).1
  done := by
    intro X hP hw hK hc i pins s σ H E I hf st hg
    subst hP hw hK
    obtain ⟨xs, hq, hx⟩ := hg
    obtain ⟨its, rv, p, hz⟩ := I.list hq
    obtain ⟨⟨old, he⟩, hit⟩ := st
    have hl := rv.length
    exact wpAny_pyNext_enum_end (I.ok.hd hc) he hit p.isList (by simp; omega) fun h1 eb => ⟨rfl, I.turnedAll (t' := s.toks) (ch := [e, it]) hf fun b ob hb q => eb b ob (fun z => hb (by simp [z])) q⟩
  self := fun _ _ _ _ _ st h => let ⟨⟨_, he⟩, _⟩ := st; wpAny_pyIter_enum he h

theorem boot_enum : bootBuiltins ("enumerate" : Str) = some (.type "enumerate") := by first | exact PyProof.Rows.Boot.«enumerate» | exact PySem.boot_enumerate | rfl | decide +kernel
theorem boot_zip' : bootBuiltins ("zip" : Str) = some (.type "zip") := by first | exact PyProof.Rows.Boot.«zip» | exact PySem.boot_zip | rfl | decide +kernel
def iEnum (K : PySem.W.Frag) (ta : TA) : TI := fun σ H R => ta σ H fun vs H1 => ∃ a, vs = [.ref a] ∧ (∃ xs, SqL K H1 a xs) ∧ R (Ite K a) H1
theorem pi_enum {X : Cx} {es : List Expr} {k : Nat} {tpos : Pos} {l : Expr} {ta : TA} {p pos : Pos} (hg : Gl X "enumerate") (hm : X.mg "enumerate" = none) (ha : PA X [l] ta) (hs : starEach [l] X.env = [(false, eval l X.env)] := by rfl) : PI X (.Tuple es k tpos) (.Call (.Name "enumerate" p) [l] [] pos) (iEnum X.K ta) := by
  intro pins s σ H R I h
  refine Call_ (ld_blt I hg hm boot_enum (PyProof.Rows.callWith_type1 (thn (ha pos pins s σ H _ I h) fun us s1 ⟨vs, H1, I1, r1, q1⟩ => ?_) hs rfl))
  obtain ⟨a, e, ⟨xs, hq⟩, q⟩ := q1
  subst e
  obtain ⟨u, rfl, ru⟩ := vals1 r1
  cases ru
  obtain ⟨its, rv, pl, hz⟩ := I1.list hq
  refine call_enumerate_list pl.isList fun h1 he hit hsz hk => ?_
  have I2 : Inv X pins σ H1 { s1 with heap := h1 } := I1.kept (t' := s1.toks) hk
  refine wpAny_pyIter_enum he ⟨s1.heap.objs.size + 1, [s1.heap.objs.size + 1, s1.heap.objs.size], _, _, H1, rfl, I2, turn_enum a _ _ (Nat.ne_of_gt (Nat.lt_succ_self _)), ⟨⟨_, he⟩, hit⟩, fun b hb => ?_, q⟩
  have hbl : s1.heap.objs.size ≤ b := by
    rcases List.mem_cons.mp hb with z | hb
    · rw [z]; exact Nat.le_succ _
    · rw [show b = s1.heap.objs.size by simpa using hb]; exact Nat.le_refl _
  exact I1.fpOk hbl (I1.hok.fresh hbl)

/-- zip of the lists at a and b: each turn a new pair -/
def Itz (K : PySem.W.Frag) (a b : Addr) : It :=
  ⟨fun i H => ∃ xs ys x y, SqL K H a xs ∧ SqL K H b ys ∧ xs[i]? = some x ∧ ys[i]? = some y,
   fun i H v H' => ∃ t x y, v = .ref t ∧ H t = none ∧ H' = upd H t (.tup [x, y]) ∧ (∀ xs, SqL K H a xs → xs[i]? = some x) ∧ ∀ ys, SqL K H b ys → ys[i]? = some y,
   fun i H => ∃ xs ys, SqL K H a xs ∧ SqL K H b ys ∧ (xs.length ≤ i ∨ ys.length ≤ i)⟩
theorem ap_of {i1 i2 TI TO z l1 l2 : Nat} (h1 : i1 < i2) (h2 : i2 < TI) (h3 : TI < TO) (h4 : TO < z) (ha : l1 < i1) (hb : l2 < i1) : ZipApart z TI TO i1 i2 l1 l2 := by
  refine ⟨?_, ?_, ?_, ?_, ?_, ?_, ?_, ?_, ?_, ?_, ?_, ?_, ?_, ?_, ?_, ?_, ?_, ?_⟩ <;> first | exact Nat.ne_of_lt (by omega) | exact Nat.ne_of_gt (by omega)
theorem turn_zip {P : Program} {w : World} {K : PySem.W.Frag} {es : List Expr} {k : Nat} {pos : Pos} (a b z TI TO i1 i2 : Addr) (D : ZipApart z TI TO i1 i2 a b) :
    Turn P w K (.Tuple es k pos) (Itz K a b) [z, TI, TO, i1, i2] z (fun i h => IsZip h z TI TO .none ∧ IsPair h TI (.ref i1) (.ref i2) ∧ (∃ x y, IsPair h TO x y) ∧ h.IsListIter i1 a i ∧ h.IsListIter i2 b i) where
  mem := by simp
  obj := fun i h st c hb => by
    obtain ⟨hz, hTI, ⟨x, y, hTO⟩, ⟨o1, e1, c1, d1⟩, o2, e2, c2, d2⟩ := st
    simp only [List.mem_cons, List.not_mem_nil, or_false] at hb
    rcases hb with rfl | rfl | rfl | rfl | rfl
    · exact ⟨_, hz, fun v q => by
        have q' : Data.fields _ = Data.cell v := q
        cases q'⟩
    · exact ⟨_, hTI, fun v q => by
        have q' : Data.seq _ _ = Data.cell v := q
        cases q'⟩
    · exact ⟨_, hTO, fun v q => by
        have q' : Data.seq _ _ = Data.cell v := q
        cases q'⟩
    · exact ⟨_, e1, fun v q => by rw [d1] at q; cases q⟩
    · exact ⟨_, e2, fun v q => by rw [d2] at q; cases q⟩
  keep := fun i h h' st k => ⟨k z (by simp) _ st.1, k TI (by simp) _ st.2.1, let ⟨x, y, q⟩ := st.2.2.1; ⟨x, y, k TO (by simp) _ q⟩, st.2.2.2.1.at fun o q => k i1 (by simp) o q, st.2.2.2.2.at fun o q => k i2 (by simp) o q⟩
  item := by
    intro X hP hw hK hc i pins s σ H E I hf st hg
    subst hP hw hK
    obtain ⟨xs, ys, x, y, hq1, hq2, hx, hy⟩ := hg
    obtain ⟨its1, rv1, p1, hz1⟩ := I.list hq1
    obtain ⟨its2, rv2, p2, hz2⟩ := I.list hq2
    obtain ⟨u1, hu1, ru1⟩ := rv1.get hx
    obtain ⟨u2, hu2, ru2⟩ := rv2.get hy
    obtain ⟨hz, hTI, ⟨x0, y0, hTO⟩, hi1, hi2⟩ := st
    refine wpAny_pyNext_zip_item D hz hTI hTO hi1 hi2 p1.isList p2.isList (x := u1) (y := u2) (by simpa using hu1) (by simpa using hu2) fun h1 gz gTO g1 g2 gT gsz gk => ⟨_, rfl, ?_⟩
    have lz : z < s.heap.objs.size := Heap.lt_size hz
    have lT : ∀ c ∈ [z, TI, TO, i1, i2], c < s.heap.objs.size := fun c hb => by
      simp only [List.mem_cons, List.not_mem_nil, or_false] at hb
      rcases hb with rfl | rfl | rfl | rfl | rfl
      · exact lz
      · exact Heap.lt_size hTI
      · exact Heap.lt_size hTO
      · obtain ⟨_, q, _⟩ := hi1; exact Heap.lt_size q
      · obtain ⟨_, q, _⟩ := hi2; exact Heap.lt_size q
    refine wpAny_letOwnedTupleGo_zip gz fun h2 gz2 hs2 => ?_
    refine ⟨.ref s.heap.objs.size, upd H s.heap.objs.size (.tup [x, y]), ?_, rfl, ⟨_, x, y, rfl, I.hok.fresh (Nat.le_refl _), rfl, fun vs hv => by rw [I.list_inj hv hq1]; exact hx, fun vs hv => by rw [I.list_inj hv hq2]; exact hy⟩,
      ⟨gz2, hs2.extBut _ _ D.TIz (gk _ _ D.TIz D.TITO D.TIi1 D.TIi2 hTI), ⟨_, _, hs2.extBut _ _ D.TOz gTO⟩, g1.at fun o q => hs2.extBut _ _ D.i1z q, g2.at fun o q => hs2.extBut _ _ D.i2z q⟩, fun c hb => ?_⟩
    · refine I.turnedLaid (ch := [z, TI, TO, i1, i2]) hf (fun c ob hb q => hs2.extBut _ _ (fun e => hb (by simp [e])) (gk c ob (fun e => hb (by simp [e])) (fun e => hb (by simp [e])) (fun e => hb (by simp [e])) (fun e => hb (by simp [e])) q)) (Nat.le_refl _) ?_
      exact tup_new (us := [u1, u2]) (.cons ru1 (.cons ru2 .nil)) (by show 2 ≤ sizeLine; decide) (hs2.extBut _ _ (Nat.ne_of_gt lz) gT)
    · rw [upd_ne (Nat.ne_of_lt (lT c hb))]
      exact (hf c hb).1
  done := by
    intro X hP hw hK hc i pins s σ H E I hf st hg
    subst hP hw hK
    obtain ⟨xs, ys, hq1, hq2, hx⟩ := hg
    obtain ⟨its1, rv1, p1, hz1⟩ := I.list hq1
    obtain ⟨its2, rv2, p2, hz2⟩ := I.list hq2
    obtain ⟨hz, hTI, ⟨x0, y0, hTO⟩, hi1, hi2⟩ := st
    have hl1 := rv1.length
    have hl2 := rv2.length
    refine wpAny_pyNext_zip_end (I.ok.hd hc) D hz hTI hTO hi1 hi2 p1.isList p2.isList ?_ fun h1 eb => ⟨rfl, I.turnedAll (t' := s.toks) (ch := [z, TI, TO, i1, i2]) hf fun c ob hb q => eb c ob (fun e => hb (by simp [e])) (fun e => hb (by simp [e])) (fun e => hb (by simp [e])) (fun e => hb (by simp [e])) q⟩
    rcases hx with hx | hx
    · exact .inl (by simp; omega)
    · exact .inr (by simp; omega)
  self := fun _ _ _ _ _ st h => wpAny_pyIter_zip st.1 h
def iZip (K : PySem.W.Frag) (ta : TA) : TI := fun σ H R => ta σ H fun vs H1 => ∃ a b, vs = [.ref a, .ref b] ∧ (∃ xs, SqL K H1 a xs) ∧ (∃ ys, SqL K H1 b ys) ∧ R (Itz K a b) H1
theorem pi_zip {X : Cx} {es : List Expr} {k : Nat} {tpos : Pos} {l m : Expr} {ta : TA} {p pos : Pos} (hg : Gl X "zip") (hm : X.mg "zip" = none) (ha : PA X [l, m] ta) (hs : starEach [l, m] X.env = [(false, eval l X.env), (false, eval m X.env)] := by rfl) (hs2 : starEach [m] X.env = [(false, eval m X.env)] := by rfl) :
    PI X (.Tuple es k tpos) (.Call (.Name "zip" p) [l, m] [] pos) (iZip X.K ta) := by
  intro pins s σ H R I h
  refine Call_ (ld_blt I hg hm boot_zip' (PyProof.Rows.callWith_type1 (thn (ha pos pins s σ H _ I h) fun us s1 ⟨vs, H1, I1, r1, q1⟩ => ?_) (by rw [hs, hs2]) (by rw [hs2]; rfl)))
  obtain ⟨a, b, e, ⟨xs, hq1⟩, ⟨ys, hq2⟩, q⟩ := q1
  subst e
  obtain ⟨u, w', rfl, ru, rw'⟩ := vals2 r1
  cases ru
  cases rw'
  obtain ⟨its1, rv1, p1, hz1⟩ := I1.list hq1
  obtain ⟨its2, rv2, p2, hz2⟩ := I1.list hq2
  have la : a < s1.heap.objs.size := by obtain ⟨_, o, _⟩ := p1.isList; exact Heap.lt_size o
  have lb : b < s1.heap.objs.size := by obtain ⟨_, o, _⟩ := p2.isList; exact Heap.lt_size o
  refine call_zip_2 p1.isList p2.isList fun h1 gz gTI gTO g1 g2 gsz hk => ?_
  have I2 : Inv X pins σ H1 { s1 with heap := h1 } := I1.kept (t' := s1.toks) hk
  have D : ZipApart (s1.heap.objs.size + 4) (s1.heap.objs.size + 2) (s1.heap.objs.size + 3) s1.heap.objs.size (s1.heap.objs.size + 1) a b := ap_of (i1 := s1.heap.objs.size) (Nat.lt_succ_self _) (Nat.lt_succ_self _) (Nat.lt_succ_self _) (Nat.lt_succ_self _) la lb
  refine wpAny_pyIter_zip gz ⟨s1.heap.objs.size + 4, [s1.heap.objs.size + 4, s1.heap.objs.size + 2, s1.heap.objs.size + 3, s1.heap.objs.size, s1.heap.objs.size + 1], _, _, H1, rfl, I2, turn_zip a b _ _ _ _ _ D, ⟨gz, gTI, ⟨_, _, gTO⟩, g1, g2⟩, fun c hb => ?_, q⟩
  have hbl : s1.heap.objs.size ≤ c := by
    simp only [List.mem_cons, List.not_mem_nil, or_false] at hb
    rcases hb with rfl | rfl | rfl | rfl | rfl <;> first | exact Nat.le_refl _ | exact Nat.le_add_right _ _
  exact I1.fpOk hbl (I1.hok.fresh hbl)

/-! ### the forms one uses -/
theorem for_enum {K : PySem.W.Frag} {a : Addr} {xs : List V} {g : TG} {tb : TS} {D : Ends} {σ : St} {H : Hp} (Pv : Nat → St → Hp → Prop) (h0 : Pv 0 σ H) (hl : ∀ i σ H, i ≤ xs.length → Pv i σ H → SqL K H a xs)
    (hs : ∀ i x t σ H, xs[i]? = some x → Pv i σ H → H t = none → g (.ref t) σ (upd H t (.tup [.int i, x])) fun σ2 H2 => tb { D with nx := Pv (i + 1), ct := Pv (i + 1), bk := D.nx } σ2 H2) (hd : ∀ σ H, Pv xs.length σ H → D.nx σ H) :
    ∃ W : Nat → Nat → St → Hp → Prop, (∃ m, W 0 m σ H) ∧ ∀ i m σ H, W i m σ H →
      ((Ite K a).stop i H ∧ D.nx σ H) ∨ ((Ite K a).go i H ∧ ∃ N : St → Hp → Prop, (∀ σ' H', N σ' H' → ∃ m', m' < m ∧ W (i + 1) m' σ' H') ∧ ∀ x H', (Ite K a).yld i H x H' → g x σ H' fun σ2 H2 => tb { D with nx := N, ct := N, bk := D.nx } σ2 H2) := by
  refine ⟨fun i m σ H => m = xs.length - i ∧ i ≤ xs.length ∧ Pv i σ H, ⟨xs.length, by simp, Nat.zero_le _, h0⟩, ?_⟩
  rintro i m σ H ⟨rfl, hi, p⟩
  have q := hl i σ H hi p
  by_cases hlt : i < xs.length
  · refine .inr ⟨⟨xs, xs[i], q, by simp [hlt]⟩, Pv (i + 1), fun σ' H' p' => ⟨xs.length - (i + 1), by omega, rfl, hlt, p'⟩, fun x H' y => ?_⟩
    obtain ⟨t, z, rfl, hn, rfl, y⟩ := y
    exact hs i z t σ H (y xs q) p hn
  · have e : i = xs.length := by omega
    subst e
    exact .inl ⟨⟨xs, q, Nat.le_refl _⟩, hd σ H p⟩
theorem turns_zip {K : PySem.W.Frag} {a b p : Addr} {xs ys : List V} {g : TG} {tst : TT} {te : TE} {Q : Hp → Prop} {σ : St} {H : Hp} (Pv : Nat → St → Hp → Prop) (h0 : Pv 0 σ H) (hl : ∀ i σ H, Pv i σ H → SqL K H a xs ∧ SqL K H b ys)
    (hs : ∀ i x y t σ H, xs[i]? = some x → ys[i]? = some y → Pv i σ H → H t = none → g (.ref t) σ (upd H t (.tup [x, y])) fun σ2 H2 => tst σ2 H2 fun c H3 => if c = true then te σ2 H3 fun y H4 => ∃ zs, H4 p = some (.lst zs) ∧ zs.length < sizeLine ∧ Pv (i + 1) σ2 (upd H4 p (.lst (zs ++ [y]))) else Pv (i + 1) σ2 H3)
    (hd : ∀ σ H, Pv (min xs.length ys.length) σ H → Q H) : Turns (Itz K a b) g tst te p Q σ H := by
  refine ⟨fun i m σ H => m = min xs.length ys.length - i ∧ i ≤ min xs.length ys.length ∧ Pv i σ H, ⟨min xs.length ys.length, by simp, Nat.zero_le _, h0⟩, ?_⟩
  rintro i m σ H ⟨rfl, hi, p⟩
  obtain ⟨q1, q2⟩ := hl i σ H p
  by_cases hlt : i < min xs.length ys.length
  · have l1 : i < xs.length := by omega
    have l2 : i < ys.length := by omega
    refine .inr ⟨⟨xs, ys, xs[i], ys[i], q1, q2, by simp [l1], by simp [l2]⟩, Pv (i + 1), fun σ' H' p' => ⟨min xs.length ys.length - (i + 1), by omega, rfl, hlt, p'⟩, fun x H' y => ?_⟩
    obtain ⟨t, z, z', rfl, hn, rfl, y1, y2⟩ := y
    exact hs i z z' t σ H (y1 xs q1) (y2 ys q2) p hn
  · have e : i = min xs.length ys.length := by omega
    subst e
    exact .inl ⟨⟨xs, ys, q1, q2, by omega⟩, hd σ H p⟩
end L2
/-! sorted, any, all, sum, isinstance, join, f-strings, tuples joined, data compared. -/
namespace L2
open PySem PySem.Spec PyProof.Rows
section
variable {X : Cx}
/-! ### sorted of ints, fewer than 64 -/
theorem call_sortedI : CallR X (.builtin "sorted") (fun xs H Q => ∃ (p : Addr) (ns : List Int), xs = [.ref p] ∧ SqL X.K H p (ns.map V.int) ∧ ns.length < 64 ∧
    ∀ (l : Addr) (ns' : List Int), H l = none → ns'.Perm ns → ns'.Pairwise (· ≤ ·) → Q (.ref l) (upd H l (.lst (ns'.map V.int)))) := by
  intro pins s σ H xs us Q I r h
  obtain ⟨p, ns, rfl, hq, hz, q⟩ := h
  obtain ⟨u, rfl, ru⟩ := vals1 r
  cases ru
  obtain ⟨its, rv, pl, _⟩ := I.list hq
  have hI := intsAre_of rv
  have hl : its.length = ns.length := by rw [← rv.length, List.length_map]
  refine sorted_ints pl.isList hI (by omega) fun out ns' a1 a2 a3 => ?_
  obtain ⟨e, he⟩ := sortedAll_at s.heap its out
  have hlen : ns'.length = ns.length := a2.length_eq
  refine ⟨.ref (s.heap.objs.size + 1), _, I.laid (t' := s.toks) (a := s.heap.objs.size + 1) (o := .lst (ns'.map V.int)) (fun b ob z => sortedAll_old z) (Nat.le_succ _) ?_, rfl, q _ ns' (I.hok.fresh (Nat.le_succ _)) a2 a3⟩
  refine ⟨by rw [List.length_map, hlen, sizeLine_eq]; omega, out.toList, e, vals_ints a1, ?_⟩
  exact he
/-! ### any, all of bools; sum of ints -/
theorem bools_at {bs : List Bool} {us : List Value} (r : Vals (bs.map V.bl) us) {i : Nat} {v : Value} (e : us[i]? = some v) : ∃ b, bs[i]? = some b ∧ v = .bool b := by
  have hi : i < us.length := (List.getElem?_eq_some_iff.mp e).1
  have hb : i < bs.length := by
    have := r.length
    rw [List.length_map] at this
    omega
  obtain ⟨u, hu, ru⟩ := r.get (i := i) (x := .bl bs[i]) (by rw [List.getElem?_map, List.getElem?_eq_getElem hb]; rfl)
  rw [e] at hu
  cases hu
  exact ⟨bs[i], List.getElem?_eq_getElem hb, ru⟩
theorem range_any (bs : List Bool) : (List.range bs.length).any (fun i => bs.getD i false) = bs.any id := by
  rw [Bool.eq_iff_iff]
  simp only [List.any_eq_true, List.mem_range, id_eq]
  constructor
  · rintro ⟨i, hi, e⟩
    exact ⟨bs[i], List.getElem_mem hi, by simpa [List.getD_eq_getElem?_getD, hi] using e⟩
  · rintro ⟨b, hb, e⟩
    obtain ⟨i, hi, q⟩ := List.mem_iff_getElem.mp hb
    exact ⟨i, hi, by simp [List.getD_eq_getElem?_getD, hi, q, e]⟩
theorem range_all (bs : List Bool) : (List.range bs.length).all (fun i => bs.getD i false) = bs.all id := by
  rw [Bool.eq_iff_iff]
  simp only [List.all_eq_true, List.mem_range, id_eq]
  constructor
  · intro h b hb
    obtain ⟨i, hi, q⟩ := List.mem_iff_getElem.mp hb
    have := h i hi
    simpa [List.getD_eq_getElem?_getD, hi, q] using this
  · intro h i hi
    have := h bs[i] (List.getElem_mem hi)
    simpa [List.getD_eq_getElem?_getD, hi] using this
theorem handled_in1 {A : Around} (h : A.handled = none) : A.in1.handled = none := h
/-- what any and all do with the list at p -/
theorem walk_bools {pins : List (Addr × Obj)} {σ : St} {H : Hp} {s : Shared} {p : Addr} {bs : List Bool} {E : Value → Shared → Prop} {R : Nat → (Nat → Bool) → Value → Shared → Prop} (hc : X.calm = true) (I : Inv X pins σ H s) (hq : SqL X.K H p (bs.map V.bl))
    (fin : ∀ (It : Addr) (fp wr : List Addr) (P : Nat → Value → Prop) (St : Nat → Heap → Prop) (s2 : Shared), Walks X.prog X.w X.A.in1 It fp wr bs.length P St → St 0 s2.heap → TruthOf X.prog X.w X.A.in1 P (fun i => bs.getD i false) →
      (∀ h' tk, (∀ b o, b ∉ wr → s2.heap.get? b = some o → h'.get? b = some o) → Inv X pins σ H { s2 with heap := h', toks := tk }) → R bs.length (fun i => bs.getD i false) (.ref It) s2) :
    wpAny (model X.prog X.w) X.A.in1 (pyIter (.ref p)) (fun it s2 => R bs.length (fun i => bs.getD i false) it s2) E s := by
  obtain ⟨its, rv, pl, hz⟩ := I.list hq
  refine wpAny_pyIter_list pl.isList ?_
  have lp : p < s.heap.objs.size := by obtain ⟨_, o, _⟩ := pl.isList; exact Heap.lt_size o
  have hlen : its.toArray.size = bs.length := by rw [List.size_toArray, ← rv.length, List.length_map]
  have W := Walks.list (prog := X.prog) (w := X.w) (A := X.A.in1) (handled_in1 (I.ok.hd hc)) s.heap.objs.size p (Nat.ne_of_lt lp) its.toArray
  rw [hlen] at W
  refine fin _ _ _ _ _ _ W ⟨⟨_, Heap.get?_push_size _ rfl, rfl, rfl⟩, pl.isList.push _⟩ (fun i v s' Q' E' hP hQ => ?_) (fun h' tk hk => ?_)
  · obtain ⟨b, hb, rfl⟩ := bools_at (i := i) (v := v) rv (by simpa using hP)
    refine wpAny_truthy_bool ?_
    have : bs.getD i false = b := by rw [List.getD_eq_getElem?_getD, hb]; rfl
    simpa only [this] using hQ
  · refine I.kept (t' := tk) fun b o e => hk b o (fun z => ?_) (Heap.get?_push_of_some _ e)
    have : b = s.heap.objs.size := by simpa using z
    exact absurd (Heap.lt_size e) (by rw [this]; exact Nat.lt_irrefl _)
theorem call_anyB (hc : X.calm = true) : CallR X (.builtin "any") (fun xs H Q => ∃ (p : Addr) (bs : List Bool), xs = [.ref p] ∧ SqL X.K H p (bs.map V.bl) ∧ Q (.bl (bs.any id)) H) := by
  intro pins s σ H xs us Q I r h
  obtain ⟨p, bs, rfl, hq, q⟩ := h
  obtain ⟨u, rfl, ru⟩ := vals1 r
  cases ru
  refine call_any_walk (walk_bools hc I hq (R := fun n tr it s2 => ∃ It fp wr n P St tr, it = .ref It ∧ Walks X.prog X.w X.A.in1 It fp wr n P St ∧ St 0 s2.heap ∧ TruthOf X.prog X.w X.A.in1 P tr ∧
    ∀ h' tk, (∀ b o, b ∉ wr → s2.heap.get? b = some o → h'.get? b = some o) → EP X pins σ Q (.bool ((List.range n).any tr)) { s2 with heap := h', toks := tk }) ?_)
  intro It fp wr P St s2 W st tr k
  refine ⟨It, fp, wr, _, P, St, _, rfl, W, st, tr, fun h' tk hk => ?_⟩
  rw [range_any]
  exact ⟨.bl (bs.any id), H, k h' tk hk, rfl, q⟩
theorem call_allB (hc : X.calm = true) : CallR X (.builtin "all") (fun xs H Q => ∃ (p : Addr) (bs : List Bool), xs = [.ref p] ∧ SqL X.K H p (bs.map V.bl) ∧ Q (.bl (bs.all id)) H) := by
  intro pins s σ H xs us Q I r h
  obtain ⟨p, bs, rfl, hq, q⟩ := h
  obtain ⟨u, rfl, ru⟩ := vals1 r
  cases ru
  refine call_all_walk (walk_bools hc I hq (R := fun n tr it s2 => ∃ It fp wr n P St tr, it = .ref It ∧ Walks X.prog X.w X.A.in1 It fp wr n P St ∧ St 0 s2.heap ∧ TruthOf X.prog X.w X.A.in1 P tr ∧
    ∀ h' tk, (∀ b o, b ∉ wr → s2.heap.get? b = some o → h'.get? b = some o) → EP X pins σ Q (.bool ((List.range n).all tr)) { s2 with heap := h', toks := tk }) ?_)
  intro It fp wr P St s2 W st tr k
  refine ⟨It, fp, wr, _, P, St, _, rfl, W, st, tr, fun h' tk hk => ?_⟩
  rw [range_all]
  exact ⟨.bl (bs.all id), H, k h' tk hk, rfl, q⟩
theorem call_sumI (hc : X.calm = true) : CallR X (.builtin "sum") (fun xs H Q => ∃ (p : Addr) (ns : List Int), xs = [.ref p] ∧ SqL X.K H p (ns.map V.int) ∧ Q (.int ns.sum) H) := by
  intro pins s σ H xs us Q I r h
  obtain ⟨p, ns, rfl, hq, q⟩ := h
  obtain ⟨u, rfl, ru⟩ := vals1 r
  cases ru
  obtain ⟨its, rv, pl, _⟩ := I.list hq
  have hi := intsAre_of rv
  obtain ⟨ys, hys⟩ := hi.allInts.items
  refine sum_intListG (I.ok.hd hc) (xs := ys) (by rw [← hys]; exact pl.isList) fun h' tk t' hk => ?_
  refine ⟨.int ns.sum, H, I.kept (t' := tk) hk, ?_, q⟩
  have e1 : (numsOf its.toArray.toList).sum = ns.sum := by rw [show its.toArray.toList = its from rfl, hi.numsOf]
  rw [hys, nums_intItems] at e1
  rw [preSum_eq, List.take_of_length_le (by simp), ← e1]
  exact ⟨t', rfl⟩
/-! ### isinstance(x, T), T a built-in or an own class -/
theorem call_isinst : CallR X (.builtin "isinstance") (fun xs H Q => ∃ x c cv t b, xs = [x, c] ∧ RelV c cv ∧ (∀ u, RelV c u → u = cv) ∧ TyOf X.K H x t ∧ PySem.W.kitOne X.K t cv = some b ∧ Q (.bl b) H) := by
  intro pins s σ H xs us Q I r h
  obtain ⟨x, c, cv, t, b, rfl, rc, inj, ty, e, q⟩ := h
  obtain ⟨u, w', rfl, ru, rw'⟩ := vals2 r
  cases inj w' rw'
  exact isinst_ok I ru ty e fun tk => ⟨.bl b, H, I.tok tk, rfl, q⟩
theorem ty_inj {n : String} : ∀ u, RelV (.ty n) u → u = .type n := fun _ h => h
/-! ### t + u, any of the two empty or not -/
def rCatT' (K : PySem.W.Frag) : R2 := fun x y H Q => ∃ a b xs ys, x = .ref a ∧ y = .ref b ∧ SqT K H a xs ∧ SqT K H b ys ∧ xs.length + ys.length ≤ sizeLine ∧
  (xs = [] → Q (.ref b) H) ∧ (xs ≠ [] → ys = [] → Q (.ref a) H) ∧ (xs ≠ [] → ys ≠ [] → ∀ p, H p = none → Q (.ref p) (upd H p (.tup (xs ++ ys))))
theorem op_catT' : OpR X (binaryOp .Add) (rCatT' X.K) := by
  intro pins s σ H x y v u Q I rx ry h
  obtain ⟨a, b, xs, ys, rfl, rfl, ha, hb, hz, q0, q1, q2⟩ := h
  by_cases hx : xs = []
  · cases rx
    cases ry
    obtain ⟨its, r1, p1, _⟩ := I.tuple ha
    obtain ⟨its2, r2, p2, _⟩ := I.tuple hb
    obtain ⟨m, F⟩ := I.fr
    have hv : its = [] := r1.nil_iff.mpr hx
    refine add_tuples (news := []) F (fun q hq => by cases hq) p1 p2 (fun _ => ⟨.ref b, H, I, rfl, q0 hx⟩) (fun z => absurd hv z) (fun z => absurd hv z) (by rw [← r1.length, ← r2.length]; exact hz)
  · exact op_catT pins s σ H _ _ v u Q I rx ry ⟨a, b, xs, ys, rfl, rfl, ha, hb, hx, hz, q1 hx, q2 hx⟩
/-! ### sep.join(list of texts) -/
def rJoin (K : PySem.W.Frag) : V → List V → Hp → VK → Prop := fun x vs H Q => ∃ (z : Str) (p : Addr) (ys : List Str), x = .str z ∧ vs = [.ref p] ∧ SqL K H p (ys.map V.str) ∧ (ys.map (·.length)).sum + ys.length * z.length ≤ 16777216 ∧ Q (.str (Txt.join z ys)) H
theorem strsAre_of : ∀ {ys : List Str} {us : List Value}, Vals (ys.map V.str) us → StrsAre us ys
  | [], _, .nil => .nil
  | _ :: _, _, .cons r t => by
    obtain ⟨k, rfl⟩ := r
    exact .cons _ _ (strsAre_of t)
theorem mt_join : MtM X "str.join" (rJoin X.K) := by
  intro pins s σ H x xs v us Q I rx r h
  obtain ⟨z, p, ys, rfl, rfl, hq, hz, q⟩ := h
  obtain ⟨t, rfl⟩ := rx
  obtain ⟨u, rfl, ru⟩ := Vals.one r
  cases ru
  obtain ⟨its, rv, pl, _⟩ := I.list hq
  exact join_list pl.isList (strsAre_of rv) hz fun t' k => ⟨.str (Txt.join z ys), H, I.tok k, ⟨t', rfl⟩, q⟩
end

/-! ### data compared by == and != -/
open PySem.W (Dat) in
mutual
inductive DV (K : PySem.W.Frag) (H : Hp) : V → PySem.W.Dat → Prop
  | non : DV K H .non .none
  | int (i : Int) : DV K H (.int i) (.int i)
  | str (x : Str) : DV K H (.str x) (.str x)
  | lst {a : Addr} {xs : List V} {ds : List PySem.W.Dat} : SqL K H a xs → DVs K H xs ds → DV K H (.ref a) (.list ds)
  | tup {a : Addr} {xs : List V} {ds : List PySem.W.Dat} : SqT K H a xs → DVs K H xs ds → DV K H (.ref a) (.tuple ds)
inductive DVs (K : PySem.W.Frag) (H : Hp) : List V → List PySem.W.Dat → Prop
  | nil : DVs K H [] []
  | cons {x : V} {d : PySem.W.Dat} {xs : List V} {ds : List PySem.W.Dat} : DV K H x d → DVs K H xs ds → DVs K H (x :: xs) (d :: ds)
end
section
variable {X : Cx} {pins : List (Addr × Obj)} {σ : St} {H : Hp} {s : Shared}
mutual
theorem DV.reads (I : Inv X pins σ H s) : ∀ {x : V} {d : PySem.W.Dat} {u : Value}, DV X.K H x d → RelV x u → ∃ as, Reads s.heap u (PySem.W.kqdP d) as
  | _, _, _, .non, r => by cases r; exact ⟨_, Reads.none⟩
  | _, _, _, .int i, r => by obtain ⟨t, rfl⟩ := r; exact ⟨_, Reads.int i t⟩
  | _, _, _, .str x, r => by obtain ⟨t, rfl⟩ := r; exact ⟨_, Reads.str x t⟩
  | _, _, _, .lst hq hd, r => by
    cases r
    obtain ⟨its, rv, pl, _⟩ := I.list hq
    obtain ⟨as, q⟩ := DVs.reads I hd rv
    obtain ⟨o, ho, hc, n, hd'⟩ := pl.isList
    rw [PySem.W.kqdP]
    exact ⟨_, reads_list_at ho hc hd' (by simpa using q)⟩
  | _, _, _, .tup hq hd, r => by
    cases r
    obtain ⟨its, rv, pl, _⟩ := I.tuple hq
    obtain ⟨as, q⟩ := DVs.reads I hd rv
    obtain ⟨o, ho, hc, n, hd'⟩ := pl
    rw [PySem.W.kqdP]
    exact ⟨_, reads_tuple_at ho hc hd' (by simpa using q)⟩
theorem DVs.reads (I : Inv X pins σ H s) : ∀ {xs : List V} {ds : List PySem.W.Dat} {us : List Value}, DVs X.K H xs ds → Vals xs us → ∃ as, ReadsAll s.heap us (PySem.W.kqdPs ds) as
  | _, _, _, .nil, r => by cases r; exact ⟨_, ReadsAll.nil⟩
  | _, _, _, .cons hd t, r => by
    cases r with
    | cons r1 r2 =>
      obtain ⟨as, q⟩ := DV.reads I hd r1
      obtain ⟨bs, p⟩ := DVs.reads I t r2
      rw [PySem.W.kqdPs]
      exact ⟨_, ReadsAll.cons q p⟩
end
open Classical in
def rEqD (K : PySem.W.Frag) : R2 := fun x y H Q => ∃ d e, DV K H x d ∧ DV K H y e ∧ PySem.W.kqdOk 9 d = true ∧ PySem.W.kqdOk 9 e = true ∧ Q (.bl (decide (d = e))) H
open Classical in
def rNeD (K : PySem.W.Frag) : R2 := fun x y H Q => ∃ d e, DV K H x d ∧ DV K H y e ∧ PySem.W.kqdOk 9 d = true ∧ PySem.W.kqdOk 9 e = true ∧ Q (.bl (!decide (d = e))) H
open Classical in
theorem eqv_dec {d e : PySem.W.Dat} (h1 : PySem.W.kqdOk 9 d = true) (h2 : PySem.W.kqdOk 9 e = true) : PyData.eqv (PySem.W.kqdP d) (PySem.W.kqdP e) = decide (d = e) := by
  have q := PySem.W.kqd_eqv 9 d e 9 h1 h2
  by_cases hq : d = e
  · rw [decide_eq_true hq]; exact q.mpr hq
  · rw [decide_eq_false hq]; exact Bool.eq_false_iff.mpr fun z => hq (q.mp z)
theorem shaped_of {d : PySem.W.Dat} (h : PySem.W.kqdOk 9 d = true) : SeqAt.shaped (PySem.W.kqdP d) = true := by
  have l := PySem.W.kqd_lay 9 d h
  unfold SeqAt.shaped
  rw [l.1, Bool.true_and]
  exact decide_eq_true (Nat.le_trans l.2 (by decide))
theorem op_eqD (hu : X.A.units + 64 < cLine) : OpR X (compareOp .Eq) (rEqD X.K) := by
  intro pins s σ H x y v u Q I rx ry h
  obtain ⟨d, e, hd, he, k1, k2, q⟩ := h
  obtain ⟨as, ra⟩ := hd.reads I rx
  obtain ⟨bs, rb⟩ := he.reads I ry
  refine eq_dataH ra rb (shaped_of k1) (shaped_of k2) hu ?_
  rw [eqv_dec k1 k2]
  exact ⟨.bl _, H, I, rfl, q⟩
theorem op_neD (hu : X.A.units + 64 < cLine) : OpR X (compareOp .NotEq) (rNeD X.K) := by
  intro pins s σ H x y v u Q I rx ry h
  obtain ⟨d, e, hd, he, k1, k2, q⟩ := h
  obtain ⟨as, ra⟩ := hd.reads I rx
  obtain ⟨bs, rb⟩ := he.reads I ry
  refine ne_dataH ra rb (shaped_of k1) (shaped_of k2) hu ?_
  rw [eqv_dec k1 k2]
  exact ⟨.bl _, H, I, rfl, q⟩
end
end L2
/-! Rules that a term generator can name by the construct alone; contracts of defs, methods, classes. -/
namespace L2
open PySem PySem.Spec PyProof.Rows
section
variable {X : Cx}
/-! ### one rule an operator -/
def rAddU (K : PySem.W.Frag) : R2 := fun x y H Q => rI0 (fun i j => .int (i + j)) x y H Q ∨ rCat x y H Q ∨ rCatT' K x y H Q ∨ (∃ i j, x = .str i ∧ y = .str j ∧ i.length + j.length ≤ sizeLine ∧ Q (.str (i ++ j)) H)
theorem op_addU : OpR X (binaryOp .Add) (rAddU X.K) := OpR.or op_add (OpR.or op_cat (OpR.or op_catT' op_add_str))
def rMulU : R2 := fun x y H Q => rI CMul (fun i j => .int (i * j)) x y H Q ∨ rRep x y H Q
theorem op_mulU : OpR X (binaryOp .Mult) rMulU := OpR.or op_mul op_rep
def rEqU (K : PySem.W.Frag) : R2 := fun x y H Q => rEq x y H Q ∨ rEqD K x y H Q
theorem op_eqU (hu : X.A.units + 64 < cLine) : OpR X (compareOp .Eq) (rEqU X.K) := OpR.or op_eq (op_eqD hu)
def rNeU (K : PySem.W.Frag) : R2 := fun x y H Q => rNe x y H Q ∨ rNeD K x y H Q
theorem op_neU (hu : X.A.units + 64 < cLine) : OpR X (compareOp .NotEq) (rNeU X.K) := OpR.or op_ne (op_neD hu)
def rIxLT (K : PySem.W.Frag) : R2 := fun x y H Q => rIxL K x y H Q ∨ rIxT K x y H Q
theorem ix_LT : IxR X (rIxLT X.K) := IxR.or ix_list ix_tup
def rPopU : V → List V → Hp → VK → Prop := fun x vs H Q => rPop x vs H Q ∨ rPopAt x vs H Q
theorem mt_popU : MtR X "list.pop" rPopU := MtR.or mt_pop mt_popAt
theorem RelV.bool_iff {x : V} {v : Value} {b : Bool} (r : RelV x v) : (v == Value.bool b) = decide (x = .bl b) := by
  cases x with
  | bl c => cases (show v = Value.bool c from r); cases b <;> cases c <;> rfl
  | non => cases r; rfl
  | int _ => obtain ⟨t, rfl⟩ := r; rfl
  | str _ => obtain ⟨t, rfl⟩ := r; rfl
  | byt _ => obtain ⟨t, rfl⟩ := r; rfl
  | flt _ => obtain ⟨t, rfl⟩ := r; rfl
  | ref _ => cases r; rfl
  | ty _ => cases r; rfl
theorem same_bool {x : V} {v : Value} {b : Bool} (r : RelV x v) : isSame v (.bool b) = pure (decide (x = .bl b)) := by
  rw [← r.bool_iff (b := b)]
  cases x with
  | bl c => cases (show v = Value.bool c from r); rfl
  | non => cases r; rfl
  | int _ => obtain ⟨t, rfl⟩ := r; rfl
  | str _ => obtain ⟨t, rfl⟩ := r; rfl
  | byt _ => obtain ⟨t, rfl⟩ := r; rfl
  | flt _ => obtain ⟨t, rfl⟩ := r; rfl
  | ref _ => cases r; rfl
  | ty _ => cases r; rfl
theorem op_notC : OpR X (compareOp .IsNot) (fun x y H Q => ∃ b, y = .bl b ∧ Q (.bl (!decide (x = .bl b))) H) := by
  intro pins s σ H x y v u Q I rx ry h
  obtain ⟨b, rfl, q⟩ := h
  cases (show u = Value.bool b from ry)
  show wpAny _ _ (do return Value.bool (!(← isSame v (.bool b)))) _ _ _
  rw [same_bool rx]
  exact wpAny_pure ⟨.bl _, H, I, rfl, q⟩
end

/-! ### contracts -/
structure Ctr (P : Program) (w : World) (K : PySem.W.Frag) (mg : Str → Option Value) (base : Heap) (CX : CXT) (k : Nat) (x : Str) (ps : List Str) (sp : Sp) : Prop where
  ex : ∃ f fd, FnOk P w K mg base CX k f fd ps sp ∧ mg x = some (.ref f) ∧ PySem.W.keepIn K (.ref f) = true ∧ Binds K fd ps []
structure CtrM (P : Program) (w : World) (K : PySem.W.Frag) (mg : Str → Option Value) (base : Heap) (CX : CXT) (k : Nat) (C : Addr) (m : Str) (ps : List Str) (sp : Sp) : Prop where
  cl : Cls K C
  ex : ∃ f fd, FnOk P w K mg base CX k f fd ps sp ∧ Meth K C m f ∧ Binds K fd ps []
structure CtrC (P : Program) (w : World) (K : PySem.W.Frag) (mg : Str → Option Value) (base : Heap) (CX : CXT) (k : Nat) (x : Str) (C : Addr) (ps : List Str) (sp : Sp) : Prop where
  at_ : mg x = some (.ref C)
  ex : ∃ f fd, FnOk P w K mg base CX k f fd ps sp ∧ Mk K C f ∧ Binds K fd ps []
section
variable {X : Cx} {CX : CXT} {k : Nat} {C : Addr} {ps : List Str} {sp : Sp} {E : XK} {x m : Str} {p pos apos : Pos} {e o : Expr} {es : List Expr} {ta : TE} {t : TA}
theorem pe_callCE (c : Ctr X.prog X.w X.K X.mg X.base CX k x ps sp) (hr : Room k X.A) (hg : Gl X x) (ha : PA X (e :: es) t) (hx : Passes CX X E) (hdb : (x == ("__debug__" : Str)) = false := by decide)
    (he : starEach (e :: es) X.env = (false, eval e X.env) :: starEach es X.env := by rfl) (hpl : (backTo pos (starEach es X.env)).any (·.1) = false := by rfl) : PE X (.Call (.Name x p) (e :: es) [] pos) (tCall sp [] E t) := by
  obtain ⟨f, fd, F, hm, hk, hb⟩ := c.ex
  exact pe_call F hr hg hm hk hb .nil hx ha hdb he hpl
theorem pe_callC (c : Ctr X.prog X.w X.K X.mg X.base CX0 k x ps sp) (hr : Room k X.A) (hg : Gl X x) (ha : PA X (e :: es) t) (hdb : (x == ("__debug__" : Str)) = false := by decide)
    (he : starEach (e :: es) X.env = (false, eval e X.env) :: starEach es X.env := by rfl) (hpl : (backTo pos (starEach es X.env)).any (·.1) = false := by rfl) : PE X (.Call (.Name x p) (e :: es) [] pos) (tCall sp [] E0 t) :=
  pe_callCE c hr hg ha pass0 hdb he hpl
theorem pe_methC {pl : Sem Bool} (he : PE X o ta) (c : CtrM X.prog X.w X.K X.mg X.base CX0 k C m ps sp) (hr : Room k X.A) (ha : PA X (e :: es) t)
    (hst : starEach (e :: es) X.env = (false, eval e X.env) :: starEach es X.env := by rfl) (hpl : (backTo pos (starEach es X.env)).any (·.1) = false := by rfl)
    (ht : eval (.Call (.Attribute o m apos) (e :: es) [] pos) X.env = (do
      let ov ← eval o X.env
      standAt apos.atName
      let (f, first) ← holding [ov] (getMethod ov m pl)
      callWith pos f first (backTo pos (starEach (e :: es) X.env)) (backToKw pos (keywordEach [] X.env))) := by rfl) :
    PE X (.Call (.Attribute o m apos) (e :: es) [] pos) (tMeth C m sp [] E0 ta t) := by
  obtain ⟨f, fd, F, hm, hb⟩ := c.ex
  exact pe_meth (pl := pl) he c.cl hm F hr hb .nil pass0 ha hst hpl ht
theorem pe_methC0 {pl : Sem Bool} (he : PE X o ta) (c : CtrM X.prog X.w X.K X.mg X.base CX0 k C m ps sp) (hr : Room k X.A)
    (ht : eval (.Call (.Attribute o m apos) [] [] pos) X.env = (do
      let ov ← eval o X.env
      standAt apos.atName
      let (f, first) ← holding [ov] (getMethod ov m pl)
      callWith pos f first (backTo pos (starEach [] X.env)) (backToKw pos (keywordEach [] X.env))) := by rfl) :
    PE X (.Call (.Attribute o m apos) [] [] pos) (tMeth C m sp [] E0 ta tNil) := by
  obtain ⟨f, fd, F, hm, hb⟩ := c.ex
  exact pe_meth0 (pl := pl) he c.cl hm F hr hb .nil pass0 ht
theorem pe_makeC (c : CtrC X.prog X.w X.K X.mg X.base CX0 k x C ps sp) (hr : Room (k + 1) X.A) (hg : Gl X x) (ha : PA X (e :: es) t) (hdb : (x == ("__debug__" : Str)) = false := by decide)
    (he : starEach (e :: es) X.env = (false, eval e X.env) :: starEach es X.env := by rfl) (hpl : (backTo pos (starEach es X.env)).any (·.1) = false := by rfl) :
    PE X (.Call (.Name x p) (e :: es) [] pos) (tMake C sp [] E0 t) := by
  obtain ⟨f, fd, F, hm, hb⟩ := c.ex
  exact pe_make hm F hr hg c.at_ hb .nil pass0 ha hdb he hpl
end

/-- a built-in type as a value -/
theorem pe_tyN {X : Cx} {x : Str} {n : String} {pos : Pos} (hg : Gl X x) (hm : X.mg x = none) (hv : bootBuiltins x = some (.type n)) (hn : x ≠ "__name__" := by decide) (hd : (x == ("__debug__" : Str)) = false := by decide) : PE X (.Name x pos) (tC (.ty n)) :=
  pe_bltn (v := .ty n) hg hm hv rfl hn hd
/-- an own class as a value -/
theorem pe_clsN {X : Cx} {x : Str} {C : Addr} {pos : Pos} (hg : Gl X x) (hm : X.mg x = some (.ref C)) (hd : (x == ("__debug__" : Str)) = false := by decide) : PE X (.Name x pos) (tC (.ref C)) := pe_glob (v := .ref C) hg hm rfl hd
/-! ### small words for readings -/
/-- an int of the module -/
theorem pe_gint {X : Cx} {x : Str} {n : Int} {pos : Pos} (hg : Gl X x) (hm : ∃ t, X.mg x = some (.int n t)) (hd : (x == ("__debug__" : Str)) = false := by decide) : PE X (.Name x pos) (tC (.int n)) :=
  let ⟨t, e⟩ := hm; pe_glob hg e ⟨t, rfl⟩ hd
theorem upd_get {H : Hp} {a b : Addr} {o u : HO} (h : H b = some u) (ha : H a = none) : upd H a o b = some u := by rw [upd_ne (ne_of_none h ha)]; exact h
theorem Same.upd {H : Hp} {a : Addr} {o : HO} (h : H a = none) : Same H (L2.upd H a o) := fun b u e => upd_get e h
theorem Same.tupq {K : PySem.W.Frag} {H H' : Hp} {a : Addr} {xs : List V} (e : Same H H') (h : SqT K H a xs) : SqT K H' a xs := by
  rcases h with (h | ⟨o, h⟩) | h
  · exact .inl (.inl (e _ _ h))
  · exact .inl (.inr ⟨o, e _ _ h⟩)
  · exact .inr h
end L2
/-! The rules whose readings speak of the text's written part, with that part named (K): so they serve inside a comprehension too. -/
namespace L2
open PySem PySem.Spec PyProof.Rows
section
variable {X : Cx} {K : PySem.W.Frag} {a b c e o l value : Expr} {es : List Expr} {ta tb te tl tv to : TE} {t : TA} {f name : Str} {pos pos' p apos cpos tpos : Pos} {T id : String} {r : V → List V → Hp → VK → Prop}
theorem op_addK (hK : X.K = K) : OpR X (binaryOp .Add) (rAddU K) := by subst hK; exact op_addU
theorem op_eqK (hK : X.K = K) (hu : X.A.units + 64 < cLine) : OpR X (compareOp .Eq) (rEqU K) := by subst hK; exact op_eqU hu
theorem op_neK (hK : X.K = K) (hu : X.A.units + 64 < cLine) : OpR X (compareOp .NotEq) (rNeU K) := by subst hK; exact op_neU hu
theorem op_notInK (hK : X.K = K) : OpR X (compareOp .NotIn) (rIn K true) := by subst hK; exact op_notIn_seq
theorem ix_K (hK : X.K = K) : IxR X (rIxLT K) := by subst hK; exact ix_LT
theorem sl_K (hK : X.K = K) : SlR X (rSlL K) := by subst hK; exact sl_list
theorem pe_fldK (hK : X.K = K) (he : PE X e ta) (hb : attributeBase e f X.env (eval e X.env) = eval e X.env) : PE X (.Attribute e f pos) (tFld K ta f) := by subst hK; exact pe_fld he hb
theorem ps_fldK (hK : X.K = K) (ha : PE X o ta) (hv : PE X value tv) (hs : swapsWith value (some (.Attribute o f pos')) pos.line X.env = pure false) : PS X (.Assign [.Attribute o f pos'] value pos) (sFld K ta tv f) := by subst hK; exact ps_fld ha hv hs
theorem ps_fldaugK {op : Operator} {rd : V → V → Hp → VK → Prop} (hK : X.K = K) (ha : PE X o ta) (hv : PE X value tv) (hop : InOp X op rd) : PS X (.AugAssign (.Attribute o f tpos) op value pos) (sFldAug K ta tv rd f) := by subst hK; exact ps_fldaug ha hv hop
theorem pi_listK {tg : Expr} (hK : X.K = K) (hl : PE X l tl) : PI X tg l (iList K tl) := by subst hK; exact pi_list hl
theorem pi_tupK {tg : Expr} (hK : X.K = K) (hl : PE X l tl) : PI X tg l (iTup K tl) := by subst hK; exact pi_tup hl
theorem pi_enumK {k : Nat} (hK : X.K = K) (hg : Gl X "enumerate") (hm : X.mg "enumerate" = none) (ha : PA X [l] t) (hs : starEach [l] X.env = [(false, eval l X.env)] := by rfl) : PI X (.Tuple es k tpos) (.Call (.Name "enumerate" p) [l] [] pos) (iEnum K t) := by subst hK; exact pi_enum hg hm ha hs
theorem pi_zipK {k : Nat} {m : Expr} (hK : X.K = K) (hg : Gl X "zip") (hm : X.mg "zip" = none) (ha : PA X [l, m] t) (hs : starEach [l, m] X.env = [(false, eval l X.env), (false, eval m X.env)] := by rfl) (hs2 : starEach [m] X.env = [(false, eval m X.env)] := by rfl) :
    PI X (.Tuple es k tpos) (.Call (.Name "zip" p) [l, m] [] pos) (iZip K t) := by subst hK; exact pi_zip hg hm ha hs hs2
theorem pg_tupK {k n : Nat} {ts : TGs} (hK : X.K = K) (hc : X.calm = true) (h : PGs X es ts) (hn : (assignEach es X.env).length = n := by rfl) (hst : (assignEach es X.env).findIdx? (·.1) = none := by rfl) : PG X (.Tuple es k pos) (gTup K n ts) := by
  subst hK; exact pg_tup hc h hn hst
theorem pe_bmK0 (hK : X.K = K) (pa : PlainAttrs T) (slot : Slot T name id) (hty : typeOf (.builtin id) = pure (.type "method_descriptor")) (hm : MtR X id r) (ho : PE X o to)
    (hbase : attributeBase o name X.env (eval o X.env) = eval o X.env := by rfl) (hline : (apos.endLine == cpos.line) = true := by rfl) : PE X (.Call (.Attribute o name apos) [] [] cpos) (tBM0 K T r to) := by subst hK; exact pe_bm0 pa slot hty hm ho hbase hline
theorem callK_len (hK : X.K = K) : CallR X (.builtin "len") (fun xs H Q => ∃ x n, xs = [x] ∧ LenV K x H n ∧ Q (.int n) H) := by subst hK; exact call_len
theorem callK_list (hK : X.K = K) : CallR X (.type "list") (fun xs H Q => ∃ p ys, xs = [.ref p] ∧ (SqL K H p ys ∨ SqT K H p ys) ∧ ∀ l, H l = none → Q (.ref l) (upd H l (.lst ys))) := by subst hK; exact call_list_of
theorem callK_sorted (hK : X.K = K) : CallR X (.builtin "sorted") (fun xs H Q => ∃ (p : Addr) (ns : List Int), xs = [.ref p] ∧ SqL K H p (ns.map V.int) ∧ ns.length < 64 ∧
    ∀ (l : Addr) (ns' : List Int), H l = none → ns'.Perm ns → ns'.Pairwise (· ≤ ·) → Q (.ref l) (upd H l (.lst (ns'.map V.int)))) := by subst hK; exact call_sortedI
theorem callK_any (hK : X.K = K) (hc : X.calm = true) : CallR X (.builtin "any") (fun xs H Q => ∃ (p : Addr) (bs : List Bool), xs = [.ref p] ∧ SqL K H p (bs.map V.bl) ∧ Q (.bl (bs.any _root_.id)) H) := by subst hK; exact call_anyB hc
theorem callK_all (hK : X.K = K) (hc : X.calm = true) : CallR X (.builtin "all") (fun xs H Q => ∃ (p : Addr) (bs : List Bool), xs = [.ref p] ∧ SqL K H p (bs.map V.bl) ∧ Q (.bl (bs.all _root_.id)) H) := by subst hK; exact call_allB hc
theorem callK_sum (hK : X.K = K) (hc : X.calm = true) : CallR X (.builtin "sum") (fun xs H Q => ∃ (p : Addr) (ns : List Int), xs = [.ref p] ∧ SqL K H p (ns.map V.int) ∧ Q (.int ns.sum) H) := by subst hK; exact call_sumI hc
theorem callK_isinstance (hK : X.K = K) : CallR X (.builtin "isinstance") (fun xs H Q => ∃ x c cv t b, xs = [x, c] ∧ RelV c cv ∧ (∀ u, RelV c u → u = cv) ∧ TyOf K H x t ∧ PySem.W.kitOne K t cv = some b ∧ Q (.bl b) H) := by subst hK; exact call_isinst
theorem pt_truK (hK : X.K = K) (ha : PE X a ta) (he : ∀ whole, isTrue a X.env whole = (do let v ← whole; standAt a.pos; holding [v] (truthy v))) : PT X a (fun σ H Q => ta σ H fun x H' => ∃ k, TruV K x H' k ∧ Q k H') := by subst hK; exact pt_truth ha he
theorem mt_joinK (hK : X.K = K) : MtR X "str.join" (rJoin K) := by subst hK; exact mt_join
end
section
variable {X : Cx} {K : PySem.W.Frag} {o e : Expr} {es : List Expr} {to : TE} {t : TA} {name : Str} {apos cpos : Pos} {T id : String} {r : V → List V → Hp → VK → Prop}
theorem pe_bmK (hK : X.K = K) (pa : PlainAttrs T) (slot : Slot T name id) (hty : typeOf (.builtin id) = pure (.type "method_descriptor")) (hm : MtR X id r) (ho : PE X o to) (ha : PA X (e :: es) t)
    (hbase : attributeBase o name X.env (eval o X.env) = eval o X.env := by rfl)
    (hfew : ((backTo cpos (starEach (e :: es) X.env)).all (fun x => !x.1) && (backToKw cpos (keywordEach [] X.env)).all (fun x => x.1.isSome)
      && decide ((e :: es).length + ([] : List Keyword).length + (if ([] : List Keyword).isEmpty then 0 else 1) < 30)) = true := by rfl)
    (hline : (apos.endLine == cpos.line) = true := by rfl) (hs : starEach (e :: es) X.env = (false, eval e X.env) :: starEach es X.env := by rfl) (hplain : (backTo cpos (starEach es X.env)).any (·.1) = false := by rfl) :
    PE X (.Call (.Attribute o name apos) (e :: es) [] cpos) (tBM K T r to t) := by subst hK; exact pe_bm pa slot hty hm ho ha hbase hfew hline hs hplain
end
end L2
/-! Small facts about lists, cuts, orders. -/
namespace L2
open PySem PySem.Spec PyProof.Rows

theorem cutV_from (xs : List V) (k : Nat) : cutV xs (some (k : Int)) none = xs.drop k := by
  unfold cutV
  rw [HT.sIx_nat, HT.sIx_none]
  by_cases h : k ≤ xs.length
  · rw [Nat.min_eq_left h, List.take_of_length_le (by simp)]
  · rw [Nat.min_eq_right (by omega), List.drop_of_length_le (Nat.le_refl _), List.drop_of_length_le (by omega), List.take_nil]
theorem cutV_to (xs : List V) (k : Nat) : cutV xs none (some (k : Int)) = xs.take k := by
  unfold cutV
  rw [HT.sIx_nat, HT.sIx_none]
  simp only [List.drop_zero, Nat.sub_zero]
  by_cases h : k ≤ xs.length
  · rw [Nat.min_eq_left h]
  · rw [Nat.min_eq_right (by omega), List.take_of_length_le (Nat.le_refl _), List.take_of_length_le (by omega)]
/-- two neighbours alike -/
def adj (ns : List Int) : List Bool := (ns.zip (ns.drop 1)).map fun p => decide (p.1 = p.2)
theorem adj_len (ns : List Int) : (adj ns).length = min ns.length (ns.length - 1) := by
  unfold adj
  rw [List.length_map, List.length_zip, List.length_drop]
theorem adj_cons (a b : Int) (r : List Int) : adj (a :: b :: r) = decide (a = b) :: adj (b :: r) := by
  unfold adj
  simp
theorem adj_get {ns : List Int} {i : Nat} {x y : Int} (hx : ns[i]? = some x) (hy : (ns.drop 1)[i]? = some y) : (adj ns)[i]? = some (decide (x = y)) := by
  unfold adj
  rw [List.getElem?_map, List.getElem?_zip_eq_some (z := (x, y)) |>.mpr ⟨hx, hy⟩]
  rfl
theorem adj_take {ns : List Int} {i : Nat} {x y : Int} (hx : ns[i]? = some x) (hy : (ns.drop 1)[i]? = some y) : (adj ns).take (i + 1) = (adj ns).take i ++ [decide (x = y)] := by
  rw [List.take_add_one, adj_get hx hy]
  rfl
/-- in a rising list two alike stand beside one another -/
theorem adj_nodup : ∀ {ns : List Int}, ns.Pairwise (· ≤ ·) → ((adj ns).any id = !decide ns.Nodup)
  | [], _ => by simp [adj]
  | [a], _ => by simp [adj]
  | a :: b :: r, h => by
    rw [List.pairwise_cons] at h
    have ih := adj_nodup h.2
    rw [adj_cons, List.any_cons, ih]
    have hab : a ≤ b := h.1 b List.mem_cons_self
    by_cases e : a = b
    · subst e
      have : ¬ (a :: a :: r).Nodup := fun z => (List.nodup_cons.mp z).1 List.mem_cons_self
      simp [this]
    · have ne : a ∉ b :: r := fun hm => by
        rcases List.mem_cons.mp hm with z | z
        · exact e z
        · have h1 := (List.pairwise_cons.mp h.2).1 a z
          exact e (by omega)
      have : (a :: b :: r).Nodup ↔ (b :: r).Nodup := by rw [List.nodup_cons]; exact ⟨fun z => z.2, fun z => ⟨ne, z⟩⟩
      by_cases hn : (b :: r).Nodup
      · simp [e, this.mpr hn, hn]
      · simp [e, this, hn]
theorem getMap {α β : Type} {f : α → β} {l : List α} {i : Nat} {y : β} (h : (l.map f)[i]? = some y) : ∃ x, l[i]? = some x ∧ y = f x := by
  rw [List.getElem?_map] at h
  cases e : l[i]? with
  | none => rw [e] at h; cases h
  | some x => rw [e] at h; exact ⟨x, rfl, (Option.some.inj h).symm⟩
theorem take_snoc {α : Type} {l : List α} {i : Nat} {x : α} (h : l[i]? = some x) : l.take (i + 1) = l.take i ++ [x] := by
  rw [List.take_add_one, h]
  rfl
theorem decV (a b : Int) : decide (V.int a = V.int b) = decide (a = b) := decide_eq_decide.mpr ⟨fun h => V.int.inj h, fun h => h ▸ rfl⟩
end L2
/-! A frame's note on an exception that passes: the object itself stays known, its dict too. -/
namespace Xc
open PySem
section
variable {M : Model} {A : Around} {E : Value → Shared → Prop} {s : Shared}
/-- an exception at e: class, dict, its first arguments; its chain of notes begins at T (flight fl) -/
structure Exc (h : Heap) (e : Addr) (cls : Value) (od : Option Addr) (sl : Array (Option Value)) (vs : Array Value) : Prop where
  obj : h.get? e = some { cls := cls, dict := od, data := .fields vs, slots := sl }
  big : 2 < vs.size
structure Tb (h : Heap) (T : Addr) (fl : Value) : Prop where
  ex : ∃ oT ts, h.get? T = some oT ∧ oT.data = .fields ts ∧ ts[3]? = some fl
theorem map_at {h : Heap} {a : Addr} {o : Obj} {vs : Array Value} {i : Nat} {x : Value} (ho : h.get? a = some o) (hd : o.data = .fields vs) :
    (h.update a (Obj.mapFields (·.setIfInBounds i x))).get? a = some { o with data := .fields (vs.setIfInBounds i x) } := by
  rw [Heap.get?_update_self _ ho (Obj.isFreed_of_fields (Obj.data_mapFields hd _))]
  obtain ⟨c, d, dt, sl⟩ := o
  subst hd
  rfl
/-- the note written: a new entry T' over the old one (or the first) -/
theorem entry_new {base : Heap} {env : Env} {outer : List Env} {L e : Addr} {cls : Value} {od : Option Addr} {sl : Array (Option Value)} {vs : Array Value} {head : Value} {had : Bool} {Q : Unit → Shared → Prop}
    (hfr : A.frames = some (env :: outer)) (hl : s.heap.FunFrames base (env :: outer)) (hf : env.frame = some L) (hx : Exc s.heap e cls od sl vs)
    (h : ∀ h' T', (∀ b o, b ∉ (env :: outer).filterMap (·.frame) → b ≠ e → s.heap.get? b = some o → h'.get? b = some o) → (∀ b o, b ≠ e → s.heap.get? b = some o → ∃ k, h'.get? b = some { o with slots := k }) →
      s.heap.objs.size ≤ T' → Exc h' e cls od sl (vs.setIfInBounds 1 (.ref T')) → Tb h' T' (rawInt L) → Q () { s with heap := h' }) :
    wpAny M A (do let a ← frameOf env; let pl ← entryPlaceOf L had; let b ← EntryCells.newEntry head a .none (rawInt L) .none pl; setField (.ref e) 1 b) Q E s := by
  have he := hx.obj
  have nfr : e ∉ (env :: outer).filterMap (·.frame) := fun hm => by
    obtain ⟨_, o, ho, hn⟩ := hl.mem hm
    rw [he] at ho
    cases ho
    exact hn vs rfl
  refine wpAny_bind (wpAny_frameOf_fun hfr hl hf fun g hs => wpAny_bind (wpAny_entryPlaceOf fun pl hpl => ?_))
  unfold EntryCells.newEntry newFields
  refine wpAny_bind (wpAny_newObj_type ?_ (hpl.sizeOk5 _ _ _ _ _))
  have e1 : g.get? e = some { cls := cls, dict := od, data := .fields vs, slots := sl } := (hs.2.1 e nfr).trans he
  generalize eN : ({ cls := .type "traceback", dict := none, data := .fields ([head, Value.ref L, .none, rawInt L, .none] ++ (if pl.isEmpty then List.replicate 6 Value.none else pl)).toArray } : Obj) = oN
  have eD : oN.data = .fields ([head, Value.ref L, .none, rawInt L, .none] ++ (if pl.isEmpty then List.replicate 6 Value.none else pl)).toArray := by rw [← eN]
  have e2 := Heap.get?_push_of_some (h := g) oN e1
  have eT : g.objs.size ≠ e := Nat.ne_of_gt (Heap.lt_size e1)
  refine wpAny_setField e2 rfl (Nat.lt_of_succ_lt hx.big) (h _ g.objs.size (fun b o hb hbe q => ?_) (fun b o hbe q => ?_) (Nat.le_of_eq hs.1.symm) ⟨map_at e2 rfl, by simpa using hx.big⟩ ⟨⟨oN, _, ?_, eD, ?_⟩⟩)
  · exact (Heap.get?_update_other _ _ (Ne.symm hbe)).trans (Heap.get?_push_of_some _ ((hs.2.1 b hb).trans q))
  · obtain ⟨k, z⟩ := hs.2.2 b o q
    exact ⟨k, (Heap.get?_update_other _ _ (Ne.symm hbe)).trans (Heap.get?_push_of_some _ z)⟩
  · exact (Heap.get?_update_other _ _ (Ne.symm eT)).trans (Heap.get?_push_size _ (by rw [← eN]; rfl))
  · rcases hpl with rfl | ⟨_, _, _, _, _, _, _, rfl⟩ <;> simp
/-- noteFrame: nobody has noted yet, or the last note is another frame's that has landed -/
theorem note_step {base : Heap} {env : Env} {outer : List Env} {L e : Addr} {cls : Value} {od : Option Addr} {sl : Array (Option Value)} {vs : Array Value} {Q : Unit → Shared → Prop}
    (hfr : A.frames = some (env :: outer)) (hl : s.heap.FunFrames base (env :: outer)) (hf : env.frame = some L) (hx : Exc s.heap e cls od sl vs)
    (ht : vs[1]? = some .none ∨ ∃ T, vs[1]? = some (.ref T) ∧ T ≠ e ∧ Tb s.heap T .none)
    (h : ∀ h' T', (∀ b o, b ∉ (env :: outer).filterMap (·.frame) → b ≠ e → vs[1]? ≠ some (.ref b) → s.heap.get? b = some o → h'.get? b = some o) →
      (∀ b o, b ≠ e → vs[1]? ≠ some (.ref b) → s.heap.get? b = some o → ∃ k, h'.get? b = some { o with slots := k }) → (∀ b o, vs[1]? = some (.ref b) → s.heap.get? b = some o → ∃ o', h'.get? b = some o') →
      s.heap.objs.size ≤ T' → Exc h' e cls od sl (vs.setIfInBounds 1 (.ref T')) → Tb h' T' (rawInt L) → Q () { s with heap := h' }) :
    wpAny M A (noteFrame (.ref e) env) Q E s := by
  unfold noteFrame
  simp only [hf]
  rcases ht with h1 | ⟨T, h1, hTe, ⟨oT, ts, hT, hdT, h3⟩⟩
  · refine wpAny_bind (wpAny_field hx.obj rfl h1 ?_)
    rw [if_neg (by decide)]
    exact entry_new hfr hl hf hx fun h' T' k1 k2 k3 k4 k5 => h h' T' (fun b o b1 b2 _ => k1 b o b1 b2) (fun b o b2 _ => k2 b o b2) (fun b o z => by rw [h1] at z; cases z) k3 k4 k5
  · refine wpAny_bind (wpAny_field hx.obj rfl h1 ?_)
    rw [if_pos (show (Value.ref T != Value.none) = true from by simp)]
    refine wpAny_bind (wpAny_field hT hdT h3 ?_)
    rw [if_neg (show ¬ ((Value.none == rawInt L) = true) from by simp [rawInt])]
    refine wpAny_bind (wpAny_setField hT hdT (Array.getElem?_eq_some_iff.mp h3).1 ?_)
    have oth : ∀ b, b ≠ T → (s.heap.update T (Obj.mapFields (·.setIfInBounds 3 Value.none))).get? b = s.heap.get? b := fun b hb => Heap.get?_update_other _ _ (Ne.symm hb)
    have hTn := map_at (i := 3) (x := Value.none) hT hdT
    refine entry_new (base := base) (had := true) hfr (hl.of_keeps fun b o hb hn => ?_) hf ⟨(oth e (Ne.symm hTe)).trans hx.obj, hx.big⟩ fun h' T' k1 k2 k3 k4 k5 => h h' T' (fun b o b1 b2 b3 q => ?_) (fun b o b2 b3 q => ?_) (fun b o b3 q => ?_) (by simpa using k3) k4 k5
    · have bT : b ≠ T := fun z => by
        rw [z, hT] at hb
        cases hb
        exact hn ts hdT
      exact ⟨o, (oth b bT).trans hb, rfl⟩
    · have bT : b ≠ T := fun z => b3 (by rw [z]; exact h1)
      exact k1 b o b1 b2 ((oth b bT).trans q)
    · have bT : b ≠ T := fun z => b3 (by rw [z]; exact h1)
      exact k2 b o b2 ((oth b bT).trans q)
    · have bT : b = T := by
        rw [h1] at b3
        cases b3
        rfl
      subst bT
      obtain ⟨k, z⟩ := k2 b _ hTe hTn
      exact ⟨_, z⟩
/-- setFlight e none -/
theorem land {e T : Addr} {cls : Value} {od : Option Addr} {sl : Array (Option Value)} {vs : Array Value} {fl : Value} {Q : Unit → Shared → Prop} (hx : Exc s.heap e cls od sl vs) (h1 : vs[1]? = some (.ref T)) (hTe : T ≠ e) (ht : Tb s.heap T fl)
    (h : ∀ h', (∀ b o, b ≠ T → s.heap.get? b = some o → h'.get? b = some o) → Tb h' T .none → Q () { s with heap := h' }) : wpAny M A (setFlight (.ref e) none) Q E s := by
  obtain ⟨oT, ts, hT, hdT, h3⟩ := ht.ex
  have hz : 3 < ts.size := (Array.getElem?_eq_some_iff.mp h3).1
  unfold setFlight
  refine wpAny_bind (wpAny_field hx.obj rfl h1 ?_)
  rw [if_pos (show (Value.ref T != Value.none) = true from by simp)]
  refine wpAny_setField hT hdT hz (h _ (fun b o hb q => (Heap.get?_update_other _ _ (Ne.symm hb)).trans q) ⟨⟨_, _, map_at hT hdT, rfl, ?_⟩⟩)
  simp [hz]
end
end Xc
/-! An own exception class under own ones, with an __init__ of its own: the object made, then handed to __init__. -/
namespace Xc
open PySem
section
variable {prog : Program} {w : World} {A : Around} {E : Value → Shared → Prop} {h : Heap} {g : Array GenState} {d : Drawn} {t : Nat} {os : OsState}
variable {nm q : Str} {C N : Addr} {bs bm bmB : List Value} {hdct : Bool} {sn : List Str} {sub : List Value} {ab : Bool} {col : Option Bool} {dd : Option Addr} {k0 k1 k2 k3 k5 : Option Value} {B newId initId : String}
theorem made_init (F : ExcBaseFacts B newId initId bmB) (T : OwnTail h bmB bm) {mN : Str → Option Value} {rest : List Value} {fI : Addr} {oI : Obj} {Q : PySem.Fin → Shared → Prop}
    (hC : h.get? C = some (excClassObj nm q C N bs bm hdct sn sub ab col dd k0 k1 k2 k3 k5 newId)) (hn : h.Ns N mN) (hi : mN "__init__" = some (.ref fI)) (hfI : h.get? fI = some oI) (hfc : oI.cls = .type "function")
    (hq : ∀ h' e, Heap.MadeExcOf h h' e (.ref C) rest → h.objs.size ≤ e →
      wpAny (model prog w) A (call (.ref fI) (.ref e :: rest)) (fun r s' => r = .none ∧ Q (.done (.ret (.ref e))) s') E ⟨h', g, d, t, os⟩) (hrest : rest.length ≤ sizeLine) :
    wpAny (model prog w) A (Builtin.«type.__call__» ⟨.ref C :: rest, []⟩) Q E ⟨h, g, d, t, os⟩ := by
  repeat (first | with_reducible refine wpAny_loadPart_at hC ?_ | with_reducible refine wpAny_madeBy_exc hC ?_ | wp_step)
  refine codeAny_call_builtin_code (Code.quiet_builtin _ F.quiet) (wpAny_check_new_subT F T hC (codeAny_exc_new_subT F T hC ?_ hrest))
  show wpAny _ _ _ _ _ _
  generalize eh1 : h.push { cls := .type "tuple", data := .seq rest.toArray } = h1
  generalize eo : ({ cls := .ref C, data := .fields #[.ref h.objs.size, .none, .none, .none, .bool false, .none] } : Obj) = ox
  have z1 : h1.objs.size = h.objs.size + 1 := by rw [← eh1, Heap.size_push]
  have up : ∀ b o, h.get? b = some o → (h1.push ox).get? b = some o := fun b o e => Heap.get?_push_of_some _ (by rw [← eh1]; exact Heap.get?_push_of_some _ e)
  have hget : (h1.push ox).get? (h.objs.size + 1) = some ox := by rw [← z1]; exact Heap.get?_push_size _ (by rw [← eo]; rfl)
  have hoc : ox.cls = .ref C := by rw [← eo]
  have hcC : (Value.ref C :: bm).contains (.ref C) = true := by simp
  have hC1 := up _ _ hC
  have hn1 : (h1.push ox).Ns N mN := let ⟨o, es, ep, e, r⟩ := hn; ⟨o, es, ep, up _ _ e, r⟩
  unfold isInstance
  repeat (first | (with_reducible refine wpAny_loadPart_at hget ?_; rw [hoc]) | (with_reducible refine wpAny_isSubtype_exc hC1 ?_; rw [hcC]) | wp_step)
  show wpAny _ _ (typeLookup (.ref C) _) _ _ _
  refine wpAny_typeLookup_tail hC1 hn1 (T.keeps up) F.mroIs F.init.lookup ?_
  rw [hi]
  refine wpAny_holding (wpAny_bind ?_)
  unfold bindSpecial
  refine wpAny_bind (wpAny_typeOf (T := "function") ⟨_, up _ _ hfI, hfc⟩ ?_)
  rw [if_pos (by decide)]
  refine wpAny_pure (wpAny_bind (wpAny_mono (hq _ (h.objs.size + 1) ⟨up, Heap.get?_none_of_le (Nat.le_succ _), h.objs.size, by rw [hget, ← eo], Heap.get?_none_of_le (Nat.le_refl _), ?_⟩ (Nat.le_succ _)) (fun r s' hr => ?_) fun _ _ x => x))
  · rw [← eh1]
    exact Heap.get?_push_of_some _ (Heap.get?_push_size _ rfl)
  · obtain ⟨rfl, hQ⟩ := hr
    wp_walk
    exact hQ
theorem call_init (F : ExcBaseFacts B newId initId bmB) (T : OwnTail h bmB bm) {mN : Str → Option Value} {rest : List Value} {fI : Addr} {oI : Obj} {Q : Value → Shared → Prop}
    (hC : h.get? C = some (excClassObj nm q C N bs bm hdct sn sub ab col dd k0 k1 k2 k3 k5 newId)) (hn : h.Ns N mN) (hi : mN "__init__" = some (.ref fI)) (hfI : h.get? fI = some oI) (hfc : oI.cls = .type "function")
    (hq : ∀ h' e, Heap.MadeExcOf h h' e (.ref C) rest → h.objs.size ≤ e →
      wpAny (model prog w) (A.under (.builtin "type.__call__" ⟨.ref C :: rest, []⟩)) (call (.ref fI) (.ref e :: rest)) (fun r s' => r = .none ∧ Q (.ref e) s') E ⟨h', g, d, t, os⟩) (hrest : rest.length ≤ sizeLine) :
    wpAny (model prog w) A (call (.ref C) rest) Q E ⟨h, g, d, t, os⟩ := by
  have f1 := tc_lookup
  have f2 := tc_bind (.ref C)
  have hT : (⟨h, g, d, t, os⟩ : Shared).TypeIs (.ref C) "type" := ⟨_, hC, rfl⟩
  refine wpAny_call (codeAny_of_tree (?_ : wpAny _ _ (callAny (.ref C) _) _ _ _))
  repeat (any_goals (first | assumption | with_reducible refine wpAny_loadPart_at hC ?_ | wp_step))
  refine ⟨rfl, codeAny_call_builtin_at (Code.quiet_builtin _ (by decide +kernel)) entry_typeCall (wpAny_check_type_call_sub hC (made_init F T hC hn hi hfI hfc (fun h' e hm hs => ?_) hrest))⟩
  exact hq h' e hm hs
end
end Xc
namespace Xc
open PySem
section
variable {M : Model} {A : Around} {E : Value → Shared → Prop} {s : Shared} {env : Env}
variable {nm q : Str} {C N : Addr} {bs bm : List Value} {hdct : Bool} {sn : List Str} {sub : List Value} {ab : Bool} {col : Option Bool} {dd : Option Addr} {k0 k1 k2 k3 k5 : Option Value} {newId : String}
/-- raise x, x an exception of an own class that nobody has noted yet -/
theorem raise_made {x : Sem Value} {Q : Flow → Shared → Prop} (hbase : bm.contains (.type "BaseException") = true) (hh : A.handled = none)
    (h : wpAny M A x (fun v s1 => ∃ e od sl vs, v = .ref e ∧ s1.heap.get? C = some (excClassObj nm q C N bs bm hdct sn sub ab col dd k0 k1 k2 k3 k5 newId) ∧ Exc s1.heap e (.ref C) od sl vs ∧ vs[1]? = some .none ∧ E (.ref e) s1) E s) :
    wpAny M A (raiseStmt env (some x) none) Q E s := by
  have hcB : (Value.ref C :: bm).contains (.type "BaseException") = true := by rw [List.contains_cons, hbase, Bool.or_true]
  unfold raiseStmt
  refine wpAny_bind (wpAny_mono h (fun v s1 h1 => ?_) fun _ _ x => x)
  obtain ⟨e, od, sl, vs, rfl, hC, ⟨he, hb⟩, hv, hE⟩ := h1
  obtain ⟨hp, g, d, tk, os⟩ := s1
  repeat (first | with_reducible refine wpAny_field he rfl hv ?_ | with_reducible refine wpAny_loadPart_at he ?_ | with_reducible refine wpAny_loadPart_at hC ?_ | (with_reducible refine wpAny_isSubtype_exc hC ?_; rw [hcB]) | wp_step)
  exact wpAny_raiseNew_none hh hE
end
end Xc
/-! Exceptions over the hand layer: how one lies behind a call, how it leaves a frame, how it passes a caller. -/
namespace L2
open PySem PySem.Spec PyProof.Rows
/-- an exception behind a call: the object at ea (class, dict), its notes begin at T; the heap behind it -/
def CXe (P : Program) (w : World) : CXT := fun outer H s E e s' => ∃ (ea T : Addr) (cls : Value) (od : Option Addr) (sl : Array (Option Value)) (vs : Array Value) (H' : Hp),
  e = .ref ea ∧ s'.os = s.os ∧ AllBare s'.gens ∧ Un (frs outer) [] H H' s.heap s'.heap ∧ HOk P w H' s'.heap ∧ H' ea = none ∧ H' T = none ∧ s.heap.objs.size ≤ ea ∧ s.heap.objs.size ≤ T ∧
  Xc.Exc s'.heap ea cls od sl vs ∧ vs[1]? = some (.ref T) ∧ T ≠ ea ∧ vs[2]? = some .none ∧ Xc.Tb s'.heap T .none ∧ E cls od H'
/-- one that is raised in this body, not noted yet -/
structure Flying (X : Cx) (H : Hp) (s : Shared) (ea : Addr) (cls : Value) (od : Option Addr) (sl : Array (Option Value)) (vs : Array Value) : Prop where
  exc : Xc.Exc s.heap ea cls od sl vs
  h2 : vs[2]? = some .none
  free : H ea = none
  new : X.s₀.heap.objs.size ≤ ea
  nofr : ∀ x c, X.env.cells.lookup x = some c → c ≠ ea
  tb : vs[1]? = some .none ∨ ∃ T, vs[1]? = some (.ref T) ∧ T ≠ ea ∧ Xc.Tb s.heap T .none ∧ H T = none ∧ X.s₀.heap.objs.size ≤ T
section
variable {P : Program} {w : World} {K : PySem.W.Frag} {mg : Str → Option Value} {base : Heap} {N : List Str} {qual : Str} {scope : Scope} {f : Addr} {cd : Value} {A : Around} {outer : List Env} {s : Shared} {H : Hp} {E : XK}
theorem hok_kept {H' : Hp} {h h' : Heap} (ok : HOk P w H' h) (k : ∀ b o u, H' b = some u → h.get? b = some o → h'.get? b = some o) : HOk P w H' h' := fun b u e =>
  (ok b u e).stay (fun c v hc q => by
    rcases hc with rfl | hc
    · exact k c v _ e q
    · exact k c v _ hc q) (fun _ q => q) (fun _ _ q => q) fun _ _ _ q => q
/-- it leaves the frame -/
theorem fly_out {pins : List (Addr × Obj)} {σ : St} {H' : Hp} {s' : Shared} {ea : Addr} {cls : Value} {od : Option Addr} {sl : Array (Option Value)} {vs : Array Value}
    (I : Inv (cxOf (CXe P w) P w K mg base N qual scope f cd A outer s H E) pins σ H' s') (F : Flying (cxOf (CXe P w) P w K mg base N qual scope f cd A outer s H E) H' s' ea cls od sl vs) (q : E cls od H') :
    (cxOf (CXe P w) P w K mg base N qual scope f cd A outer s H E).xe (.ref ea) s' := by
  have hst : s'.heap.FunFrames base (envOfC qual scope s.heap.objs.size f cd :: outer) := I.stack
  have hfr : (A.deeper (envOfC qual scope s.heap.objs.size f cd)).frames = some (envOfC qual scope s.heap.objs.size f cd :: outer) := I.ok.frames
  have sfree : ∀ b ∈ (envOfC qual scope s.heap.objs.size f cd :: outer).filterMap (·.frame), H' b = none := I.stkFree
  have sub : ∀ b ∈ (envOfC qual scope s.heap.objs.size f cd :: outer).filterMap (·.frame), b ∈ s.heap.objs.size :: frs outer := I.stkSub
  have bs := I.base
  have new0 : s.heap.get? ea = none := Heap.get?_none_of_le F.new
  show wpAny (model P w) (A.deeper (envOfC qual scope s.heap.objs.size f cd)) (leaving (envOfC qual scope s.heap.objs.size f cd) (.ref ea)) (fun _ s'' => CXe P w outer H s E (.ref ea) s'') (fun e' s'' => CXe P w outer H s E e' s'') s'
  unfold leaving
  refine wpAny_bind (Xc.note_step hfr hst rfl F.exc (F.tb.imp id fun ⟨T, a, b, c, _⟩ => ⟨T, a, b, c⟩) fun h1 T1 k1 k2 k3 k4 k5 k6 => ?_)
  have hv1 : (vs.setIfInBounds 1 (.ref T1))[1]? = some (.ref T1) := by simp [Nat.lt_of_succ_lt F.exc.big]
  have hv2 : (vs.setIfInBounds 1 (.ref T1))[2]? = some .none := by rw [Array.getElem?_setIfInBounds_ne (by decide)]; exact F.h2
  have hTe : T1 ≠ ea := Nat.ne_of_gt (Nat.lt_of_lt_of_le (Heap.lt_size F.exc.obj) k4)
  refine Xc.land k5 hv1 hTe k6 fun h2 g1 g2 => ?_
  have ltT : ∀ b o, s'.heap.get? b = some o → b ≠ T1 := fun b o e => Nat.ne_of_lt (Nat.lt_of_lt_of_le (Heap.lt_size e) k4)
  have oldT : ∀ b, vs[1]? = some (.ref b) → H' b = none ∧ s.heap.get? b = none := fun b e => by
    rcases F.tb with z | ⟨T, a, _, _, d, n⟩
    · rw [z] at e; cases e
    · rw [a] at e; cases e; exact ⟨d, Heap.get?_none_of_le n⟩
  -- what was there at the entry
  have kept : ∀ b o, s.heap.get? b = some o → s'.heap.get? b = some o → b ∉ frs outer → h2.get? b = some o := fun b o e0 e hb => by
    refine g1 b o (ltT b o e) (k1 b o (fun z => ?_) (fun z => ?_) (fun z => ?_) e)
    · rcases List.mem_cons.mp (sub b z) with y | y
      · rw [y] at e0
        exact absurd (Heap.lt_size e0) (Nat.lt_irrefl _)
      · exact hb y
    · rw [z, new0] at e0; cases e0
    · rw [(oldT b z).2] at e0; cases e0
  have slots : ∀ b o, s.heap.get? b = some o → s'.heap.get? b = some o → ∃ k, h2.get? b = some { o with slots := k } := fun b o e0 e => by
    obtain ⟨k, z⟩ := k2 b o (fun z => by rw [z, new0] at e0; cases e0) (fun z => by rw [(oldT b z).2] at e0; cases e0) e
    exact ⟨k, g1 b _ (ltT b o e) z⟩
  have there : ∀ b o, s.heap.get? b = some o → ∀ o', s'.heap.get? b = some o' → ∃ o'', h2.get? b = some o'' := fun b o e0 o' e => by
    obtain ⟨k, z⟩ := k2 b o' (fun z => by rw [z, new0] at e0; cases e0) (fun z => by rw [(oldT b z).2] at e0; cases e0) e
    exact ⟨_, g1 b _ (ltT b o' e) z⟩
  refine ⟨ea, T1, cls, od, sl, _, H', rfl, I.os, I.bare, ⟨fun b o e n hb hx => ?_, fun b o e n hb hx => ?_, fun b o e n hx => bs.free b o e n (by show b ∉ ([] : List Addr); simp), fun b o e hx => ?_, bs.tups, bs.frzs, bs.tbls⟩, ?_, F.free, I.hok.fresh k4, F.new, ?_, ⟨g1 _ _ hTe.symm k5.obj, k5.big⟩, hv1, hTe, hv2, g2, q⟩
  · exact kept b o e (bs.keep b o e n hb (by show b ∉ ([] : List Addr); simp)) hb
  · obtain ⟨k0, e0⟩ := bs.slot b o e n hb (by show b ∉ ([] : List Addr); simp)
    obtain ⟨k, z⟩ := k2 b _ (fun z => by rw [z, new0] at e; cases e) (fun z => by rw [(oldT b z).2] at e; cases e) e0
    exact ⟨k, g1 b _ (ltT b _ e0) z⟩
  · obtain ⟨o', e1⟩ := bs.there b o e (by show b ∉ ([] : List Addr); simp)
    exact there b o e o' e1
  · exact hok_kept I.hok fun b o u hu e => g1 b o (ltT b o e) (k1 b o (fun z => by rw [sfree b z] at hu; cases hu) (fun z => by rw [z, F.free] at hu; cases hu) (fun z => by rw [(oldT b z).1] at hu; cases hu) e)
  · exact Nat.le_trans I.sz k4
/-- a callee's passes through -/
theorem passE {E' : XK} (h : ∀ c d H, E' c d H → E c d H) : Passes (CXe P w) (cxOf (CXe P w) P w K mg base N qual scope f cd A outer s H E) E' := by
  intro pins σ H1 s1 e s' I hx
  obtain ⟨ea, T, cls, od, sl, vs, H', rfl, ho, hb, hu, hok, n1, n2, m1, m2, ex, v1, ne, v2, tb, q⟩ := hx
  have I' := I.call' (ch := []) ho hu hok hb (fun _ z => nomatch z)
  refine fly_out I' ⟨ex, v2, n1, Nat.le_trans I.sz m1, fun x c e z => ?_, .inr ⟨T, v1, ne, tb, n2, Nat.le_trans I.sz m2⟩⟩ (h _ _ _ q)
  obtain ⟨v, o, y, _⟩ := I.cell x c e
  rw [z] at y
  exact absurd (Heap.lt_size y) (Nat.not_lt.mpr m1)
end
/-- what a raise in a body needs of its context -/
def Raises (X : Cx) (E : XK) : Prop := ∀ (pins : List (Addr × Obj)) (σ : St) (H : Hp) (s : Shared) (ea : Addr) (cls : Value) (od : Option Addr) (sl : Array (Option Value)) (vs : Array Value), Inv X pins σ H s → Flying X H s ea cls od sl vs → E cls od H → X.xe (.ref ea) s
theorem raisesE {P : Program} {w : World} {K : PySem.W.Frag} {mg : Str → Option Value} {base : Heap} {N : List Str} {qual : Str} {scope : Scope} {f : Addr} {cd : Value} {A : Around} {outer : List Env} {s : Shared} {H : Hp} {E : XK} :
    Raises (cxOf (CXe P w) P w K mg base N qual scope f cd A outer s H E) E := fun _ _ _ _ _ _ _ _ _ I F q => fly_out I F q
/-- the rule for a def whose exceptions are told -/
theorem Fun.okE {P : Program} {w : World} {K : PySem.W.Frag} {mg : Str → Option Value} {base : Heap} {x qual : Str} {st : Stmt} {f : Addr} {fd : FuncData} {N ps : List Str} {k : Nat} {sp : Sp} (F : Fun K x qual st f fd) (S : FnScope N ps (defScope st)) (len : ∀ vs H Q E, sp vs H Q E → vs.length = ps.length)
    (hbody : ∀ (cdv : Value) (A : Around) (outer : List Env) (s : Shared) (H : Hp) (vs : List V) (Q : VK) (E : XK), Room k (A.deeper (envOfC qual (defScope st) s.heap.objs.size f cdv)) → sp vs H Q E →
      ∃ t, PSs (cxOf (CXe P w) P w K mg base N qual (defScope st) f cdv A outer s H E) (defBody st) t ∧ t { nx := fun _ H' => Q .non H', rt := Q } (start N vs) H) : FnOk P w K mg base (CXe P w) (k + 1) f fd ps sp := by
  obtain ⟨oc, od, kV, doc, pm, an, cdv, ct, osl, rfl, lk, hcd⟩ := F.ex
  exact fn_of lk hcd S len fun A outer s H vs Q E hr hsp => hbody cdv A outer s H vs Q E hr hsp
end L2
/-! An exception of an own class as an object of the module's text: its attributes, isinstance. -/
namespace Xc
open PySem PySem.W PySem.Calls PyProof.Rows Builtin Builtin.ObjectAttr
/-- own classes over ValueError's own -/
def overVE : List Value → Bool
  | .ref _ :: r => overVE r
  | l => l == [.type "ValueError", .type "Exception", .type "BaseException", .type "object"]
theorem ve_not {l : List Value} (h : overVE l = true) (h' : ∀ a r, l ≠ .ref a :: r) : l = [.type "ValueError", .type "Exception", .type "BaseException", .type "object"] := by
  unfold overVE at h
  split at h
  · exact absurd rfl (h' _ _)
  · exact beq_iff_eq.mp h
theorem ve_passes (self : Value) : ∀ {l : List Value}, overVE l = true → refuseLoop self "__setattr__" l = pure ()
  | l, e => by
    induction l with
    | nil => cases ve_not e (by simp)
    | cons v r ih =>
      cases v with
      | ref c => rw [refuseLoop_ref]; exact ih (by rw [overVE] at e; exact e)
      | _ => rw [ve_not e (by simp)]; exact PySem.F.store_ValueError.passes self
theorem ve_has (n : String) (hn : ([.type "ValueError", .type "Exception", .type "BaseException", .type "object"] : List Value).contains (.type n) = true) : ∀ {l : List Value}, overVE l = true → l.contains (.type n) = true
  | l, e => by
    induction l with
    | nil => cases ve_not e (by simp)
    | cons v r ih =>
      cases v with
      | ref c => rw [List.contains_cons, ih (by rw [overVE] at e; exact e), Bool.or_true]
      | _ => rw [ve_not e (by simp)]; exact hn
structure XC (K : Frag) (C : Addr) : Prop where
  mro : (clsIn K C).any (fun cd => overVE cd.mro) = true
  hd : hasDictIn K C = true
  ga : findIn K (.ref C) "__getattribute__" = some (some (.builtin "BaseException.__getattribute__"))
  gh : findIn K (.ref C) "__getattr__" = some none
  sa : findIn K (.ref C) "__setattr__" = some (some (.builtin "object.__setattr__"))
  ca : findIn K (.ref C) "__class__" = some (some (.builtin "object.__class__"))
  cg : specialIn K (.builtin "object.__class__") "__get__" = some (some (.builtin "getset_descriptor.__get__"))
  ct : takesIn K (.builtin "object.__class__") = some true
section
variable {prog : Program} {w : World} {A : Around} {E : Value → Shared → Prop} {s : Shared} {K : Frag} {x C : Addr} {ox : Obj} {od : Option Obj} {name : Str}
theorem XC.has (c : XC K C) {n : String} (hn : ([.type "ValueError", .type "Exception", .type "BaseException", .type "object"] : List Value).contains (.type n) = true) : mroIn K C (.type n) = some true := by
  obtain ⟨cd, hc, ho⟩ := any_some c.mro
  have ne : cd.mro.isEmpty = false := by cases q : cd.mro with | nil => rw [q] at ho; cases ve_not ho (by simp) | cons _ _ => rfl
  unfold mroIn
  rw [hc, Option.bind_some, if_neg (by rw [ne]; decide), ve_has n hn ho]
theorem slot_ga : Slot "BaseException" "__getattribute__" "BaseException.__getattribute__" :=
  .of (owner := "BaseException") (n := "__getattribute__") (by rw [typeLookup_type, builtinLookup_eq_fast]; kernel_rfl) (by decide +kernel) (by decide +kernel) (by decide +kernel)
    (by first | exact .inl (by decide +kernel) | exact .inr (by decide +kernel)) (by rw [isSubtype_type]; kernel_rfl)
/-- x.name, by BaseException's own way -/
theorem by_own {fill expr : Bool} {tk : Tok} {Q : Value → Shared → Prop} (c : XC K C) (X : K.In s.heap) (I : InstAt s.heap x ox C od)
    (h : wpAny (model prog w) A.in1 (Builtin.«object.__getattribute__» ⟨[.ref x, .str name tk], []⟩)
      (fun fin s' => match fin with | .done (.ret v) => wpAny (model prog w) A (handedOut v) Q E s' | _ => False) (fun _ _ => False) s) :
    wpAny (model prog w) A (getAttrBy (.ref x) (.str name tk) fill expr) Q E s := by
  have L0 := I.type (M := model prog w)
  unfold getAttrBy
  refine wpAny_holding (wpAny_bind (L0.here (wpAny_bind ((looks_findIn X c.ga).here ?_))))
  dsimp only
  rw [show (onTheHeap (Value.ref C) && Value.builtin "BaseException.__getattribute__" == Value.builtin "object.__getattribute__") = false from by rw [show (Value.builtin "BaseException.__getattribute__" == Value.builtin "object.__getattribute__") = false from by decide +kernel, Bool.and_false], if_neg (by decide)]
  unfold getAttrByItsOwn
  refine wpAny_bind ((looks_hook (r := none) X (by rw [if_pos (show onTheHeap (Value.ref C) = true from rfl)]; exact c.gh)).here (wpAny_bind (wpAny_attempt (wpAny_holding ?_))))
  unfold callGetattribute
  rw [show (expr && onTheHeap (Value.builtin "BaseException.__getattribute__")) = false from Bool.and_false _, if_neg (by decide)]
  unfold boundAndCalled
  rw [slot_ga.bind]
  refine wpAny_bind (wpAny_pure ?_)
  show wpAny _ _ (call (.builtin "BaseException.__getattribute__") [.ref x, .str name tk]) _ _ _
  refine wpAny_call (codeAny_call_builtin slot_ga.plain PySem.F.entry_bexc_ga ?_)
  refine @check_slot (model prog w) _ _ s "BaseException.__getattribute__" "BaseException" "__getattribute__" (.ref x) [.str name tk] [] _ (by decide +kernel) (by decide +kernel) (L0.andThen (looks_mroIn X (c.has (by decide +kernel)))) (PySem.F.args_bexc_ga _ _) ?_
  refine wpAny_mono h (fun fin s' z => ?_) fun _ _ z => z.elim
  rcases fin with (_ | _ | _ | _) | _ <;> first | exact z | exact z.elim
theorem oga_value {v : Value} {tk : Tok} {Q : Fin → Shared → Prop} (X : K.In s.heap) (I : InstAt s.heap x ox C od) (hf : findObj K C od name = some (.value v)) (h : Q (.done (.ret v)) s) :
    wpAny (model prog w) A (Builtin.«object.__getattribute__» ⟨[.ref x, .str name tk], []⟩) Q E s := by
  obtain ⟨hh', g, d, t, os⟩ := s
  have L0 := I.type (M := model prog w)
  have L1 := looks_find (M := model prog w) X I hf
  refine wpAny_bind (wpAny_pure (wpAny_bind (wpAny_pure (wpAny_bind (L0.at (wpAny_bind (L1.at ?_)))))))
  exact wpAny_pure h
theorem oga_bind {g a : Value} {tk : Tok} {Q : Fin → Shared → Prop} (X : K.In s.heap) (I : InstAt s.heap x ox C od) (hf : findObj K C od name = some (.bind g a)) (h : wpAny (model prog w) A (call g [a, .ref x, .ref C]) (fun v s' => Q (.done (.ret v)) s') E s) :
    wpAny (model prog w) A (Builtin.«object.__getattribute__» ⟨[.ref x, .str name tk], []⟩) Q E s := by
  obtain ⟨hh', gg, d, t, os⟩ := s
  have L0 := I.type (M := model prog w)
  have L1 := looks_find (M := model prog w) X I hf
  refine wpAny_bind (wpAny_pure (wpAny_bind (wpAny_pure (wpAny_bind (L0.at (wpAny_bind (L1.at ?_)))))))
  show wpAny _ _ (holding [a] (call g [a, .ref x, .ref C]) >>= ret) _ _ _
  exact wpAny_bind (wpAny_holding (wpAny_mono h (fun v s' z => wpAny_pure z) fun _ _ z => z))
theorem find_data {a g : Value} (hc : (clsIn K C).isSome = true) (ha : findIn K (.ref C) name = some (some a)) (hg : specialIn K a "__get__" = some (some g)) (ht : takesIn K a = some true) : findObj K C od name = some (.bind g a) := by
  obtain ⟨cd, hc⟩ := Option.isSome_iff_exists.mp hc
  unfold findObj
  rw [hc, Option.bind_some, ha, Option.bind_some]
  simp [hg, ht]
/-- x.name of its own dict -/
theorem get_own {v : Value} {o : Obj} {expr : Bool} {Q : Value → Shared → Prop} (c : XC K C) (X : K.In s.heap) (I : InstAt s.heap x ox C (some o)) (ha : findIn K (.ref C) name = some none) (hl : lookIn name o = some (some v)) (hv : handedIn v = true)
    (h : Q v { s with toks := s.toks + 1 }) : wpAny (model prog w) A (getAttr (.ref x) name expr) Q E s := by
  unfold getAttr
  refine wpAny_bind (wpAny_mkText (by_own (s := { s with toks := s.toks + 1 }) c X I (oga_value (s := { s with toks := s.toks + 1 }) X I (findObj_own c.hd ha rfl hl) ?_)))
  exact handed_on hv h
theorem get_class {Q : Option Value → Shared → Prop} (c : XC K C) (X : K.In s.heap) (I : InstAt s.heap x ox C od) (h : Q (some (.ref C)) { s with toks := s.toks + 1 }) : wpAny (model prog w) A (getAttr? (.ref x) "__class__") Q E s := by
  have hc : (clsIn K C).isSome = true := by obtain ⟨cd, hc, _⟩ := any_some c.hd; rw [hc]; rfl
  unfold getAttr? getAttrBy?
  refine wpAny_bind (wpAny_mkText (wpAny_bind (wpAny_attempt ?_)))
  refine by_own (s := { s with toks := s.toks + 1 }) c X I (oga_bind (s := { s with toks := s.toks + 1 }) X I (find_data hc c.ca c.cg c.ct) (wpAny_call (class_get (s := { s with toks := s.toks + 1 }) X I (c.has (by decide +kernel)) ?_)))
  exact handed_on rfl (wpAny_pure h)
theorem kitx (c : XC K C) : KitX K (.ref x) (.ref C) (fun h => ∃ ox od, InstAt h x ox C od) where
  ty := fun _ _ _ ⟨_, _, I⟩ => I.type
  it := fun _ _ X _ => by
    obtain ⟨cdD, hcD, _⟩ := any_some c.hd
    unfold clsIn at hcD
    split at hcD
    · rename_i c' d' cd' sl' ho
      intro A' Q' E' s' k q
      unfold isType loadHead
      exact wpAny_bind (wpAny_loadPart (k _ _ (X _ _ ho)) (wpAny_pure q))
    · cases hcD
  ne := fun h tp dd its n sl X htp => by
    obtain ⟨cdD, hcD, _⟩ := any_some c.hd
    refine Bool.eq_false_iff.mpr fun q => ?_
    have e : C = tp := Value.ref.inj (beq_iff_eq.mp q)
    subst e
    unfold clsIn at hcD
    split at hcD
    · rename_i c' d' cd' sl' ho
      have z := (X _ _ ho).symm.trans htp
      cases z
    · cases hcD
  ca := fun X ⟨_, _, I⟩ k => get_class c X I k
/-- x.name = v, where x has no dict yet -/
theorem set_first {v : Value} {Q : Unit → Shared → Prop} {sl : Array (Option Value)} {vs : Array Value} (c : XC K C) (X : K.In s.heap) (hx : s.heap.get? x = some ⟨.ref C, none, .fields vs, sl⟩) (ht : takerIn K C name = some none)
    (h : ∀ h' dx tk, h'.get? x = some ⟨.ref C, some dx, .fields vs, sl⟩ → s.heap.objs.size ≤ dx → h'.Ns1 dx (fun y => if y = name then some v else none) → (∀ b o, b ≠ x → s.heap.get? b = some o → h'.get? b = some o) → Q () { s with heap := h', toks := tk }) :
    wpAny (model prog w) A (setAttr (.ref x) name v) Q E s := by
  have I : InstAt s.heap x ⟨.ref C, none, .fields vs, sl⟩ C none := ⟨hx, rfl, rfl, trivial⟩
  obtain ⟨cd, hc, ho⟩ := any_some c.mro
  have sub : Looks (model prog w) s.heap (isInstance (.ref x) (.type "object")) true := I.type.andThen (looks_mroIn X (c.has (by decide +kernel)))
  refine set_plain X I c.sa ?_
  have SF := PySem.F.store_object
  refine codeAny_call_builtin SF.slot.plain SF.entry (@check_slot (model prog w) _ _ { s with toks := s.toks + 1 } "object.__setattr__" "object" "__setattr__" (.ref x) [.str name s.toks, v] [] _ SF.kind SF.split sub (SF.args _ _ _) ?_)
  obtain ⟨attr, ha, hr⟩ := Option.bind_eq_some_iff.mp ht
  have hm : Looks (model prog w) s.heap (mroOf (.ref C)) cd.mro := (looks_clsIn X hc).andThen .now
  have L3 : Looks (model prog w) s.heap (storeTaker? attr) none := by
    cases attr with
    | none => exact .now
    | some a =>
      obtain ⟨b, hb, hb2⟩ := Option.map_eq_some_iff.mp hr
      refine (looks_takesIn X hb).andThen ?_
      cases b with
      | false => exact .now
      | true => cases hb2
  rw [osa_eq, refuse_eq]
  refine wpAny_bind (wpAny_bind (I.type.here (s := { s with toks := s.toks + 1 }) (wpAny_bind (hm.here (s := { s with toks := s.toks + 1 }) ?_))))
  rw [ve_passes _ ho]
  refine wpAny_pure (wpAny_bind (I.type.here (s := { s with toks := s.toks + 1 }) (wpAny_bind ((looks_findIn X ha).here (s := { s with toks := s.toks + 1 }) (wpAny_bind (L3.here (s := { s with toks := s.toks + 1 }) ?_))))))
  obtain ⟨cd2, hc2, hd2⟩ := any_some c.hd
  obtain ⟨hp, g, d, t, os⟩ := s
  dsimp only at hx X I
  refine wpAny_bind (wpAny_pure (wpAny_bind (wpAny_bind (wpAny_loadPart hx (wpAny_bind ((looks_clsIn X hc2).here (s := ⟨hp, g, d, t + 1, os⟩) ?_))))))
  rw [hd2]
  dsimp only
  have hx₁ : (hp.push { cls := .type "dict", data := .dict #[] }).get? x = some ⟨.ref C, none, .fields vs, sl⟩ := Heap.get?_push_of_some _ hx
  have hxs : x ≠ hp.objs.size := Nat.ne_of_lt (Heap.lt_size hx)
  refine wpAny_bind (wpAny_alloc' ?_)
  refine wpAny_bind (wpAny_update' hx₁ ?_)
  refine wpAny_pure ?_
  generalize eh : ((hp.push { cls := .type "dict", data := .dict #[] }).update x fun o => { cls := o.cls, dict := some hp.objs.size, data := o.data, slots := o.slots }) = h1
  have gx : h1.get? x = some ⟨.ref C, some hp.objs.size, .fields vs, sl⟩ := by rw [← eh]; exact Heap.get?_update_self _ hx₁ rfl
  have gd : h1.get? hp.objs.size = some { cls := .type "dict", data := .dict #[] } := by rw [← eh]; exact (Heap.get?_update_ne _ _ _ _ hxs.symm).trans (Heap.get?_push_at rfl rfl)
  have go : ∀ b o, b ≠ x → hp.get? b = some o → h1.get? b = some o := fun b o hb e => by rw [← eh]; exact (Heap.get?_update_ne _ _ _ _ hb).trans (Heap.get?_push_of_some _ e)
  have hnd : h1.Ns hp.objs.size (fun _ => none) := ⟨_, #[], _, gd, rfl, fun e he => absurd he (by simp), fun _ => rfl⟩
  show wpAny _ _ (storeInDict hp.objs.size (.str name _) name v) _ _ _
  unfold storeInDict newKeyGuard
  refine wpAny_bind (wpAny_pure (wpAny_bind (wpAny_nsSet1 (Heap.Ns1.of_empty hnd) fun h' hn' hs => ?_)))
  obtain ⟨oD, esD, epD, hoD, hdD, hcD⟩ := hn'.count (Within.cons name v Within.nil)
  refine wpAny_bind (wpAny_lookBehind hoD (by rw [hdD]; exact pastItsLine_dict (Nat.le_trans hcD (by rw [List.length_cons, List.length_nil, sizeLine_eq]; omega))) ?_)
  refine wpAny_pure ?_
  exact h h' hp.objs.size _ ((hs.2 x hxs).trans gx) (Nat.le_refl _) hn' fun b o hb e => (hs.2 b (Nat.ne_of_lt (Heap.lt_size e))).trans (go b o hb e)
end
end Xc
/-! raise C(..) of an own class with its own __init__: the object, its base's __init__, its first attribute. -/
namespace L2
open PySem PySem.Spec PyProof.Rows
abbrev veM : List Value := [.type "ValueError", .type "Exception", .type "BaseException", .type "object"]
/-- an exception of the class at C that nobody has noted -/
def XO (a C : Addr) (od : Option Addr) : HO := .ext fun h => ∃ sl t, h.get? a = some ⟨.ref C, od, .fields #[.ref t, .none, .none, .none, .bool false, .none], sl⟩
theorem XO.mk {P : Program} {w : World} {H : Hp} {h : Heap} {a C : Addr} {od : Option Addr} {sl : Array (Option Value)} {t : Addr} (e : h.get? a = some ⟨.ref C, od, .fields #[.ref t, .none, .none, .none, .bool false, .none], sl⟩) :
    ObjOk P w H h a (XO a C od) := ⟨⟨sl, t, e⟩, ⟨_, e⟩, fun h1 h2 ⟨sl', t', e'⟩ k => ⟨sl', t', k _ e'⟩⟩
theorem XO.get {P : Program} {w : World} {H : Hp} {h : Heap} {a C : Addr} {od : Option Addr} (hok : HOk P w H h) (e : H a = some (XO a C od)) : ∃ sl t, h.get? a = some ⟨.ref C, od, .fields #[.ref t, .none, .none, .none, .bool false, .none], sl⟩ := (hok a _ e).1
def del (H : Hp) (a : Addr) : Hp := fun b => if b = a then none else H b
theorem del_self {H : Hp} {a : Addr} : del H a a = none := if_pos rfl
theorem del_ne {H : Hp} {a b : Addr} (h : b ≠ a) : del H a b = H b := if_neg h
theorem upd_id {H : Hp} {a : Addr} {o : HO} (h : H a = some o) : upd H a o = H := by
  funext b
  unfold upd
  split
  · rename_i e; rw [e, h]
  · rfl
/-- what the text says of an own exception class -/
def xIn (K : PySem.W.Frag) (C : Addr) : Bool := match K.lookup C with
  | some ⟨.type "type", _, .cls cd, sl⟩ => (match cd.mro, sl.toList with
    | .ref C' :: bm, [_, _, _, _, some (.builtin n), _] => C' == C && n == "ValueError.__new__" && !cd.hasDel && PySem.W.tailIn K veM bm && PySem.W.nsOkIn K cd.ns
    | _, _ => false)
  | _ => false
theorem ns_of {K : PySem.W.Frag} {h : Heap} {N : Addr} {mg : Str → Option Value} {n : Str} {v : Value} (X : K.In h) (G : h.Ns N mg) (e : PySem.W.nsIn K N n = some (some v)) : mg n = some v := by
  obtain ⟨o, es, ep, ho, hd, _, hf⟩ := G
  unfold PySem.W.nsIn at e
  split at e
  · rename_i c d es' n' sl q
    have := X _ _ q
    rw [ho] at this
    cases this
    cases hd
    split at e
    · rename_i en he
      cases e
      rw [← hf]
      unfold nsFind findBy
      rw [← Array.find?_toList, he]
      rfl
    · split at e <;> cases e
  · cases e
/-- a class object as the library's rules name it -/
structure XAt (K : PySem.W.Frag) (h : Heap) (C : Addr) (cd : ClassData) : Prop where
  ex : ∃ (nm q : Str) (bs bm : List Value) (hdct : Bool) (sn : List Str) (sub : List Value) (ab : Bool) (col : Option Bool) (dd : Option Addr) (k0 k1 k2 k3 k5 : Option Value),
    h.get? C = some (excClassObj nm q C cd.ns bs bm hdct sn sub ab col dd k0 k1 k2 k3 k5 "ValueError.__new__") ∧ OwnTail h veM bm ∧ ∃ mN, h.Ns cd.ns mN
theorem xat_of {K : PySem.W.Frag} {h : Heap} {C : Addr} (X : K.In h) (q : xIn K C = true) : ∃ cd, PySem.W.clsIn K C = some cd ∧ XAt K h C cd := by
  unfold xIn at q
  split at q
  · rename_i dd cd sl ho
    split at q
    · rename_i C' bm k0 k1 k2 k3 n k5 hm hs
      simp only [Bool.and_eq_true, beq_iff_eq, Bool.not_eq_true'] at q
      obtain ⟨⟨⟨⟨rfl, rfl⟩, hdel⟩, ht⟩, hok⟩ := q
      refine ⟨cd, by unfold PySem.W.clsIn; rw [ho], ?_⟩
      obtain ⟨nm, bs, mro, ns, qn, hd, sn, sub, ab, col, del⟩ := cd
      dsimp only at hm hdel hok
      subst hm hdel
      have hsl : sl = #[k0, k1, k2, k3, some (.builtin "ValueError.__new__"), k5] := by
        obtain ⟨l⟩ := sl
        simp only at hs
        rw [hs]
      subst hsl
      exact ⟨⟨nm, qn, bs, bm, hd, sn, sub, ab, col, dd, k0, k1, k2, k3, k5, X _ _ ho, PySem.W.tail_of_in X ht, _, .of_isNs (PySem.W.isNs_of_in X hok)⟩⟩
    · cases q
  · cases q
section
variable {X : Cx} {CX : CXT} {k : Nat} {f C : Addr} {fd : FuncData} {ps : List Str} {sp : Sp} {E : XK} {x : Str} {p pos apos rpos : Pos} {e o : Expr} {es : List Expr} {ta tv : TE} {t : TA}
/-! ### a text with one int in it -/
def tFs (ta : TE) : TE := fun σ H Q => ta σ H fun v H1 => ∃ i : Int, v = .int i ∧ i.natAbs.log2 < 1920 ∧ ∀ y, Q (.str y) H1
theorem pe_fstr {a b : Str} {j1 j2 : Nat} {p1 p2 p3 p4 : Pos} (he : PE X e ta) (ha : a.length ≤ 1000) (hb : b.length ≤ 1000) : PE X (.JoinedStr [.Constant (.str a) j1 p1, .FormattedValue e (-1) none p2, .Constant (.str b) j2 p3] p4) (tFs ta) := by
  intro pins s σ H Q I h
  refine JoinedStr_many (joinParts_cons (Calls.Constant_str ⟨?_, joinParts_cons (FormattedValue_plain (thn (he pins _ σ H _ (I.tok _) h) fun u s1 ⟨v, H1, I1, r, i, ev, hs, q⟩ => ?_))⟩))
  · rw [Str.length_append]; show 0 + _ ≤ _; rw [sizeLine_eq]; omega
  subst ev
  obtain ⟨t, rfl⟩ := r
  have hl := int_text_len_1921 hs
  refine formatField_int_small hs ⟨?_, joinParts_consE (joinParts_cons (Calls.Constant_str ⟨?_, joinParts_nilE (joinParts_nil ⟨.str _, H1, (I1.tok _), ⟨_, rfl⟩, q _⟩ ?_)⟩))⟩
  all_goals (simp only [Str.length_append]; rw [sizeLine_eq]; have : Str.empty.length = 0 := rfl; omega)
/-! ### the base's own __init__ -/
def tBaseInit (K : PySem.W.Frag) (t : TA) : TE := fun σ H Q => t σ H fun vs H1 => ∃ a C m, vs = [.ref a, m] ∧ xIn K C = true ∧ H1 a = some (XO a C none) ∧ Q .non H1
theorem pe_baseInit {Y : Addr} {pl : Sem Bool} (hg : Gl X x) (hm : X.mg x = some (.ref Y)) (h1 : PySem.W.specialIn X.K (.ref Y) "__getattribute__" = some (some (.builtin "type.__getattribute__"))) (h2 : PySem.W.readsIn X.K Y (.type "type") = true)
    (h3 : PySem.W.findCls X.K (.ref Y) (.type "type") "__init__" = some (.val (.builtin "ValueError.__init__"))) (ha : PA X (e :: es) t) (hdb : (x == ("__debug__" : Str)) = false := by decide)
    (hst : starEach (e :: es) X.env = (false, eval e X.env) :: starEach es X.env := by rfl) (hpl : (backTo pos (starEach es X.env)).any (·.1) = false := by rfl)
    (ht : eval (.Call (.Attribute (.Name x p) "__init__" apos) (e :: es) [] pos) X.env = (do
      let ov ← eval (.Name x p) X.env
      standAt apos.atName
      let (f, first) ← holding [ov] (getMethod ov "__init__" pl)
      callWith pos f first (backTo pos (starEach (e :: es) X.env)) (backToKw pos (keywordEach [] X.env))) := by rfl) :
    PE X (.Call (.Attribute (.Name x p) "__init__" apos) (e :: es) [] pos) (tBaseInit X.K t) := by
  intro pins s σ H Q I h
  refine PySem.W.methodCall_KW (pl := pl) (ld_glob I hg hm ?_ hdb) ht
  refine PySem.W.method_cls I.kIn h1 (PySem.W.cls_value I.kIn h2 h3 (by decide +kernel) ?_)
  refine callWith_builtin1 (thn (ha pos pins _ σ H _ (I.tok _) h) fun us s1 ⟨vs, H1, I1, r, a, C, m, ev, hC, hx, q⟩ => ?_) hst hpl
  subst ev
  obtain ⟨cd, hcd, ⟨nm, qn, bs, bm, hdct, sn, sub, ab, col, dd, k0, k1, k2, k3, k5, hCo, T, mN, hN⟩⟩ := xat_of I1.kIn hC
  obtain ⟨sl, tt, he⟩ := XO.get I1.hok hx
  obtain ⟨u1, u2, rfl, r1, r2⟩ : ∃ u1 u2, us = [u1, u2] ∧ RelV (.ref a) u1 ∧ RelV m u2 := by
    cases r with | cons r1 r2 => cases r2 with | cons r2 r3 => cases r3; exact ⟨_, _, rfl, r1, r2⟩
  obtain rfl : u1 = Value.ref a := r1
  have F := PySem.F.excBase_ValueError
  obtain ⟨hp, g, d, tk, os⟩ := s1
  refine wpAny_call (codeAny_call_builtin F.init.plain F.initEntry (wpAny_check_init_subT F T hCo he rfl ?_))
  wp_walk
  dsimp only
  have g1 := Heap.get?_push_of_some { cls := .type "tuple", data := .seq #[u2] } he
  have g2 := Xc.map_at (i := 0) (x := Value.ref hp.objs.size) g1 rfl
  have I2 := I1.write (x := a) (e := a) (o := XO a C none) (t' := tk) (h' := (hp.push { cls := .type "tuple", data := .seq #[u2] }).update a (Obj.mapFields (·.setIfInBounds 0 (Value.ref hp.objs.size)))) (by rw [hx]; exact True.intro) (.inl rfl)
    (fun b u hb e => (Heap.get?_update_other _ _ (Ne.symm hb)).trans (Heap.get?_push_of_some _ e)) ⟨_, g2⟩ (XO.mk (sl := sl) (t := hp.objs.size) (g2.trans rfl))
  rw [upd_id hx] at I2
  exact ⟨.non, H1, I2, rfl, q⟩
/-! ### the first attribute -/
def sFirst (K : PySem.W.Frag) (ta tv : TE) (f : Str) : TS := fun D σ H => tv σ H fun y H1 => ta σ H1 fun x H2 => ∃ a C, x = .ref a ∧ H2 a = some (XO a C none) ∧ Xc.XC K C ∧ PySem.W.takerIn K C f = some none ∧
  ∀ d, H2 d = none → d ≠ a → D.nx σ (upd (upd H2 a (XO a C (some d))) d (.xd [(f, y)]))
theorem ps_first {f : Str} {value : Expr} {pos' : Pos} (ha : PE X o ta) (hv : PE X value tv) (hs : swapsWith value (some (.Attribute o f pos')) pos.line X.env = pure false) : PS X (.Assign [.Attribute o f pos'] value pos) (sFirst X.K ta tv f) := by
  intro pins s σ H D I h
  refine plainObj_wpAny_Assign_Attribute (thn (hv pins s σ H _ I h) fun u s1 ⟨y, H1, I1, ry, q⟩ => thn (ha pins s1 σ H1 _ I1 q) fun ov s2 ⟨x, H2, I2, rx, a, C, ex, ea, c, n, q2⟩ => ?_) hs
  subst ex
  obtain rfl : ov = Value.ref a := rx
  obtain ⟨sl, tt, he⟩ := XO.get I2.hok ea
  refine Xc.set_first c I2.kIn he n fun h' d tk g1 g2 g3 g4 => ?_
  have hd : H2 d = none := I2.hok.fresh g2
  have hda : d ≠ a := Nat.ne_of_gt (Nat.lt_of_lt_of_le (Heap.lt_size he) g2)
  have hgd : s2.heap.get? d = none := Heap.get?_none_of_le g2
  refine ⟨σ, _, I2.un (h' := h') (t' := tk) ⟨fun b o e n hb _ => ?_, fun b o e n hb _ => ?_, fun b o e n _ => ?_, fun b o e _ => ?_, fun b xs e => ?_, fun b o u e => ?_, fun b pl y' e => ?_⟩ (fun b o e => ?_), q2 d hd hda⟩
  · exact g4 b o (fun z => by rw [z, ea] at n; cases n) e
  · exact ⟨o.slots, g4 b o (fun z => by rw [z, ea] at n; cases n) e⟩
  · rw [upd_ne (fun z => by rw [z, hgd] at e; cases e), upd_ne (fun z => by rw [z, ea] at n; cases n)]; exact n
  · by_cases z : b = a
    · rw [z]; exact ⟨_, g1⟩
    · exact ⟨o, g4 b o z e⟩
  · rw [upd_ne (ne_of_none e hd), upd_ne (fun z => by rw [z, ea] at e; cases e)]; exact e
  · rw [upd_ne (ne_of_none e hd), upd_ne (fun z => by rw [z, ea] at e; cases e)]; exact e
  · rw [upd_ne (ne_of_none e hd), upd_ne (fun z => by rw [z, ea] at e; cases e)]; exact e
  · by_cases z : b = d
    · subst z
      rw [upd_same] at e
      cases e
      refine ⟨_, g3, fun g => ?_⟩
      show RelO (([(f, y)] : List (Str × V)).lookup g) (if g = f then some u else none)
      by_cases e : g = f
      · subst e; rw [if_pos rfl]; simp only [List.lookup, beq_self_eq_true]; exact ry
      · rw [if_neg e]; simp only [List.lookup, beq_eq_false_iff_ne.mpr e]; trivial
    · rw [upd_ne z] at e
      by_cases z' : b = a
      · subst z'
        rw [upd_same] at e
        cases e
        exact XO.mk g1
      · rw [upd_ne z'] at e
        refine (I2.hok b o e).stay (fun c v hc r => g4 c v ?_ r) (fun c r => ?_) (fun c xs r => ?_) fun c ob y r => ?_
        · rcases hc with rfl | hc
          · exact z'
          · exact fun w => by rw [w, ea] at hc; cases hc
        · rw [upd_ne (ne_of_none r hd), upd_ne (fun w => by rw [w, ea] at r; cases r)]; exact r
        · rw [upd_ne (ne_of_none r hd), upd_ne (fun w => by rw [w, ea] at r; cases r)]; exact r
        · rw [upd_ne (ne_of_none r hd), upd_ne (fun w => by rw [w, ea] at r; cases r)]; exact r
/-! ### raise -/
/-- an exception is no longer followed -/
theorem Inv.untrack {pins : List (Addr × Obj)} {σ : St} {H : Hp} {s : Shared} {a : Addr} {od : Option Addr} (I : Inv X pins σ H s) (e : H a = some (XO a C od)) : Inv X pins σ (del H a) s := by
  have no : ∀ b o, H b = some o → (∀ z, o ≠ XO a C z) → b ≠ a := fun b o q n z => by rw [z, e] at q; cases q; exact n _ rfl
  refine ⟨I.ok, I.os, I.bare, ⟨I.base.keep, I.base.slot, fun b o q n hx => ?_, I.base.there, fun b xs q => ?_, fun b o u q => ?_, fun b pl y q => ?_⟩, I.loc, I.cell, ?_, fun y c q => ?_, fun p hp => ?_, fun b o q => ?_, I.len⟩
  · unfold del; split
    · rfl
    · exact I.base.free b o q n hx
  · have := I.base.tups b xs q
    rw [del_ne (no _ _ this fun z => by intro w; cases w)]; exact this
  · have := I.base.frzs b o u q
    rw [del_ne (no _ _ this fun z => by intro w; cases w)]; exact this
  · have this := I.base.tbls b pl y q
    rw [del_ne (no _ _ this fun z => by intro w; cases w)]; exact this
  · unfold del; split
    · rfl
    · exact I.free
  · unfold del; split
    · rfl
    · exact I.freeC y c q
  · obtain ⟨p1, p2, p3⟩ := I.pin p hp
    exact ⟨p1, by unfold del; split; rfl; exact p2, p3⟩
  · unfold del at q
    split at q
    · cases q
    · rename_i hb
      exact (I.hok b o q).stay (fun c v _ r => r) (fun c r => by rw [del_ne (no _ _ r fun z => by intro w; cases w)]; exact r) (fun c xs r => by rw [del_ne (no _ _ r fun z => by intro w; cases w)]; exact r) fun c ob y r => by rw [del_ne (no _ _ r fun z => by intro w; cases w)]; exact r
structure XMk (K : PySem.W.Frag) (C f : Addr) : Prop where
  x : xIn K C = true
  init : ((PySem.W.clsIn K C).bind fun cd => PySem.W.nsIn K cd.ns "__init__") = some (some (.ref f))
  fn : PySem.W.isFn K (.ref f) = true
  kp : PySem.W.keepIn K (.ref C) = true
def sRaise (C : Addr) (sp : Sp) (E : XK) (t : TA) : TS := fun _ σ H => t σ H fun vs H1 => vs.length ≤ 1000 ∧ ∀ a, H1 a = none → sp (.ref a :: vs) (upd H1 a (XO a C none)) (fun v H2 => v = .non ∧ ∃ od, H2 a = some (XO a C od) ∧ E (.ref C) od (del H2 a)) E0
theorem ps_raise (M : XMk X.K C f) (F : FnOk X.prog X.w X.K X.mg X.base CX0 k f fd ps sp) (hr : Room (k + 1) X.A) (hg : Gl X x) (hm : X.mg x = some (.ref C)) (hb : Binds X.K fd ps []) (hx : Raises X E)
    (ha : PA X (e :: es) t) (hdb : (x == ("__debug__" : Str)) = false := by decide) (he : starEach (e :: es) X.env = (false, eval e X.env) :: starEach es X.env := by rfl) (hpl : (backTo pos (starEach es X.env)).any (·.1) = false := by rfl) :
    PS X (.Raise (some (.Call (.Name x p) (e :: es) [] pos)) none rpos) (sRaise C sp E t) := by
  intro pins s σ H D I h
  obtain ⟨cd, hcd, ⟨nm, qn, bs, bm, hdct, sn, sub, ab, col, dd, k0, k1, k2, k3, k5, hCo, T, mN, hN⟩⟩ := xat_of I.kIn M.x
  obtain ⟨cd', hcd', hi⟩ := Option.bind_eq_some_iff.mp M.init
  rw [hcd] at hcd'; cases hcd'
  have hb2 : bm.contains (.type "BaseException") = true := T.hasType (by decide +kernel)
  rw [arm_exec_Raise]
  refine wpAny_bind (wpAny_standAt ?_)
  show wpAny _ _ (raiseStmt X.env (some (do let v ← eval (.Call (.Name x p) (e :: es) [] pos) X.env; standAt rpos; pure v)) none) _ _ _
  refine Xc.raise_made (C := C) (N := cd.ns) (nm := nm) (q := qn) (bs := bs) (bm := bm) (hdct := hdct) (sn := sn) (sub := sub) (ab := ab) (col := col) (dd := dd) (k0 := k0) (k1 := k1) (k2 := k2) (k3 := k3) (k5 := k5) (newId := "ValueError.__new__") hb2 hr.hd ?_
  refine wpAny_bind (thn (Q := fun v s1 => ∃ e od sl vs, v = .ref e ∧ s1.heap.get? C = some (excClassObj nm qn C cd.ns bs bm hdct sn sub ab col dd k0 k1 k2 k3 k5 "ValueError.__new__") ∧ Xc.Exc s1.heap e (.ref C) od sl vs ∧ vs[1]? = some .none ∧ X.xe (.ref e) s1) ?_ fun v s1 h1 => wpAny_bind (wpAny_standAt (wpAny_pure h1)))
  refine wpAny_Call_Name_kw (ld_glob I hg hm ?_ hdb)
  refine PySem.W.callWith_K (h₀ := X.base) I.ok.mod.kin M.kp (thn (ha pos pins s σ H _ I h) fun us s1 ⟨vs, H1, I1, r, hl, q⟩ => ⟨I1.kIn, ?_⟩) he hpl
  have kC : ∀ {s' : Shared} {H' : Hp} {σ' : St}, Inv X pins σ' H' s' → s'.heap.get? C = some (excClassObj nm qn C cd.ns bs bm hdct sn sub ab col dd k0 k1 k2 k3 k5 "ValueError.__new__") := fun J => by
    have hK : ∃ o, X.K.lookup C = some o := by
      unfold PySem.W.clsIn at hcd
      split at hcd
      · rename_i z; exact ⟨_, z⟩
      · cases hcd
    obtain ⟨o, hK⟩ := hK
    have e1 := I.kIn C o hK
    rw [hCo] at e1; cases e1
    exact J.kIn C _ hK
  obtain ⟨oI, hfI, hfc⟩ : ∃ oI, X.K.lookup f = some oI ∧ oI.cls = .type "function" := by
    have z : PySem.W.typeIn X.K (.ref f) = some (.type "function") := beq_iff_eq.mp M.fn
    unfold PySem.W.typeIn at z
    first
      | (obtain ⟨o, a, b⟩ := Option.map_eq_some_iff.mp z; exact ⟨o, a, b⟩)
      | (split at z <;> first | (cases z; done) | (rename_i o _ ; cases z; exact ⟨_, by assumption, rfl⟩))
  have T1 : OwnTail s1.heap veM bm := by
    obtain ⟨cd2, hcd2, ⟨_, _, _, bm2, _, _, _, _, _, _, _, _, _, _, _, hCo2, T2, _⟩⟩ := xat_of I1.kIn M.x
    rw [hcd] at hcd2; cases hcd2
    rw [kC I1] at hCo2
    have : bm = bm2 := by
      have z := Option.some.inj hCo2
      unfold excClassObj at z
      injection z with _ _ z _
      injection z with z
      injection z with _ _ z
      injection z
    rw [this]; exact T2
  obtain ⟨mN1, hN1⟩ : ∃ mN, s1.heap.Ns cd.ns mN := by
    obtain ⟨cd2, hcd2, ⟨_, _, _, bm2, _, _, _, _, _, _, _, _, _, _, _, hCo2, T2, z⟩⟩ := xat_of I1.kIn M.x
    rw [hcd] at hcd2; cases hcd2
    exact z
  have hi1 := ns_of I1.kIn hN1 hi
  have hC1 := kC I1
  have hf1 := I1.kIn f _ hfI
  obtain ⟨hp, g, d, tk, os⟩ := s1
  refine Xc.call_init PySem.F.excBase_ValueError T1 hC1 hN1 hi1 hf1 hfc (fun h' a hm hs => ?_) (by rw [List.nil_append, ← r.length, sizeLine_eq]; omega)
  obtain ⟨tt, ht, _, _⟩ := hm.there
  have I2 := I1.laid (a := a) (o := XO a C none) (h' := h') (t' := tk) hm.keeps hs (XO.mk ht)
  have hq := q a (I1.hok.fresh hs)
  have r2 : Vals (V.ref a :: vs) (Value.ref a :: us) := .cons rfl r
  have hl2 : ((Value.ref a :: us) ++ []).length = ps.length := by
    have e := r2.length
    rw [F.len _ _ _ _ hq] at e
    rw [List.append_nil]
    exact e.symm
  have bb := hb _ (Value.ref a :: us) I2.kIn hl2
  rw [List.append_nil] at bb
  refine wpAny_call (codeAny_mono (F.run _ X.stack _ _ ⟨Value.ref a :: us, []⟩ (Value.ref a :: us) (V.ref a :: vs) _ _ (hr.make C us []) (I2.env0.make C us []) bb r2 hq) fun r s' hq' => ?_)
  cases r with
  | error e => exact False.elim hq'
  | ok fl =>
    cases fl with
    | ret u =>
      obtain ⟨v, H', I3, rv, ev, od, hX, hE⟩ := I2.after hq'
      subst ev
      obtain ⟨sl, t2, g2⟩ := XO.get I3.hok hX
      refine ⟨rv, a, od, sl, _, rfl, kC I3, ⟨g2, by simp⟩, rfl, ?_⟩
      refine hx pins σ (del H' a) s' a (.ref C) od sl _ (I3.untrack hX) ⟨⟨g2, by simp⟩, rfl, del_self, Nat.le_trans I1.sz hs, fun y c e z => ?_, .inl rfl⟩ hE
      obtain ⟨v, o, y, _⟩ := I1.cell _ c e
      rw [z] at y
      exact absurd (Heap.lt_size y) (Nat.not_lt.mpr hs)
    | next => exact False.elim hq'
    | brk => exact False.elim hq'
    | cont => exact False.elim hq'
end
end L2
/-! Within an except suite: an exception is held; a walk's end is raised over it. -/
namespace Xc
open PySem
theorem entry_unchain : entryFor table "proto.unchain" = some Builtin.«proto.unchain» := entryFor_of_tree (by kernel_rfl)
/-- the held one: no context of its own -/
def Held (h : Heap) (ea : Addr) : Prop := ∃ o vs, h.get? ea = some o ∧ o.data = .fields vs ∧ vs[2]? = some .none
theorem Held.at {h h' : Heap} {ea : Addr} (x : Held h ea) (k : ∀ o, h.get? ea = some o → h'.get? ea = some o) : Held h' ea := let ⟨o, vs, a, b, c⟩ := x; ⟨o, vs, k _ a, b, c⟩
section
variable {prog : Program} {w : World} {A : Around} {E : Value → Shared → Prop} {s : Shared}
theorem raiseNew_held {α : Type} {e ea : Addr} {oe : Obj} {vs : Array Value} {Q : α → Shared → Prop} (hh : A.handled = some (.ref ea)) (ne : ea ≠ e) (H : Held s.heap ea) (he : s.heap.get? e = some oe) (hd : oe.data = .fields vs) (hz : 2 < vs.size)
    (h : E (.ref e) { s with heap := s.heap.update e (Obj.mapFields (·.setIfInBounds 2 (.ref ea))) }) : wpAny (model prog w) A (raiseNew (.ref e) : Sem α) Q E s := by
  obtain ⟨o, ws, h1, h2, h3⟩ := H
  unfold raiseNew
  refine wpAny_bind (wpAny_handled ?_)
  rw [hh]
  dsimp only
  rw [if_pos (show (Value.ref ea != Value.ref e) = true from by simp [ne])]
  refine wpAny_bind (wpAny_holding (wpAny_runValue (codeAny_builtin entry_unchain ?_)))
  unfold Builtin.«proto.unchain»
  refine wpAny_bind (wpAny_field h1 h2 h3 ?_)
  rw [if_pos (by rfl)]
  refine wpAny_bind (wpAny_pure ?_)
  refine wpAny_pure ?_
  refine wpAny_bind ?_
  have := wpAny_setField (M := model prog w) (A := A) (E := E) (i := 2) (x := Value.ref ea) (Q := fun _ s' => wpAny (model prog w) A (throw (.ref e) : Sem α) Q E s') he hd hz (wpAny_throw h)
  exact this
theorem next_list_end_held {it l ea : Addr} {i : Nat} {items} {Q : Option Value → Shared → Prop} (hh : A.handled = some (.ref ea)) (H : Held s.heap ea) (nit : ea ≠ it)
    (hit : s.heap.IsListIter it l i) (hl : s.heap.IsList l items) (hx : items[i]? = none)
    (hQ : ∀ h', Heap.ExtBut it s.heap h' → Q none { s with heap := h' }) : wpAny (model prog w) A (pyNext (.ref it)) Q E s := by
  obtain ⟨o, ho, hc, hd⟩ := id hit
  obtain ⟨ol, hol, _, nl, hdl⟩ := hl
  unfold pyNext
  refine wpAny_bind (wpAny_attempt (wpAny_callSpecial?_slot (name := Str.ofString "__next__") hit.typeIs slot_listiter_next
    (wpAny_call_entry slot_listiter_next hit.typeIs entry_listiter_next ?_ (args_listiter_next _))))
  show wpAny _ _ (field (.ref it) 0 >>= _) _ _ s
  refine wpAny_bind (wpAny_field ho hd (x := .ref l) rfl ?_)
  show wpAny _ _ (if (Value.ref l == Value.none) = true then _ else _) _ _ s
  rw [if_neg (show ¬ ((Value.ref l == Value.none) = true) from Bool.false_ne_true)]
  show wpAny _ _ (field (.ref it) 1 >>= _) _ _ s
  refine wpAny_bind (wpAny_field ho hd (x := .int i 0) rfl ?_)
  show wpAny _ _ (seqItems? (.ref l) >>= _) _ _ s
  refine wpAny_bind (wpAny_seqItems hol hdl ?_)
  simp only [Int.toNat_natCast, hx]
  refine wpAny_bind (wpAny_rule (wpAny_bind (wpAny_setField ho hd (by simp) ?_)))
  show wpAny _ _ (newExc (.type "StopIteration") [] >>= _) _ _ _
  refine wpAny_bind ?_
  simp only [newExc, newTuple]
  refine wpAny_bind (wpAny_newObj_type ?_ (by size_fits))
  refine wpAny_bind (m := firstArgMember _ _) (wpAny_of_eq (a := Value.none) (by first | rfl | (simp only [firstArgMember]; rfl)) ?_)
  refine wpAny_newObj_type ?_ (by size_fits)
  have hea : ea < s.heap.objs.size := by obtain ⟨_, _, a, _⟩ := H; exact Heap.lt_size a
  generalize e1 : (s.heap.update it (Obj.mapFields fun x => x.setIfInBounds 0 Value.none)).push { cls := .type "tuple", data := .seq (List.toArray []) } = h1
  have z0 : (s.heap.update it (Obj.mapFields fun x => x.setIfInBounds 0 Value.none)).objs.size = s.heap.objs.size := (Heap.SameBut.update ..).1
  have z1 : h1.objs.size = s.heap.objs.size + 1 := by rw [← e1, Heap.size_push, z0]
  have x1 : Heap.ExtBut it s.heap h1 := by rw [← e1]; exact (Heap.SameBut.update ..).extBut.push _
  refine raiseNew_held (ea := ea) (e := h1.objs.size) (show A.in1.handled = some (.ref ea) from hh) (by rw [z1]; exact Nat.ne_of_lt (Nat.lt_succ_of_lt hea)) (H.at fun o e => ?_) (Heap.get?_push_size _ rfl) rfl (by simp; exact Nat.lt_of_lt_of_le (by decide) (Nat.le_add_right 6 _)) ?_
  · exact Heap.get?_push_of_some _ (x1 ea o nit e)
  · refine wpAny_bind (wpAny_isInstance (T := "StopIteration") (b := true) ⟨_, map_at (Heap.get?_push_size _ rfl) rfl, rfl⟩ isSubtype_stop ?_)
    refine wpAny_pure (hQ _ fun b o hb e => ?_)
    rw [Heap.get?_update_other _ _ (by rw [z1]; exact Nat.ne_of_gt (Nat.lt_succ_of_lt (Heap.lt_size e)))]
    exact Heap.get?_push_of_some _ (x1 b o hb e)
end
theorem walks_held {prog : Program} {w : World} {A : Around} {ea : Addr} (hh : A.handled = some (.ref ea)) (I ax : Addr) (hne : ax ≠ I) (nit : ea ≠ I) (items : Array Value) :
    Walks prog w A I [I, ax, ea] [I] items.size (fun i v => items[i]? = some v) (fun i h => h.IsListIter I ax i ∧ h.IsList ax items ∧ Held h ea) where
  sub := fun b hb => by simp at hb; simp [hb]
  frame := fun _ _ _ st hk => ⟨st.1.at fun o e => hk I (by simp) o e, st.2.1.at fun o e => hk ax (by simp) o e, st.2.2.at fun o e => hk ea (by simp) o e⟩
  item := fun i s Q E hi st hQ => by
    refine wpAny_pyNext_list_item st.1 st.2.1 (x := items[i]) (by simp [hi]) fun h' hit' hs' => ?_
    exact hQ _ h' s.toks (by simp [hi]) ⟨hit', st.2.1.extBut hs'.extBut hne, st.2.2.at fun o e => hs'.extBut ea o nit e⟩ fun b o hb e => hs'.extBut b o (fun h => hb (by simp [h])) e
  done := fun s Q E st hQ => next_list_end_held hh st.2.2 nit st.1 st.2.1 (by simp) fun h' he' => hQ h' s.toks fun b o hb e => he' b o (fun h => hb (by simp [h])) e
  self := fun _ _ _ _ st hQ => wpAny_pyIter_listiter st.1 hQ
end Xc
namespace L2
open PySem PySem.Spec PyProof.Rows
/-- an exception that was caught -/
def XH (a C : Addr) (od : Option Addr) : HO := .ext fun h => ∃ sl vs, Xc.Exc h a (.ref C) od sl vs ∧ vs[2]? = some .none
theorem XH.mk {P : Program} {w : World} {H : Hp} {h : Heap} {a C : Addr} {od : Option Addr} {sl : Array (Option Value)} {vs : Array Value} (e : Xc.Exc h a (.ref C) od sl vs) (h2 : vs[2]? = some .none) :
    ObjOk P w H h a (XH a C od) := ⟨⟨sl, vs, e, h2⟩, ⟨_, e.obj⟩, fun h1 h2 ⟨sl', vs', e', z⟩ k => ⟨sl', vs', ⟨k _ e'.obj, e'.big⟩, z⟩⟩
theorem XH.get {P : Program} {w : World} {H : Hp} {h : Heap} {a C : Addr} {od : Option Addr} (hok : HOk P w H h) (e : H a = some (XH a C od)) : ∃ sl vs, Xc.Exc h a (.ref C) od sl vs ∧ vs[2]? = some .none := (hok a _ e).1
section
variable {X : Cx} {K : PySem.W.Frag}
theorem ObjOk.is {P : Program} {w : World} {H : Hp} {h : Heap} {a : Addr} {o : HO} (x : ObjOk P w H h a o) : ∃ u, h.get? a = some u := by
  cases o with
  | lst xs => obtain ⟨_, _, _, _, e⟩ := x; exact ⟨_, e⟩
  | tup xs => obtain ⟨_, _, _, o, e, _⟩ := x; exact ⟨_, e⟩
  | dK kvs => obtain ⟨_, _, _, _, o, _, _, e, _⟩ := x; exact ⟨_, e⟩
  | dT kvs => obtain ⟨_, _, _, _, o, _, _, e, _⟩ := x; exact ⟨_, e⟩
  | set S n => obtain ⟨o, _, _, _, e, _⟩ := x; exact ⟨_, e⟩
  | ins C dx fs => obtain ⟨_, _, _, e, _⟩ := x; exact ⟨_, e⟩
  | own y => exact x
  | xd fs => obtain ⟨_, ⟨_, _, _, e, _⟩, _⟩ := x; exact ⟨_, e⟩
  | rng lo hi => obtain ⟨_, _, _, e⟩ := x; exact ⟨_, e⟩
  | frz ob u => obtain ⟨e, _⟩ := x; exact ⟨_, e⟩
  | tbl pl q => obtain ⟨_, e, _⟩ := x; exact ⟨_, e⟩
  | met f y => exact ⟨_, (show h.get? a = some _ from x)⟩
  | ext φ => obtain ⟨_, e, _⟩ := x; exact e
theorem walk_boolsH {pins : List (Addr × Obj)} {σ : St} {H : Hp} {s : Shared} {p ea C : Addr} {od : Option Addr} {bs : List Bool} {E : Value → Shared → Prop} {R : Nat → (Nat → Bool) → Value → Shared → Prop} (hh : X.A.handled = some (.ref ea)) (I : Inv X pins σ H s)
    (hx : H ea = some (XH ea C od)) (hq : SqL X.K H p (bs.map V.bl))
    (fin : ∀ (It : Addr) (fp wr : List Addr) (P : Nat → Value → Prop) (St : Nat → Heap → Prop) (s2 : Shared), Walks X.prog X.w X.A.in1 It fp wr bs.length P St → St 0 s2.heap → TruthOf X.prog X.w X.A.in1 P (fun i => bs.getD i false) →
      (∀ h' tk, (∀ b o, b ∉ wr → s2.heap.get? b = some o → h'.get? b = some o) → Inv X pins σ H { s2 with heap := h', toks := tk }) → R bs.length (fun i => bs.getD i false) (.ref It) s2) :
    wpAny (model X.prog X.w) X.A.in1 (pyIter (.ref p)) (fun it s2 => R bs.length (fun i => bs.getD i false) it s2) E s := by
  obtain ⟨its, rv, pl, hz⟩ := I.list hq
  obtain ⟨sl, vs, ex, h2⟩ := XH.get I.hok hx
  refine wpAny_pyIter_list pl.isList ?_
  have lp : p < s.heap.objs.size := by obtain ⟨_, o, _⟩ := pl.isList; exact Heap.lt_size o
  have le : ea < s.heap.objs.size := Heap.lt_size ex.obj
  have hlen : its.toArray.size = bs.length := by rw [List.size_toArray, ← rv.length, List.length_map]
  have W := Xc.walks_held (prog := X.prog) (w := X.w) (A := X.A.in1) (show X.A.in1.handled = some (.ref ea) from hh) s.heap.objs.size p (Nat.ne_of_lt lp) (Nat.ne_of_lt le) its.toArray
  rw [hlen] at W
  refine fin _ _ _ _ _ _ W ⟨⟨_, Heap.get?_push_size _ rfl, rfl, rfl⟩, pl.isList.push _, ⟨_, vs, Heap.get?_push_of_some _ ex.obj, rfl, h2⟩⟩ (fun i v s' Q' E' hP hQ => ?_) (fun h' tk hk => ?_)
  · obtain ⟨b, hb, rfl⟩ := bools_at (i := i) (v := v) rv (by simpa using hP)
    refine wpAny_truthy_bool ?_
    have : bs.getD i false = b := by rw [List.getD_eq_getElem?_getD, hb]; rfl
    simpa only [this] using hQ
  · refine I.kept (t' := tk) fun b o e => hk b o (fun z => ?_) (Heap.get?_push_of_some _ e)
    have : b = s.heap.objs.size := by simpa using z
    exact absurd (Heap.lt_size e) (by rw [this]; exact Nat.lt_irrefl _)
theorem callH_any {ea : Addr} (hK : X.K = K) (hh : X.A.handled = some (.ref ea)) : CallR X (.builtin "any") (fun xs H Q => ∃ (p C : Addr) (od : Option Addr) (bs : List Bool), xs = [.ref p] ∧ H ea = some (XH ea C od) ∧ SqL K H p (bs.map V.bl) ∧ Q (.bl (bs.any id)) H) := by
  subst hK
  intro pins s σ H xs us Q I r h
  obtain ⟨p, C, od, bs, rfl, hx, hq, q⟩ := h
  obtain ⟨u, rfl, ru⟩ := vals1 r
  cases ru
  refine call_any_walk (walk_boolsH hh I hx hq (R := fun n tr it s2 => ∃ It fp wr n P St tr, it = .ref It ∧ Walks X.prog X.w X.A.in1 It fp wr n P St ∧ St 0 s2.heap ∧ TruthOf X.prog X.w X.A.in1 P tr ∧
    ∀ h' tk, (∀ b o, b ∉ wr → s2.heap.get? b = some o → h'.get? b = some o) → EP X pins σ Q (.bool ((List.range n).any tr)) { s2 with heap := h', toks := tk }) ?_)
  intro It fp wr P St s2 W st tr k
  refine ⟨It, fp, wr, _, P, St, _, rfl, W, st, tr, fun h' tk hk => ?_⟩
  rw [range_any]
  exact ⟨.bl (bs.any id), H, k h' tk hk, rfl, q⟩
theorem XH.inst {P : Program} {w : World} {H : Hp} {h : Heap} {a C : Addr} {od : Option Addr} (hok : HOk P w H h) (e : H a = some (XH a C od)) (hd : ∀ d, od = some d → ∃ o, h.get? d = some o) : ∃ ox oo, PySem.W.InstAt h a ox C oo := by
  obtain ⟨sl, vs, ex, _⟩ := XH.get hok e
  cases od with
  | none => exact ⟨_, none, ex.obj, rfl, rfl, trivial⟩
  | some d =>
    obtain ⟨o, ho⟩ := hd d rfl
    exact ⟨_, some o, ex.obj, rfl, rfl, ho⟩
/-- isinstance(error, D) -/
theorem callX_isinstance (hK : X.K = K) : CallR X (.builtin "isinstance") (fun xs H Q => ∃ (a C D : Addr) (od : Option Addr) (b : Bool), xs = [.ref a, .ref D] ∧ H a = some (XH a C od) ∧ (∀ d, od = some d → ∃ u, H d = some u) ∧ Xc.XC K C ∧ PySem.W.kitOne K (.ref C) (.ref D) = some b ∧ Q (.bl b) H) := by
  subst hK
  intro pins s σ H xs us Q I r h
  obtain ⟨a, C, D, od, b, rfl, hx, hd, c, k, q⟩ := h
  obtain ⟨u1, u2, rfl, r1, r2⟩ : ∃ u1 u2, us = [u1, u2] ∧ RelV (.ref a) u1 ∧ RelV (.ref D) u2 := by
    cases r with | cons r1 r2 => cases r2 with | cons r2 r3 => cases r3; exact ⟨_, _, rfl, r1, r2⟩
  cases r1
  cases r2
  refine PySem.W.kia_one (Xc.kitx c) I.kIn (XH.inst I.hok hx fun d e => ?_) k (fun z => nomatch z) fun tk => ⟨.bl b, H, I.tok _, rfl, q⟩
  obtain ⟨u, hu⟩ := hd d e
  exact (I.hok d u hu).is
end
end L2
/-! try: f(..) except Y as n: a call's exception, caught. -/
namespace Xc
open PySem PySem.W PySem.Calls PyProof.Rows
section
variable {prog : Program} {w : World} {A : Around} {E : Value → Shared → Prop} {s : Shared} {K : Frag} {x C Y : Addr} {ox : Obj} {od : Option Obj}
theorem looks_isType {M : Model} {h : Heap} (X : K.In h) (c : XC K Y) : Looks M h (isType (.ref Y)) true := by
  obtain ⟨cdD, hcD, _⟩ := any_some c.hd
  unfold clsIn at hcD
  split at hcD
  · rename_i c' d' cd' sl' ho
    intro A' Q' E' s' k q
    unfold isType loadHead
    exact wpAny_bind (wpAny_loadPart (k _ _ (X _ _ ho)) (wpAny_pure q))
  · cases hcD
theorem matches_own {M : Model} {b : Bool} {Q : Bool → Shared → Prop} (X : K.In s.heap) (I : InstAt s.heap x ox C od) (hm : mroIn K C (.ref Y) = some b) (c : XC K Y) (t : typeIn K (.ref Y) = some (.type "type")) (h : Q b s) :
    wpAny M A (excMatches (.ref x) (.ref Y)) Q E s := by
  have L1 : Looks M s.heap (isInstance (.ref Y) (.type "tuple")) false := (looks_typeIn X t).andThen (Looks.of_pure tc_notTuple)
  have L2 : Looks M s.heap (isExcClass (.ref Y)) true := (looks_isType X c).andThen (by rw [if_pos rfl]; exact looks_mroIn X (c.has (by decide +kernel)))
  unfold excMatches
  refine wpAny_bind (L1.here ?_)
  rw [if_neg Bool.false_ne_true]
  refine wpAny_bind (wpAny_pure ?_)
  simp only [List.forIn_cons, List.forIn_nil]
  refine wpAny_bind (wpAny_bind (wpAny_bind (L2.here ?_)))
  simp only [Bool.not_true, Bool.false_eq_true, if_false]
  refine wpAny_pure (wpAny_pure ?_)
  refine wpAny_bind (I.type.here (wpAny_bind (wpAny_bind (wpAny_bind ((looks_mroIn X hm).here ?_)))))
  cases b with
  | true => rw [if_pos rfl]; exact wpAny_pure (wpAny_pure (wpAny_pure h))
  | false => rw [if_neg Bool.false_ne_true]; exact wpAny_pure (wpAny_pure (wpAny_pure h))
end
end Xc
namespace L2
open PySem PySem.Spec PyProof.Rows
section
variable {X : Cx} {K : PySem.W.Frag} {pins : List (Addr × Obj)} {σ : St} {H : Hp} {s : Shared} {ea : Addr}
/-- within an except suite -/
abbrev Cx.held (X : Cx) (ea : Addr) : Cx := { X with A := X.A.mark (some (.ref ea)), calm := false, xe := fun _ _ => False }
theorem Cx.Ok.held (ok : X.Ok) : (X.held ea).Ok :=
  ⟨ok.mod, ok.kind, ok.glob, ok.blt, ok.above, ok.inj, ok.has, ok.cab, (fun z => by cases z), ok.frames, ok.stk, ok.exf, ok.bs, ok.bsz, ok.noex, ok.exfs, ok.funs, ok.frf⟩
theorem Inv.held (I : Inv X pins σ H s) : Inv (X.held ea) pins σ H s := ⟨I.ok.held, I.os, I.bare, I.base, I.loc, I.cell, I.free, I.freeC, I.pin, I.hok, I.len⟩
theorem Inv.unheld (ok : X.Ok) (I : Inv (X.held ea) pins σ H s) : Inv X pins σ H s := ⟨ok, I.os, I.bare, I.base, I.loc, I.cell, I.free, I.freeC, I.pin, I.hok, I.len⟩
/-- error.f -/
def tXf (K : PySem.W.Frag) (ta : TE) (f : Str) : TE := fun σ H Q => ta σ H fun x H1 => ∃ (a C d : Addr) (fs : List (Str × V)) (v : V), x = .ref a ∧ H1 a = some (XH a C (some d)) ∧ H1 d = some (.xd fs) ∧ Xc.XC K C ∧ PySem.W.findIn K (.ref C) f = some none ∧ fs.lookup f = some v ∧ Q v H1
theorem pe_xf {e : Expr} {f : Str} {pos : Pos} {ta : TE} (hK : X.K = K) (he : PE X e ta) (hb : attributeBase e f X.env (eval e X.env) = eval e X.env) : PE X (.Attribute e f pos) (tXf K ta f) := by
  subst hK
  intro pins s σ H Q I h
  refine attr_of hb (thn (he pins s σ H _ I h) fun u s1 ⟨x, H1, I1, rx, a, C, d, fs, v, ex, ea, ed, c, n, l, q⟩ => ?_)
  subst ex
  obtain rfl : u = Value.ref a := rx
  obtain ⟨sl, vs, xc, _⟩ := XH.get I1.hok ea
  obtain ⟨mA, hN, hr⟩ := I1.hok d _ ed
  obtain ⟨od, ho, hl⟩ := lookIn_ns hN
  have hv := hr f
  rw [l] at hv
  cases e : mA f with
  | none => rw [e] at hv; exact hv.elim
  | some u =>
    rw [e] at hv
    exact Xc.get_own c I1.kIn ⟨xc.obj, rfl, rfl, ho⟩ n (by rw [hl, e]) (handed_of hv) ⟨v, H1, I1.tok _, hv, q⟩
/-- an exception is followed from here on -/
theorem Inv.track {C : Addr} {od : Option Addr} {sl : Array (Option Value)} {vs : Array Value} (I : Inv X pins σ H s) (ex : Xc.Exc s.heap ea (.ref C) od sl vs) (h2 : vs[2]? = some .none) (n1 : H ea = none) (n2 : X.s₀.heap.objs.size ≤ ea) (n3 : ea ≠ X.env.locals)
    (n4 : ∀ x c, X.env.cells.lookup x = some c → c ≠ ea) (n5 : ∀ p ∈ X.pn ++ pins, p.1 ≠ ea) : Inv X pins σ (upd H ea (XH ea C od)) s := by
  refine ⟨I.ok, I.os, I.bare, ⟨I.base.keep, I.base.slot, fun b o q n hx => ?_, I.base.there, fun b xs q => upd_get (I.base.tups b xs q) n1, fun b o u q => upd_get (I.base.frzs b o u q) n1, fun b pl y q => upd_get (I.base.tbls b pl y q) n1⟩, I.loc, I.cell, by rw [upd_ne n3.symm]; exact I.free, fun y c q => by rw [upd_ne (n4 y c q)]; exact I.freeC y c q, fun p hp => ?_, fun b o q => ?_, I.len⟩
  · rw [upd_ne (fun z => by rw [z, Heap.get?_none_of_le n2] at q; cases q)]
    exact I.base.free b o q n hx
  · obtain ⟨p1, p2, p3⟩ := I.pin p hp
    exact ⟨p1, by rw [upd_ne (n5 p hp)]; exact p2, p3⟩
  · by_cases hb : b = ea
    · subst hb
      rw [upd_same] at q
      cases q
      exact XH.mk ex h2
    · rw [upd_ne hb] at q
      exact (I.hok b o q).stay (fun c v _ r => r) (fun c r => upd_get r n1) (fun c xs r => upd_get r n1) fun c ob y r => upd_get r n1
/-- the name behind the suite -/
theorem name_goes {M : Model} {A : Around} {E : Value → Shared → Prop} {i : Nat} {x : Str} {pos : Pos} {Q : Unit → Shared → Prop} (I : Inv X pins σ H s) (hN : X.N.Nodup) (hi : X.N[i]? = some x) (hx : X.env.scope.names.lookup x = some .local)
    (h : ∀ s', Inv X pins (σ.set i none) H s' → Q () s') : wpAny M A (do bindName X.env x .none; unbindBehindTheSuite X.env x pos) Q E s := by
  obtain ⟨m, hn, hl⟩ := id I.loc
  have hcls : (X.env.scope.kind == .class || (X.env.scope.kind == .module && X.env.locals != X.env.globals)) = false := by rw [I.ok.kind]; rfl
  have hiσ : i < σ.length := by rw [I.len]; exact (List.getElem?_eq_some_iff.mp hi).1
  have cne := I.cne
  obtain ⟨oL, _, _, hoL, _⟩ := id hn
  refine wpAny_nameGoes_keeps hx hn hcls fun h' v hn' hs => h _ ⟨I.ok, I.os, I.bare, ⟨fun b o e n hb hx => ?_, fun b o e n hb hx => ?_, I.base.free, fun b o e hx => ?_, I.base.tups, I.base.frzs, I.base.tbls⟩, ⟨_, hn', fun j y v' e1 e2 e3 => ?_⟩, fun y c e => ?_, I.free, I.freeC, fun p hp => ?_, fun b ob e => ?_, by simpa using I.len⟩
  · exact (hs.2 b (Nat.ne_of_lt (Nat.lt_of_lt_of_le (Heap.lt_size e) I.ok.above))).trans (I.base.keep b o e n hb hx)
  · obtain ⟨sl, e1⟩ := I.base.slot b o e n hb hx
    exact ⟨sl, (hs.2 b (Nat.ne_of_lt (Nat.lt_of_lt_of_le (Heap.lt_size e) I.ok.above))).trans e1⟩
  · obtain ⟨o', e1⟩ := I.base.there b o e hx
    exact ⟨o', (hs.2 b (Nat.ne_of_lt (Nat.lt_of_lt_of_le (Heap.lt_size e) I.ok.above))).trans e1⟩
  · by_cases hj : j = i
    · subst hj
      rw [List.getElem?_set_self hiσ] at e2
      cases e2
    · rw [List.getElem?_set_ne (Ne.symm hj)] at e2
      obtain ⟨u', r', q⟩ := hl j y v' e1 e2 e3
      refine ⟨u', r', ?_⟩
      rcases q with ⟨k, e⟩ | ⟨k, c, e, z⟩
      · refine .inl ⟨k, ?_⟩
        have : y ≠ x := fun e => hj (nodup_ix hN e1 (e ▸ hi))
        simp [this, e]
      · exact .inr ⟨k, c, e, z.sameBut hs (cne y c e)⟩
  · obtain ⟨w', z⟩ := I.cell y c e
    exact ⟨w', z.sameBut hs (cne y c e)⟩
  · obtain ⟨e, n, ne, nf, d⟩ := I.pin p hp
    exact ⟨(hs.2 p.1 ne).trans e, n, ne, nf, d⟩
  · refine (I.hok b ob e).stay (fun c w' hc q => (hs.2 c ?_).trans q) (fun _ q => q) (fun _ _ q => q) fun _ _ _ q => q
    rintro rfl
    rcases hc with rfl | hc
    · rw [I.free] at e; cases e
    · rw [I.free] at hc; cases hc
end
end L2
/-! try: a call, except Y as n: what a call raises is caught in the body that made it. -/
namespace L2
open PySem PySem.Spec PyProof.Rows
/-- an exception of a call made from this body -/
def XFrom (X : Cx) (pins : List (Addr × Obj)) (σ : St) (E : XK) : Value → Shared → Prop := fun e s' => ∃ H1 s1, Inv X pins σ H1 s1 ∧ CXe X.prog X.w X.stack H1 s1 E e s'
/-- an expression, a statement that may raise -/
abbrev TX := St → Hp → VK → XK → Prop
abbrev TSX := Ends → St → Hp → XK → Prop
def PX (X : Cx) (e : Expr) (t : TX) : Prop :=
  ∀ (pins : List (Addr × Obj)) (s : Shared) (σ : St) (H : Hp) (Q : VK) (E : XK), Inv X pins σ H s → t σ H Q E → wpAny (model X.prog X.w) X.A (eval e X.env) (EP X pins σ Q) (XFrom X pins σ E) s
def PSX (X : Cx) (st : Stmt) (t : TSX) : Prop :=
  ∀ (pins : List (Addr × Obj)) (s : Shared) (σ : St) (H : Hp) (D : Ends) (E : XK), Inv X pins σ H s → t D σ H E → wpAny (model X.prog X.w) X.A (exec st X.env) (SP X pins D) (XFrom X pins σ E) s
def tCallX (sp : Sp) (t : TA) : TX := fun σ H Q E => t σ H fun vs H1 => sp vs H1 Q E
section
variable {X : Cx} {K : PySem.W.Frag} {pins : List (Addr × Obj)} {σ : St} {H : Hp} {s : Shared} {k : Nat} {x : Str} {ps : List Str} {sp : Sp} {p pos : Pos} {e : Expr} {es : List Expr} {t : TA} {tx : TX}
theorem runX {f : Addr} {fd : FuncData} {Q : VK} {E : XK} {us : List Value} {vs : List V} (F : FnOk X.prog X.w X.K X.mg X.base (CXe X.prog X.w) k f fd ps sp) (hr : Room k X.A) (hb : Binds X.K fd ps []) (I : Inv X pins σ H s) (r : Vals vs us) (h : sp vs H Q E) :
    wpAny (model X.prog X.w) X.A (call (.ref f) us) (EP X pins σ Q) (XFrom X pins σ E) s := by
  have hl : (us ++ []).length = ps.length := by rw [List.append_nil, ← r.length]; exact F.len _ _ _ _ h
  have hb' := hb s us I.kIn hl
  rw [List.append_nil] at hb'
  refine wpAny_call (codeAny_mono (F.run X.A X.stack s H ⟨us, []⟩ us vs Q E hr I.env0 hb' r h) fun r s' hq => ?_)
  cases r with
  | error e => exact ⟨H, s, I, hq⟩
  | ok fl =>
    cases fl with
    | ret u => exact I.after hq
    | next => exact False.elim hq
    | brk => exact False.elim hq
    | cont => exact False.elim hq
theorem px_call (c : Ctr X.prog X.w X.K X.mg X.base (CXe X.prog X.w) k x ps sp) (hr : Room k X.A) (hg : Gl X x) (ha : PA X.nox (e :: es) t) (hdb : (x == ("__debug__" : Str)) = false := by decide)
    (he : starEach (e :: es) X.env = (false, eval e X.env) :: starEach es X.env := by rfl) (hpl : (backTo pos (starEach es X.env)).any (·.1) = false := by rfl) : PX X (.Call (.Name x p) (e :: es) [] pos) (tCallX sp t) := by
  intro pins s σ H Q E I h
  obtain ⟨f, fd, F, hm, hk, hb⟩ := c.ex
  refine wpAny_Call_Name_kw (ld_glob I hg hm ?_ hdb)
  refine PySem.W.callWith_K (h₀ := X.base) I.ok.mod.kin hk (wpAny_mono (ha pos pins s σ H _ (I.wish _) h) (fun us s1 ⟨vs, H1, I1, r, q⟩ => ⟨I1.kIn, ?_⟩) fun _ _ z => False.elim z) he hpl
  exact runX F hr hb I1.unwish r q
def sExprX (t : TX) : TSX := fun D σ H E => t σ H (fun _ H' => D.nx σ H') E
theorem psx_expr (he : PX X e tx) (hs : swapsWith e none pos.line X.env = pure false := by rfl) : PSX X (.Expr e pos) (sExprX tx) := by
  intro pins s σ H D E I h
  exact wpAny_Expr_any (thn (he pins s σ H _ E I h) fun v s1 ⟨x, H1, I1, r1, q1⟩ => ⟨σ, H1, I1, q1⟩) I.quiet hs
/-! ### the catch -/
theorem caught {M : Model} {A : Around} {XE : Value → Shared → Prop} {R : Unit → Shared → Prop} {E : XK} {ev : Value} {s' : Shared} (h : XFrom X pins σ E ev s') (hfr : A.frames = some X.stack) (hs : X.stack = X.env :: X.outer) (hl : X.env.frame = some X.env.locals)
    (k : ∀ (ea T : Addr) (cls : Value) (od : Option Addr) (sl : Array (Option Value)) (vs : Array Value) (H' : Hp) (s3 : Shared), ev = .ref ea → Inv X pins σ H' s3 → Xc.Exc s3.heap ea cls od sl vs → vs[1]? = some (.ref T) → T ≠ ea → vs[2]? = some .none → Xc.Tb s3.heap T .none →
      FpOk X pins H' ea → FpOk X pins H' T → X.s₀.heap.objs.size ≤ ea → E cls od H' → R () s3) :
    wpAny M A (noteFrame ev X.env) (fun _ s2 => wpAny M A (setFlight ev none) R XE s2) XE s' := by
  obtain ⟨H1, s1, I, ea, T, cls, od, sl, vs, H', rfl, ho, hb, hu, hok, n1, n2, m1, m2, ex, v1, ne, v2, tb, q⟩ := h
  have I' := I.call' (ch := []) ho hu hok hb (fun _ z => nomatch z)
  have hst : s'.heap.FunFrames X.base (X.env :: X.outer) := by rw [← hs]; exact I'.stack
  have sfree : ∀ b ∈ (X.env :: X.outer).filterMap (·.frame), H' b = none := by
    have z := I'.stkFree
    rw [hs] at z
    exact z
  have hfs : frs X.stack = (X.env :: X.outer).filterMap (·.frame) := by rw [hs]; rfl
  have new1 : s1.heap.get? ea = none := Heap.get?_none_of_le m1
  have newT : ∀ b, vs[1]? = some (.ref b) → H' b = none ∧ s1.heap.get? b = none := fun b e => by
    rw [v1] at e; cases e
    exact ⟨n2, Heap.get?_none_of_le m2⟩
  refine Xc.note_step (base := X.base) (hfr.trans (by rw [hs])) hst hl ex (.inr ⟨T, v1, ne, tb⟩) fun h1 T1 k1 k2 k3 k4 k5 k6 => ?_
  have hv1 : (vs.setIfInBounds 1 (.ref T1))[1]? = some (.ref T1) := by simp [Nat.lt_of_succ_lt ex.big]
  have hv2 : (vs.setIfInBounds 1 (.ref T1))[2]? = some .none := by rw [Array.getElem?_setIfInBounds_ne (by decide)]; exact v2
  have hTe : T1 ≠ ea := Nat.ne_of_gt (Nat.lt_of_lt_of_le (Heap.lt_size ex.obj) k4)
  refine Xc.land k5 hv1 hTe k6 fun h2 g1 g2 => ?_
  have ltT : ∀ b o, s'.heap.get? b = some o → b ≠ T1 := fun b o e => Nat.ne_of_lt (Nat.lt_of_lt_of_le (Heap.lt_size e) k4)
  have lT1 : s1.heap.objs.size ≤ T1 := by
    obtain ⟨oT, _, e, _⟩ := tb.ex
    exact Nat.le_trans m2 (Nat.le_trans (Nat.le_of_lt (Heap.lt_size e)) k4)
  have slots : ∀ b o o', s1.heap.get? b = some o → s'.heap.get? b = some o' → ∃ k, h2.get? b = some { o' with slots := k } := fun b o o' e0 e => by
    obtain ⟨k, z⟩ := k2 b o' (fun z => by rw [z, new1] at e0; cases e0) (fun z => by rw [(newT b z).2] at e0; cases e0) e
    exact ⟨k, g1 b _ (ltT b o' e) z⟩
  have hok2 : HOk X.prog X.w H' h2 := hok_kept hok fun b o u hu e => g1 b o (ltT b o e) (k1 b o (fun z => by rw [sfree b z] at hu; cases hu) (fun z => by rw [z, n1] at hu; cases hu) (fun z => by rw [(newT b z).1] at hu; cases hu) e)
  have u2 : Un (frs X.stack) [] H1 H' s1.heap h2 := by
    refine ⟨fun b o e n hb hx => ?_, fun b o e n hb hx => ?_, hu.free, fun b o e hx => ?_, hu.tups, hu.frzs, hu.tbls⟩
    · have e1 := hu.keep b o e n hb hx
      exact g1 b o (ltT b o e1) (k1 b o (by rw [← hfs]; exact hb) (fun z => by rw [z, new1] at e; cases e) (fun z => by rw [(newT b z).2] at e; cases e) e1)
    · obtain ⟨k0, e0⟩ := hu.slot b o e n hb hx
      obtain ⟨k, z⟩ := slots b o _ e e0
      exact ⟨k, z⟩
    · obtain ⟨o', e1⟩ := hu.there b o e hx
      obtain ⟨k, z⟩ := slots b o o' e e1
      exact ⟨_, z⟩
  have I2 : Inv X pins σ H' { s' with heap := h2 } := I.call' (s' := { s' with heap := h2 }) (ch := []) ho u2 hok2 hb (fun _ z => nomatch z)
  exact k ea T1 cls od sl _ H' _ rfl I2 ⟨g1 _ _ hTe.symm k5.obj, k5.big⟩ hv1 hTe hv2 g2 (I.fpOk m1 n1) (I.fpOk lT1 (I'.hok.fresh k4)) (Nat.le_trans I.sz m1) q
/-! ### the statement -/
def Ends.behind (D : Ends) (i : Nat) : Ends := ⟨fun σ H => D.nx (σ.set i none) H, D.rt, fun σ H => D.bk (σ.set i none) H, fun σ H => D.ct (σ.set i none) H⟩
def tTry (K : PySem.W.Frag) (Y : Addr) (i : Nat) (tb : TSX) (th : Addr → TS) : TS := fun D σ H => tb D σ H fun cls od H1 => ∃ C, cls = .ref C ∧ (∀ d, od = some d → ∃ u, H1 d = some u) ∧ PySem.W.mroIn K C (.ref Y) = some true ∧
  ∀ ea, H1 ea = none → th ea (D.behind i) (σ.set i (some (.ref ea))) (upd H1 ea (XH ea C od))
theorem ps_try {st b₀ : Stmt} {suite : List Stmt} {y n : Str} {Y : Addr} {i : Nat} {np hpos : Pos} {tb : TSX} {th : Addr → TS} (hK : X.K = K) (hs : X.stack = X.env :: X.outer) (hl : X.env.frame = some X.env.locals) (hst : PSX X st tb) (hg : Gl X y) (hm : X.mg y = some (.ref Y))
    (hY : Xc.XC K Y) (tY : PySem.W.typeIn K (.ref Y) = some (.type "type")) (hN : X.N.Nodup) (hi : X.N[i]? = some n) (hx : X.env.scope.names.lookup n = some .local) (hh : ∀ ea, PSs (X.held ea) (b₀ :: suite) (th ea)) (hdb : (y == ("__debug__" : Str)) = false := by decide) :
    PS X (.Try [st] [.ExceptHandler (some (.Name y np)) (some n) (b₀ :: suite) hpos] [] [] pos) (tTry K Y i tb th) := by
  subst hK
  intro pins s σ H D I h
  have hbody : wpAny (model X.prog X.w) X.A (execs [st] X.env) (SP X pins D) (XFrom X pins σ fun cls od H1 => ∃ C, cls = .ref C ∧ (∀ d, od = some d → ∃ u, H1 d = some u) ∧ PySem.W.mroIn X.K C (.ref Y) = some true ∧
      ∀ ea, H1 ea = none → th ea (D.behind i) (σ.set i (some (.ref ea))) (upd H1 ea (XH ea C od))) s := by
    refine wpAny_execs_cons (thn (hst pins s σ H D _ I h) fun f s1 q => ?_)
    cases f with
    | next => exact wpAny_execs_nil q
    | ret v => exact q
    | brk => exact q
    | cont => exact q
  refine wpAny_Try_except (wpAny_mono hbody (fun f s1 q => ?_) fun e s1 hxx => ?_)
  · cases f with
    | next => exact wpAny_execs_nil q
    | ret v => exact q
    | brk => exact q
    | cont => exact q
  refine caught hxx I.ok.frames hs hl fun ea T cls od sl vs H' s3 ee I3 ex hv1 hTe hv2 tb3 fE fT le ⟨C, ec, hd, hmro, hth⟩ => ?_
  subst ee ec
  have stay : ∀ (e : Value) (s' : Shared), (X.held ea).xe e s' → notedBy (model X.prog X.w) (X.A.mark (some (.ref ea))) X.env (cameBackBy (model X.prog X.w) X.A X.env X.xe) e s' := fun _ _ z => False.elim z
  refine wpAny_handleBy_cons (codeAny_handlers_test (ld_glob (X := X.held ea) I3.held hg hm ?_ hdb)) (by intro q; cases q)
  have inst : ∃ ox oo, PySem.W.InstAt s3.heap ea ox C oo := by
    cases od with
    | none => exact ⟨_, none, ex.obj, rfl, rfl, trivial⟩
    | some d =>
      obtain ⟨u, hu⟩ := hd d rfl
      obtain ⟨o, ho⟩ := (I3.hok d u hu).is
      exact ⟨_, some o, ex.obj, rfl, rfl, ho⟩
  obtain ⟨ox, oo, inst⟩ := inst
  refine Xc.matches_own (K := X.K) I3.kIn inst hmro hY tY ?_
  refine codeAny_handlers_suite_as (Xc.land ex hv1 hTe tb3 fun h3 g1 g2 => ?_)
  have I4 : Inv X pins σ H' { s3 with heap := h3 } := I3.turned (t' := s3.toks) (it := T) g1 fT.1 fT.2.1 fT.2.2.2.1 fT.2.2.2.2.1 fT.2.2.2.2.2
  have I5 := I4.track (C := C) (od := od) (ea := ea) (s := { s3 with heap := h3 }) ⟨g1 _ _ hTe.symm ex.obj, ex.big⟩ hv2 fE.1 le fE.2.1 fE.2.2.2.2.1 fE.2.2.2.2.2
  refine store_ok (X := X.held ea) (v := .ref ea) (I5.held (ea := ea)) hN hi (.inl hx) rfl (fun s5 I6 => ?_) (.inr hx)
  refine wpAny_mono (hh ea pins s5 _ _ _ I6 (hth ea fE.1)) (fun f s6 q => ?_) fun _ _ z => False.elim z
  cases f with
  | next =>
    obtain ⟨σ', H6, I7, q⟩ := q
    exact name_goes (I7.unheld I.ok) hN hi hx fun s7 I8 => ⟨_, _, I8, q⟩
  | ret u =>
    obtain ⟨v, σ', H6, I7, r, q⟩ := q
    exact name_goes (I7.unheld I.ok) hN hi hx fun s7 I8 => ⟨v, _, _, I8, r, q⟩
  | brk =>
    obtain ⟨σ', H6, I7, q⟩ := q
    exact name_goes (I7.unheld I.ok) hN hi hx fun s7 I8 => ⟨_, _, I8, q⟩
  | cont =>
    obtain ⟨σ', H6, I7, q⟩ := q
    exact name_goes (I7.unheld I.ok) hN hi hx fun s7 I8 => ⟨_, _, I8, q⟩
/-- a call whose exceptions are not wanted -/
theorem passE0 {P : Program} {w : World} : Passes (CXe P w) X E0 := by
  intro pins σ H s e s' I h
  obtain ⟨_, _, _, _, _, _, _, _, _, _, _, _, _, _, _, _, _, _, _, _, _, q⟩ := h
  exact False.elim q
theorem pe_callX (c : Ctr X.prog X.w X.K X.mg X.base (CXe X.prog X.w) k x ps sp) (hr : Room k X.A) (hg : Gl X x) (ha : PA X (e :: es) t) (hdb : (x == ("__debug__" : Str)) = false := by decide)
    (he : starEach (e :: es) X.env = (false, eval e X.env) :: starEach es X.env := by rfl) (hpl : (backTo pos (starEach es X.env)).any (·.1) = false := by rfl) : PE X (.Call (.Name x p) (e :: es) [] pos) (tCall sp [] E0 t) :=
  pe_callCE c hr hg ha passE0 hdb he hpl
end
end L2
/-! a, b, c = x, y, z with plain local names: stored from the right. -/
namespace L2
open PySem PySem.Spec PyProof.Rows
section
variable {X : Cx} {pos : Pos}
def tPar3 (i j k : Nat) (ta : TA) : TS := fun D σ H => ta σ H fun vs H1 => ∃ v w u, vs = [v, w, u] ∧ D.nx (((σ.set i (some v)).set j (some w)).set k (some u)) H1
theorem ps_par3 {i j k : Nat} {x y z : Str} {a b c : Expr} {ta : TA} {px py pz pt : Pos} {kt k2 pt2} (hc : X.calm = true) (hN : X.N.Nodup) (hi : X.N[i]? = some x) (hj : X.N[j]? = some y) (hk : X.N[k]? = some z) (hij : i ≠ j) (hik : i ≠ k) (hjk : j ≠ k)
    (hx : X.env.scope.names.lookup x = some .local) (hy : X.env.scope.names.lookup y = some .local) (hz : X.env.scope.names.lookup z = some .local) (ha : PA X [a, b, c] ta)
    (hw : swappedStores [.Tuple [.Name x px, .Name y py, .Name z pz] kt pt] (.Tuple [a, b, c] k2 pt2) X.env = pure (some [x, y, z]))
    (hs : swapsWithSole [.Tuple [.Name x px, .Name y py, .Name z pz] kt pt] (.Tuple [a, b, c] k2 pt2) pos.line X.env = pure false := by rfl) :
    PS X (.Assign [.Tuple [.Name x px, .Name y py, .Name z pz] kt pt] (.Tuple [a, b, c] k2 pt2) pos) (tPar3 i j k ta) := by
  intro pins s σ H D I h
  rw [exec_Assign_arm]
  refine wpAny_bind (wpAny_standAt ?_)
  rw [hs]
  refine wpAny_bind (wpAny_pure ?_)
  rw [if_neg (by decide)]
  refine wpAny_bind (Tuple_ (thn (ha _ pins s σ H _ I h) fun us s1 ⟨vs, H1, I1, r1, q1⟩ => ?_))
  obtain ⟨v, w, u, e1, q1⟩ := q1
  subst e1
  obtain ⟨u1, u2, u3, rfl, rv, rw', ru⟩ : ∃ u1 u2 u3, us = [u1, u2, u3] ∧ RelV v u1 ∧ RelV w u2 ∧ RelV u u3 := by
    cases r1 with
    | cons p q =>
      cases q with
      | cons p' q' =>
        cases q' with
        | cons p'' q'' =>
          cases q''
          exact ⟨_, _, _, rfl, p, p', p''⟩
  refine wpAny_newObj_type ?_ (by show 3 ≤ sizeLine; decide)
  have I2 : Inv X pins σ H1 { s1 with heap := s1.heap.push { cls := .type "tuple", data := .seq [u1, u2, u3].toArray } } := I1.kept (t' := s1.toks) fun b o e => Heap.get?_push_of_some _ e
  rw [hw]
  refine wpAny_bind (wpAny_pure ?_)
  show wpAny (model X.prog X.w) X.A (do rule "assign.swapped-stores"; let items ← unpackItems (.ref s1.heap.objs.size) 3 none; assignInOrder [fun v => bindName X.env z v, fun v => bindName X.env y v, fun v => bindName X.env x v] items.reverse; pure Flow.next) _ _ _
  refine wpAny_bind (wpAny_rule (wpAny_bind (unpackItems_tuple (items := #[u1, u2, u3]) (I.ok.hd hc) (IsTup.new s1.heap _) fun h' hx' => ?_)))
  have I3 := I2.kept (h' := h') (t' := s1.toks) fun b o e => hx' b o (Nat.ne_of_lt (Heap.lt_size e)) e
  show wpAny _ _ (assignInOrder [fun v => bindName X.env z v, fun v => bindName X.env y v, fun v => bindName X.env x v] [u3, u2, u1] >>= fun _ => pure Flow.next) _ _ _
  refine wpAny_bind (assignInOrder_cons (wpAny_bindName (store_ok I3 hN hk (.inl hz) ru (fun s2 I4 => ?_) (.inr hz))))
  refine assignInOrder_cons (wpAny_bindName (store_ok I4 hN hj (.inl hy) rw' (fun s3 I5 => ?_) (.inr hy)))
  refine assignInOrder_cons (wpAny_bindName (store_ok I5 hN hi (.inl hx) rv (fun s4 I6 => assignInOrder_nil (wpAny_pure ?_)) (.inr hx)))
  rw [List.set_comm _ _ (Ne.symm hjk), List.set_comm _ _ (Ne.symm hik), List.set_comm _ _ (Ne.symm hij)] at I6
  exact ⟨_, H1, I6, q1⟩
end
end L2
/-! What a proof takes of a program's text: its defs, methods, tables. -/
namespace L2
open PySem PySem.Spec PyProof.Rows
structure FnT (K : PySem.W.Frag) (mg : Str → Option Value) (x : Str) (st : Stmt) (ps : List Str) : Prop where
  ex : ∃ f fd, Fun K x x st f fd ∧ mg x = some (.ref f) ∧ Binds K fd ps []
structure MtT (K : PySem.W.Frag) (C : Addr) (m qual : Str) (st : Stmt) (ps : List Str) : Prop where
  ex : ∃ f fd, Fun K m qual st f fd ∧ Meth K C m f ∧ Binds K fd ps []
structure InT (K : PySem.W.Frag) (C : Addr) (qual : Str) (st : Stmt) (ps : List Str) : Prop where
  ex : ∃ f fd, Fun K "__init__" qual st f fd ∧ Mk K C f ∧ Binds K fd ps []
section
variable {P : Program} {w : World} {K : PySem.W.Frag} {mg : Str → Option Value} {base : Heap} {CX : CXT} {k : Nat} {x m qual : Str} {st : Stmt} {ps : List Str} {sp : Sp} {C : Addr}
theorem ctr_of (F : FnT K mg x st ps) (h : ∀ f fd, Fun K x x st f fd → FnOk P w K mg base CX k f fd ps sp) : Ctr P w K mg base CX k x ps sp := by
  obtain ⟨f, fd, F, e, b⟩ := F.ex
  exact ⟨⟨f, fd, h f fd F, e, F.kp, b⟩⟩
theorem ctrM_of (cl : Cls K C) (F : MtT K C m qual st ps) (h : ∀ f fd, Fun K m qual st f fd → FnOk P w K mg base CX k f fd ps sp) : CtrM P w K mg base CX k C m ps sp := by
  obtain ⟨f, fd, F, e, b⟩ := F.ex
  exact ⟨cl, ⟨f, fd, h f fd F, e, b⟩⟩
theorem ctrC_of (mgC : mg x = some (.ref C)) (F : InT K C qual st ps) (h : ∀ f fd, Fun K "__init__" qual st f fd → FnOk P w K mg base CX k f fd ps sp) : CtrC P w K mg base CX k x C ps sp := by
  obtain ⟨f, fd, F, e, b⟩ := F.ex
  exact ⟨mgC, ⟨f, fd, h f fd F, e, b⟩⟩
end
theorem kit_same {K : PySem.W.Frag} {t : Value} : PySem.W.kitOne K t t = some true := by
  unfold PySem.W.kitOne
  rw [if_pos (beq_self_eq_true t)]
theorem kit_int_bool {K : PySem.W.Frag} : PySem.W.kitOne K (.type "int") (.type "bool") = some false := by first | rfl | kernel_rfl
theorem b_isinstance : bootBuiltins ("isinstance" : Str) = some (.builtin "isinstance") := by decide +kernel
theorem b_sorted : bootBuiltins ("sorted" : Str) = some (.builtin "sorted") := by decide +kernel
theorem b_any : bootBuiltins ("any" : Str) = some (.builtin "any") := by decide +kernel
theorem b_all : bootBuiltins ("all" : Str) = some (.builtin "all") := by decide +kernel
theorem b_sum : bootBuiltins ("sum" : Str) = some (.builtin "sum") := by decide +kernel
theorem b_len : bootBuiltins ("len" : Str) = some (.builtin "len") := by decide +kernel
theorem b_int : bootBuiltins ("int" : Str) = some (.type "int") := by decide +kernel
theorem b_list : bootBuiltins ("list" : Str) = some (.type "list") := by decide +kernel
theorem b_tuple : bootBuiltins ("tuple" : Str) = some (.type "tuple") := by decide +kernel
theorem b_str : bootBuiltins ("str" : Str) = some (.type "str") := by decide +kernel
theorem b_bool : bootBuiltins ("bool" : Str) = some (.type "bool") := by decide +kernel
end L2
/-! Contracts of own exceptions. -/
namespace L2
open PySem PySem.Spec PyProof.Rows
structure BaseInit (K : PySem.W.Frag) (Y : Addr) : Prop where
  h1 : PySem.W.specialIn K (.ref Y) "__getattribute__" = some (some (.builtin "type.__getattribute__"))
  h2 : PySem.W.readsIn K Y (.type "type") = true
  h3 : PySem.W.findCls K (.ref Y) (.type "type") "__init__" = some (.val (.builtin "ValueError.__init__"))
structure XiT (K : PySem.W.Frag) (C : Addr) (qual : Str) (st : Stmt) (ps : List Str) : Prop where
  ex : ∃ f fd, Fun K "__init__" qual st f fd ∧ XMk K C f ∧ Binds K fd ps []
structure CtrX (P : Program) (w : World) (K : PySem.W.Frag) (mg : Str → Option Value) (base : Heap) (k : Nat) (x : Str) (C : Addr) (ps : List Str) (sp : Sp) : Prop where
  at_ : mg x = some (.ref C)
  ex : ∃ f fd, FnOk P w K mg base CX0 k f fd ps sp ∧ XMk K C f ∧ Binds K fd ps []
theorem ctrX_of {P : Program} {w : World} {K : PySem.W.Frag} {mg : Str → Option Value} {base : Heap} {k : Nat} {x qual : Str} {st : Stmt} {ps : List Str} {sp : Sp} {C : Addr} (mgC : mg x = some (.ref C)) (F : XiT K C qual st ps)
    (h : ∀ f fd, Fun K "__init__" qual st f fd → FnOk P w K mg base CX0 k f fd ps sp) : CtrX P w K mg base k x C ps sp := by
  obtain ⟨f, fd, F, e, b⟩ := F.ex
  exact ⟨mgC, ⟨f, fd, h f fd F, e, b⟩⟩
section
variable {X : Cx} {K : PySem.W.Frag} {k : Nat} {C : Addr} {ps : List Str} {sp : Sp} {E : XK} {x : Str} {p pos apos rpos : Pos} {e o : Expr} {es : List Expr} {ta tv : TE} {t : TA}
theorem ps_raiseC (c : CtrX X.prog X.w X.K X.mg X.base k x C ps sp) (hr : Room (k + 1) X.A) (hg : Gl X x) (hx : Raises X E)
    (ha : PA X (e :: es) t) (hdb : (x == ("__debug__" : Str)) = false := by decide) (he : starEach (e :: es) X.env = (false, eval e X.env) :: starEach es X.env := by rfl) (hpl : (backTo pos (starEach es X.env)).any (·.1) = false := by rfl) :
    PS X (.Raise (some (.Call (.Name x p) (e :: es) [] pos)) none rpos) (sRaise C sp E t) := by
  obtain ⟨f, fd, F, hm, hb⟩ := c.ex
  exact ps_raise hm F hr hg c.at_ hb hx ha hdb he hpl
theorem pe_baseInitK {Y : Addr} {pl : Sem Bool} (hK : X.K = K) (hg : Gl X x) (hm : X.mg x = some (.ref Y)) (b : BaseInit K Y) (ha : PA X (e :: es) t) (hdb : (x == ("__debug__" : Str)) = false := by decide)
    (hst : starEach (e :: es) X.env = (false, eval e X.env) :: starEach es X.env := by rfl) (hpl : (backTo pos (starEach es X.env)).any (·.1) = false := by rfl)
    (ht : eval (.Call (.Attribute (.Name x p) "__init__" apos) (e :: es) [] pos) X.env = (do
      let ov ← eval (.Name x p) X.env
      standAt apos.atName
      let (f, first) ← holding [ov] (getMethod ov "__init__" pl)
      callWith pos f first (backTo pos (starEach (e :: es) X.env)) (backToKw pos (keywordEach [] X.env))) := by rfl) :
    PE X (.Call (.Attribute (.Name x p) "__init__" apos) (e :: es) [] pos) (tBaseInit K t) := by
  subst hK
  exact pe_baseInit hg hm b.h1 b.h2 b.h3 ha hdb hst hpl ht
theorem ps_firstK {f : Str} {value : Expr} {pos' : Pos} (hK : X.K = K) (ha : PE X o ta) (hv : PE X value tv) (hs : swapsWith value (some (.Attribute o f pos')) pos.line X.env = pure false) : PS X (.Assign [.Attribute o f pos'] value pos) (sFirst K ta tv f) := by
  subst hK
  exact ps_first ha hv hs
end
end L2
/-! A yard as plain lists: what moves do, and where they are stuck. -/
namespace Yd
/-- tracks, what left, how many came -/
structure St where
  tr : List (List Int)
  left : List Int
  came : Nat
abbrev Mv := Bool × Nat
/-- one move: an in, or an out; none if it is stuck -/
def step (T : List Int) (bl : Bool) (s : St) (m : Mv) : Option St :=
  if m.1 = true then
    match T[s.came]? with
    | some x => some ⟨s.tr.set m.2 (s.tr.getD m.2 [] ++ [x]), s.left, s.came + 1⟩
    | none => none
  else
    if bl = true then
      match (s.tr.getD m.2 []).getLast? with
      | some x => some ⟨s.tr.set m.2 (s.tr.getD m.2 []).dropLast, s.left ++ [x], s.came⟩
      | none => none
    else
      match s.tr.getD m.2 [] with
      | x :: r => some ⟨s.tr.set m.2 r, s.left ++ [x], s.came⟩
      | [] => none
def init (many : Nat) : St := ⟨List.replicate many [], [], 0⟩
/-- all of the moves, none stuck -/
def steps (T : List Int) (bl : Bool) : St → List Mv → Option St
  | s, [] => some s
  | s, m :: r => (step T bl s m).bind fun s' => steps T bl s' r
/-- as far as they go: the state, the place of the first that is stuck (or how many there are) -/
def go (T : List Int) (bl : Bool) : St → List Mv → St × Nat
  | s, [] => (s, 0)
  | s, m :: r => match step T bl s m with
    | none => (s, 0)
    | some s' => ((go T bl s' r).1, (go T bl s' r).2 + 1)
theorem go_le (T : List Int) (bl : Bool) : ∀ (s : St) (ms : List Mv), (go T bl s ms).2 ≤ ms.length
  | s, [] => Nat.le_refl _
  | s, m :: r => by
    unfold go
    cases e : step T bl s m with
    | none => exact Nat.zero_le _
    | some s' => exact Nat.succ_le_succ (go_le T bl s' r)
theorem steps_snoc (T : List Int) (bl : Bool) : ∀ (s : St) (ms : List Mv) (m : Mv), steps T bl s (ms ++ [m]) = (steps T bl s ms).bind fun s' => step T bl s' m
  | s, [], m => by
    show (step T bl s m).bind (fun s' => some s') = step T bl s m
    cases step T bl s m <;> rfl
  | s, x :: r, m => by
    show (step T bl s x).bind (fun s' => steps T bl s' (r ++ [m])) = ((step T bl s x).bind fun s' => steps T bl s' r).bind fun s' => step T bl s' m
    cases e : step T bl s x with
    | none => rfl
    | some s' => exact steps_snoc T bl s' r m
/-- the state behind i moves that go, and the next one stuck: that is where it stops -/
theorem go_stuck {T : List Int} {bl : Bool} : ∀ {s s' : St} {ms : List Mv} {i : Nat} {m : Mv}, steps T bl s (ms.take i) = some s' → ms[i]? = some m → step T bl s' m = none → go T bl s ms = (s', i)
  | s, s', [], i, m, _, h, _ => by simp at h
  | s, s', x :: r, 0, m, h1, h2, h3 => by
    have e1 : s = s' := by simpa [steps] using h1
    have e2 : x = m := by simpa using h2
    subst e1 e2
    unfold go
    rw [h3]
  | s, s', x :: r, i + 1, m, h1, h2, h3 => by
    have h1' : (step T bl s x).bind (fun s'' => steps T bl s'' (r.take i)) = some s' := h1
    cases e : step T bl s x with
    | none => rw [e] at h1'; cases h1'
    | some s1 =>
      rw [e] at h1'
      have := go_stuck (s := s1) (ms := r) (i := i) (m := m) h1' (by simpa using h2) h3
      unfold go
      rw [e]
      simp only [this]
theorem go_all {T : List Int} {bl : Bool} : ∀ {s s' : St} {ms : List Mv}, steps T bl s ms = some s' → go T bl s ms = (s', ms.length)
  | s, s', [], h => by
    have e : s = s' := by simpa [steps] using h
    subst e
    rfl
  | s, s', x :: r, h => by
    have h1' : (step T bl s x).bind (fun s'' => steps T bl s'' r) = some s' := h
    cases e : step T bl s x with
    | none => rw [e] at h1'; cases h1'
    | some s1 =>
      rw [e] at h1'
      have := go_all (s := s1) (ms := r) h1'
      unfold go
      rw [e]
      simp only [this]
      rfl
/-- the moves ahead of the stuck one go, and lead to the same state -/
theorem go_take (T : List Int) (bl : Bool) : ∀ (s : St) (ms : List Mv), steps T bl s (ms.take (go T bl s ms).2) = some (go T bl s ms).1
  | s, [] => rfl
  | s, x :: r => by
    unfold go
    cases e : step T bl s x with
    | none => rfl
    | some s1 =>
      show (step T bl s x).bind (fun s'' => steps T bl s'' (r.take (go T bl s1 r).2)) = _
      rw [e]
      exact go_take T bl s1 r
theorem step_len {T : List Int} {bl : Bool} {s s' : St} {m : Mv} (h : step T bl s m = some s') : s'.tr.length = s.tr.length := by
  unfold step at h
  split at h
  · split at h
    · cases h; simp
    · cases h
  · split at h
    · split at h
      · cases h; simp
      · cases h
    · split at h
      · cases h; simp
      · cases h
theorem steps_len {T : List Int} {bl : Bool} : ∀ {s s' : St} {ms : List Mv}, steps T bl s ms = some s' → s'.tr.length = s.tr.length
  | s, s', [], h => by
    have e : s = s' := by simpa [steps] using h
    rw [e]
  | s, s', x :: r, h => by
    have h1' : (step T bl s x).bind (fun s'' => steps T bl s'' r) = some s' := h
    cases e : step T bl s x with
    | none => rw [e] at h1'; cases h1'
    | some s1 =>
      rw [e] at h1'
      rw [steps_len h1', step_len e]
theorem step_came {T : List Int} {bl : Bool} {s s' : St} {m : Mv} (h : step T bl s m = some s') (hc : s.came ≤ T.length) : s'.came ≤ T.length := by
  unfold step at h
  split at h
  · split at h
    · rename_i x e
      cases h
      have := (List.getElem?_eq_some_iff.mp e).1
      show s.came + 1 ≤ T.length
      omega
    · cases h
  · split at h
    · split at h
      · cases h; exact hc
      · cases h
    · split at h
      · cases h; exact hc
      · cases h
theorem steps_came {T : List Int} {bl : Bool} : ∀ {s s' : St} {ms : List Mv}, steps T bl s ms = some s' → s.came ≤ T.length → s'.came ≤ T.length
  | s, s', [], h, hc => by
    have e : s = s' := by simpa [steps] using h
    rw [← e]
    exact hc
  | s, s', x :: r, h, hc => by
    have h1' : (step T bl s x).bind (fun s'' => steps T bl s'' r) = some s' := h
    cases e : step T bl s x with
    | none => rw [e] at h1'; cases h1'
    | some s1 =>
      rw [e] at h1'
      exact steps_came h1' (step_came e hc)
theorem step_size {T : List Int} {bl : Bool} {s s' : St} {m : Mv} (h : step T bl s m = some s') (hz : ∀ (j : Nat) c, s.tr[j]? = some c → c.length ≤ s.came) : ∀ (j : Nat) c, s'.tr[j]? = some c → c.length ≤ s'.came := by
  have gd : (s.tr.getD m.2 []).length ≤ s.came := by
    rw [List.getD_eq_getElem?_getD]
    cases e : s.tr[m.2]? with
    | none => exact Nat.zero_le _
    | some c => exact hz _ c e
  have key : ∀ (c' : List Int) (n : Nat), c'.length ≤ n → s.came ≤ n → ∀ (j : Nat) c, (s.tr.set m.2 c')[j]? = some c → c.length ≤ n := fun c' n h1 h2 j c e => by
    by_cases ej : m.2 = j
    · subst ej
      rw [List.getElem?_set] at e
      simp only [if_true] at e
      split at e
      · cases e; exact h1
      · cases e
    · rw [List.getElem?_set_ne ej] at e
      exact Nat.le_trans (hz j c e) h2
  unfold step at h
  split at h
  · split at h
    · cases h
      exact key _ _ (by rw [List.length_append]; exact Nat.add_le_add_right gd 1) (Nat.le_succ _)
    · cases h
  · split at h
    · split at h
      · cases h
        exact key _ _ (Nat.le_trans (by rw [List.length_dropLast]; exact Nat.sub_le _ _) gd) (Nat.le_refl _)
      · cases h
    · split at h
      · rename_i x r e
        cases h
        rw [e] at gd
        exact key _ _ (Nat.le_trans (Nat.le_succ _) gd) (Nat.le_refl _)
      · cases h
theorem steps_size_of {T : List Int} {bl : Bool} : ∀ {s s' : St} {ms : List Mv}, steps T bl s ms = some s' → (∀ (j : Nat) c, s.tr[j]? = some c → c.length ≤ s.came) → ∀ (j : Nat) c, s'.tr[j]? = some c → c.length ≤ s'.came
  | s, s', [], h, hz => by
    have e : s = s' := by simpa [steps] using h
    rw [← e]
    exact hz
  | s, s', x :: r, h, hz => by
    have h1' : (step T bl s x).bind (fun s'' => steps T bl s'' r) = some s' := h
    cases e : step T bl s x with
    | none => rw [e] at h1'; cases h1'
    | some s1 =>
      rw [e] at h1'
      exact steps_size_of h1' (step_size e hz)
theorem steps_size {T : List Int} {bl : Bool} {n : Nat} {st : St} {ms : List Mv} (h : steps T bl (init n) ms = some st) {j : Nat} {c : List Int} (e : st.tr[j]? = some c) : c.length ≤ st.came :=
  steps_size_of h (fun j c e => by
    have e' : (List.replicate n ([] : List Int))[j]? = some c := e
    rw [List.getElem?_replicate] at e'
    split at e'
    · cases e'; exact Nat.le_refl _
    · cases e') j c e
theorem step_left {T : List Int} {bl : Bool} {s s' : St} {m : Mv} (h : step T bl s m = some s') : s'.left.length ≤ s.left.length + 1 := by
  unfold step at h
  split at h
  · split at h
    · cases h; exact Nat.le_succ _
    · cases h
  · split at h
    · split at h
      · cases h; rw [List.length_append]; exact Nat.le_refl _
      · cases h
    · split at h
      · cases h; rw [List.length_append]; exact Nat.le_refl _
      · cases h
theorem steps_left_of {T : List Int} {bl : Bool} : ∀ {s s' : St} {ms : List Mv}, steps T bl s ms = some s' → s'.left.length ≤ s.left.length + ms.length
  | s, s', [], h => by
    have e : s = s' := by simpa [steps] using h
    rw [← e]
    exact Nat.le_refl _
  | s, s', x :: r, h => by
    have h1' : (step T bl s x).bind (fun s'' => steps T bl s'' r) = some s' := h
    cases e : step T bl s x with
    | none => rw [e] at h1'; cases h1'
    | some s1 =>
      rw [e] at h1'
      have h1 := steps_left_of h1'
      have h2 := step_left e
      rw [List.length_cons]
      omega
theorem steps_left {T : List Int} {bl : Bool} {n : Nat} {st : St} {ms : List Mv} (h : steps T bl (init n) ms = some st) : st.left.length ≤ ms.length := by
  have := steps_left_of h
  have e : (init n).left.length = 0 := rfl
  omega
end Yd
/-! A train put together cell by cell: places by insertion, wagons that differ. -/
namespace Ins
theorem perm_ins {ps : List Nat} {k a : Nat} (h : ps.Perm (List.range k)) : (ps.take a ++ [k] ++ ps.drop a).Perm (List.range (k + 1)) := by
  rw [List.range_succ]
  have e : (ps.take a ++ [k] ++ ps.drop a).Perm (ps.take a ++ ps.drop a ++ [k]) := by
    rw [List.append_assoc, List.append_assoc]
    exact List.Perm.append_left _ List.perm_append_comm
  rw [List.take_append_drop] at e
  exact e.trans (List.Perm.append_right _ h)
def wag (sc : List Int) (far : Int) (j : Nat) : Int := (7 * (j : Int) + (sc.getD j 0) / 3 % 7 - 90) * far
theorem wag_lt (sc : List Int) {far : Int} (hf : 0 < far) {i j : Nat} (h : i < j) : wag sc far i < wag sc far j := by
  unfold wag
  refine Int.mul_lt_mul_of_pos_right ?_ hf
  have a1 := Int.emod_nonneg ((sc.getD i 0) / 3) (show (7 : Int) ≠ 0 by decide)
  have a2 := Int.emod_lt_of_pos ((sc.getD i 0) / 3) (show (0 : Int) < 7 by decide)
  have b1 := Int.emod_nonneg ((sc.getD j 0) / 3) (show (7 : Int) ≠ 0 by decide)
  omega
theorem wag_inj (sc : List Int) {far : Int} (hf : 0 < far) {i j : Nat} (h : wag sc far i = wag sc far j) : i = j := by
  rcases Nat.lt_trichotomy i j with z | z | z
  · have := wag_lt sc hf z; omega
  · exact z
  · have := wag_lt sc hf z; omega
theorem nodup_map {ps : List Nat} {f : Nat → Int} (h : ps.Nodup) (hf : ∀ i j, f i = f j → i = j) : (ps.map f).Nodup := by
  induction ps with
  | nil => exact List.nodup_nil
  | cons a r ih =>
    obtain ⟨h1, h2⟩ := List.nodup_cons.mp h
    rw [List.map_cons]
    refine List.nodup_cons.mpr ⟨fun m => ?_, ih h2⟩
    obtain ⟨b, hb, e⟩ := List.mem_map.mp m
    exact h1 (hf _ _ e ▸ hb)
theorem train_nodup (sc : List Int) {far : Int} (hf : 0 < far) {n : Nat} {ps : List Nat} (h : ps.Perm (List.range n)) : (ps.map (wag sc far)).Nodup :=
  nodup_map (h.nodup_iff.mpr List.nodup_range) fun _ _ e => wag_inj sc hf e
theorem perm_lt {n : Nat} {ps : List Nat} (h : ps.Perm (List.range n)) {x : Nat} (hx : x ∈ ps) : x < n := List.mem_range.mp (h.mem_iff.mp hx)
end Ins
/-! Small words that no row is needed for: heaps, lists, moves as pairs. -/
namespace My
open PySem L2
theorem HP {M : Model} {A : Around} {env : Env} : PassesOwn M A env (fun _ _ => False) := PassesOwn.never
def deed (b : Bool) : Str := if b then "in" else "out"
theorem join_one (b : Bool) : Txt.join ("" : Str) [deed b] = deed b := by cases b <;> decide +kernel
theorem deed_in (b : Bool) : inV (.str (deed b)) [.str "in", .str "out"] = true := by cases b <;> decide +kernel
theorem deed_len (b : Bool) : (deed b).length ≤ 3 := by cases b <;> decide +kernel
/-- a list of moves at a: pairs of a deed and a track -/
def MvT (H : Hp) (r : Addr) (m : Yd.Mv) : Prop := H r = some (.tup [.str (deed m.1), .int (m.2 : Int)])
def MovesAt (H : Hp) (a : Addr) (ms : List Yd.Mv) : Prop := ∃ rs : List Addr, H a = some (.lst (rs.map V.ref)) ∧ Paired (MvT H) rs ms
theorem Paired.get {α β : Type} {F : α → β → Prop} : ∀ {l : List α} {m : List β} {i : Nat} {x : α}, Paired F l m → l[i]? = some x → ∃ y, m[i]? = some y ∧ F x y
  | _, _, _, _, .nil, e => by simp at e
  | _, _, 0, _, .cons r _, e => by simp at e; subst e; exact ⟨_, rfl, r⟩
  | _, _, i + 1, x, .cons _ t, e => by
    obtain ⟨u, h1, h2⟩ := Paired.get (i := i) (x := x) t (by simpa using e)
    exact ⟨u, by simpa using h1, h2⟩
theorem Paired.imp {α β : Type} {F G : α → β → Prop} (f : ∀ a b, F a b → G a b) : ∀ {l : List α} {m : List β}, Paired F l m → Paired G l m
  | _, _, .nil => .nil
  | _, _, .cons r t => .cons (f _ _ r) (Paired.imp f t)
theorem Paired.snoc' {α β : Type} {F : α → β → Prop} {a : α} {b : β} : ∀ {l : List α} {m : List β}, Paired F l m → F a b → Paired F (l ++ [a]) (m ++ [b])
  | _, _, .nil, h => .cons h .nil
  | _, _, .cons h1 t, h => .cons h1 (Paired.snoc' t h)
theorem MvT.same {H H' : Hp} (s : Same H H') {r : Addr} {m : Yd.Mv} (h : MvT H r m) : MvT H' r m := s _ _ h
theorem MovesAt.same {H H' : Hp} (s : Same H H') {a : Addr} {ms : List Yd.Mv} (h : MovesAt H a ms) : MovesAt H' a ms :=
  let ⟨rs, e, p⟩ := h; ⟨rs, s _ _ e, Paired.imp (fun _ _ z => z.same s) p⟩
theorem Same.updN {H H' : Hp} {a : Addr} {o : HO} (s : Same H H') (h : H a = none) : Same H (upd H' a o) := fun b u e => by
  rw [upd_ne (ne_of_none e h)]
  exact s b u e
theorem iteDT {c A B : Prop} [Decidable c] (hc : c) (h : A) : if decide c = true then A else B := by rw [if_pos (decide_eq_true hc)]; exact h
theorem iteDF {c A B : Prop} [Decidable c] (hc : ¬ c) (h : B) : if decide c = true then A else B := by rw [if_neg (by rw [decide_eq_false hc]; exact Bool.false_ne_true)]; exact h
theorem steps_next {T : List Int} {b : Bool} {s s' s'' : Yd.St} {ms : List Yd.Mv} {i : Nat} {m : Yd.Mv} (h : Yd.steps T b s (ms.take i) = some s') (hm : ms[i]? = some m) (h2 : Yd.step T b s' m = some s'') : Yd.steps T b s (ms.take (i + 1)) = some s'' := by
  rw [take_snoc hm, Yd.steps_snoc, h]
  exact h2
end My
/-! Data read off heaps: lists of ints, lists of lists, moves; a few small tests. -/
namespace L2
open PySem PySem.Spec PyProof.Rows
open PySem.W (Dat)
mutual
theorem DV.same {K : PySem.W.Frag} {H H' : Hp} (e : Same H H') : ∀ {x : V} {d : Dat}, DV K H x d → DV K H' x d
  | _, _, .non => .non
  | _, _, .int i => .int i
  | _, _, .str x => .str x
  | _, _, .lst q h => .lst (e.seq q) (DVs.same e h)
  | _, _, .tup q h => .tup (e.tupq q) (DVs.same e h)
theorem DVs.same {K : PySem.W.Frag} {H H' : Hp} (e : Same H H') : ∀ {xs : List V} {ds : List Dat}, DVs K H xs ds → DVs K H' xs ds
  | _, _, .nil => .nil
  | _, _, .cons a b => .cons (DV.same e a) (DVs.same e b)
end
def dI (xs : List Int) : Dat := .list (xs.map .int)
theorem DVs.ints {K : PySem.W.Frag} {H : Hp} : ∀ (xs : List Int), DVs K H (xs.map V.int) (xs.map .int)
  | [] => .nil
  | x :: r => .cons (.int x) (DVs.ints r)
theorem DV.ints {K : PySem.W.Frag} {H : Hp} {a : Addr} {xs : List Int} (h : SqL K H a (xs.map V.int)) : DV K H (.ref a) (dI xs) := .lst h (DVs.ints xs)
theorem ok_ints (n : Nat) (xs : List Int) : PySem.W.kqdOk (n + 1) (dI xs) = true := by
  unfold dI
  rw [PySem.W.kqdOk]
  rw [List.all_eq_true]
  intro d hd
  obtain ⟨x, _, rfl⟩ := List.mem_map.mp hd
  unfold PySem.W.kqdOk
  rfl
theorem ok_list {n : Nat} {ds : List Dat} (h : ∀ d ∈ ds, PySem.W.kqdOk n d = true) : PySem.W.kqdOk (n + 1) (.list ds) = true := by
  rw [PySem.W.kqdOk, List.all_eq_true]; exact h
theorem ok_tuple {n : Nat} {ds : List Dat} (h : ∀ d ∈ ds, PySem.W.kqdOk n d = true) : PySem.W.kqdOk (n + 1) (.tuple ds) = true := by
  rw [PySem.W.kqdOk, List.all_eq_true]; exact h
theorem DVs.paired {K : PySem.W.Frag} {H : Hp} {α : Type} {f : α → Dat} : ∀ {ls : List Addr} {cs : List α}, Paired (fun (l : Addr) (c : α) => DV K H (.ref l) (f c)) ls cs → DVs K H (ls.map V.ref) (cs.map f)
  | _, _, .nil => .nil
  | _, _, .cons h t => .cons h (DVs.paired t)
theorem dI_inj {xs ys : List Int} (h : dI xs = dI ys) : xs = ys := by
  have h1 : xs.map Dat.int = ys.map Dat.int := Dat.list.inj h
  exact List.map_inj_right (fun a b e => Dat.int.inj e) |>.mp h1
theorem ixN_nat {n t : Nat} (h : t < n) : ixN n (t : Int) = some t := by
  unfold ixN
  rw [if_pos (by omega), if_pos (by omega)]; simp
end L2
namespace My
open PySem L2
open PySem.W (Dat)
theorem iteNSc {c A B : Prop} {inst : Decidable c} (hc : c) (h : B) : if (!decide c) = true then A else B := iteNS hc h
theorem iteNT {c A B : Prop} {inst : Decidable c} (hc : ¬ c) (h : A) : if (!decide c) = true then A else B := by
  rw [decide_eq_false hc]
  exact iteT h
theorem iteNB {c A B : Prop} {inst : Decidable c} (h1 : ¬ c → A) (h2 : c → B) : if (!decide c) = true then A else B := by
  by_cases h : c
  · exact iteNS h (h2 h)
  · exact iteNT h (h1 h)
theorem iteDB {c A B : Prop} {inst : Decidable c} (h1 : c → A) (h2 : ¬ c → B) : if decide c = true then A else B := by
  by_cases h : c
  · exact iteDT h (h1 h)
  · exact iteDF h (h2 h)
theorem Paired.of_get {α β : Type} {F : α → β → Prop} : ∀ {l : List α} {m : List β}, l.length = m.length → (∀ (i : Nat) x y, l[i]? = some x → m[i]? = some y → F x y) → Paired F l m
  | [], [], _, _ => .nil
  | [], _ :: _, h, _ => by simp at h
  | _ :: _, [], h, _ => by simp at h
  | a :: l, b :: m, h, k => .cons (k 0 a b rfl rfl) (Paired.of_get (by simpa using h) fun i x y e1 e2 => k (i + 1) x y (by simpa using e1) (by simpa using e2))
theorem Paired.append {α β : Type} {F : α → β → Prop} : ∀ {l l' : List α} {m m' : List β}, Paired F l m → Paired F l' m' → Paired F (l ++ l') (m ++ m')
  | _, _, _, _, .nil, h => h
  | _, _, _, _, .cons a b, h => .cons a (Paired.append b h)
theorem Paired.take {α β : Type} {F : α → β → Prop} : ∀ {l : List α} {m : List β} (n : Nat), Paired F l m → Paired F (l.take n) (m.take n)
  | _, _, 0, _ => .nil
  | _, _, _ + 1, .nil => .nil
  | _, _, n + 1, .cons a b => .cons a (Paired.take n b)
theorem Paired.rep {α β : Type} {F : α → β → Prop} {a : α} {b : β} (h : F a b) : ∀ (n : Nat), Paired F (List.replicate n a) (List.replicate n b)
  | 0 => .nil
  | n + 1 => .cons h (Paired.rep h n)
theorem flat_one {α : Type} (a : α) : ∀ n : Nat, (List.replicate n [a]).flatten = List.replicate n a
  | 0 => rfl
  | n + 1 => by rw [List.replicate_succ, List.flatten_cons, flat_one a n]; rfl
def dM (m : Yd.Mv) : Dat := .tuple [.str (deed m.1), .int (m.2 : Int)]
theorem MovesAt.dv {K : PySem.W.Frag} {H : Hp} {a : Addr} {ms : List Yd.Mv} (h : MovesAt H a ms) : DV K H (.ref a) (.list (ms.map dM)) := by
  obtain ⟨rs, h1, h2⟩ := h
  exact .lst (SqL.of h1) (DVs.paired (Paired.imp (fun r m z => .tup (SqT.of z) (.cons (.str _) (.cons (.int _) .nil))) h2))
theorem ok_deed (b : Bool) : PyData.strOk (deed b) = true := by cases b <;> decide +kernel
theorem ok_moves (n : Nat) (ms : List Yd.Mv) : PySem.W.kqdOk (n + 2) (.list (ms.map dM)) = true := by
  refine ok_list fun d hd => ?_
  obtain ⟨m, _, rfl⟩ := List.mem_map.mp hd
  refine ok_tuple fun d hd => ?_
  simp only [List.mem_cons, List.not_mem_nil, or_false] at hd
  rcases hd with rfl | rfl
  · unfold PySem.W.kqdOk
    exact ok_deed _
  · unfold PySem.W.kqdOk
    rfl
/-- a yard's state as a datum -/
def dY (T : List Int) (st : Yd.St) : Dat := .tuple [dI st.left, .list (st.tr.map dI), dI (T.drop st.came)]
theorem ok_dY (n : Nat) (T : List Int) (st : Yd.St) : PySem.W.kqdOk (n + 3) (dY T st) = true := by
  refine ok_tuple fun d hd => ?_
  simp only [List.mem_cons, List.not_mem_nil, or_false] at hd
  rcases hd with rfl | rfl | rfl
  · exact ok_ints _ _
  · refine ok_list fun d hd => ?_
    obtain ⟨c, _, rfl⟩ := List.mem_map.mp hd
    exact ok_ints _ _
  · exact ok_ints _ _
theorem deed_true : V.str (deed true) = V.str (Str.ofString "in") := rfl
theorem deed_ne : ¬ V.str (deed false) = V.str (Str.ofString "in") := by decide +kernel
theorem deed_false : V.str (deed false) = V.str (Str.ofString "out") := rfl
theorem deed_ne' : ¬ V.str (deed true) = V.str (Str.ofString "out") := by decide +kernel
/-! ### tracks that are plain lists -/
structure Yds (H0 H : Hp) (kA : Addr) (ls : List Addr) (tr : List (List Int)) : Prop where
  lst : H kA = some (.lst (ls.map V.ref))
  len : ls.length = tr.length
  each : ∀ (j : Nat) l, ls[j]? = some l → ∃ c, tr[j]? = some c ∧ H l = some (.lst (c.map V.int)) ∧ H0 l = none ∧ l ≠ kA
  inj : ∀ (i j : Nat) l, ls[i]? = some l → ls[j]? = some l → i = j
variable {H0 H H' : Hp} {kA : Addr} {ls : List Addr} {tr : List (List Int)}
theorem Yds.same (h : Yds H0 H kA ls tr) (s : Same H H') : Yds H0 H' kA ls tr :=
  ⟨s _ _ h.lst, h.len, fun j l e => let ⟨c, a, b, r⟩ := h.each j l e; ⟨c, a, s _ _ b, r⟩, h.inj⟩
theorem Yds.set (h : Yds H0 H kA ls tr) {j : Nat} {l : Addr} (e : ls[j]? = some l) (c' : List Int) : Yds H0 (upd H l (.lst (c'.map V.int))) kA ls (tr.set j c') := by
  obtain ⟨c, e1, e2, e3, e4⟩ := h.each j l e
  refine ⟨by rw [upd_ne (Ne.symm e4)]; exact h.lst, by rw [List.length_set]; exact h.len, fun i l' e' => ?_, h.inj⟩
  obtain ⟨c1, a1, a2, a3, a4⟩ := h.each i l' e'
  by_cases hij : i = j
  · subst hij
    rw [e] at e'
    cases e'
    exact ⟨c', by rw [List.getElem?_set_self (List.getElem?_eq_some_iff.mp e1).1], upd_same, a3, a4⟩
  · have hl : l' ≠ l := fun z => hij (h.inj i j l (z ▸ e') e)
    exact ⟨c1, by rw [List.getElem?_set_ne (Ne.symm hij)]; exact a1, by rw [upd_ne hl]; exact a2, a3, a4⟩
theorem Yds.other (h : Yds H0 H kA ls tr) {a : Addr} {o : HO} (h1 : kA ≠ a) (h2 : ∀ (j : Nat) l, ls[j]? = some l → l ≠ a) : Yds H0 (upd H a o) kA ls tr :=
  ⟨by rw [upd_ne h1]; exact h.lst, h.len, fun j l e => let ⟨c, a1, b, r⟩ := h.each j l e; ⟨c, a1, by rw [upd_ne (h2 j l e)]; exact b, r⟩, h.inj⟩
theorem Yds.push (h : Yds H0 H kA ls tr) (s : Same H0 H) {l : Addr} (hl : H l = none) : Yds H0 (upd (upd H l (.lst [])) kA (.lst (ls.map V.ref ++ [.ref l]))) kA (ls ++ [l]) (tr ++ [[]]) := by
  have ekl : kA ≠ l := ne_of_none h.lst hl
  have old : ∀ {j : Nat} {l' : Addr}, (ls ++ [l])[j]? = some l' → (ls[j]? = some l' ∧ j < ls.length) ∨ (l' = l ∧ j = ls.length) := fun {j l'} e => by
    rcases Nat.lt_or_ge j ls.length with hj | hj
    · rw [List.getElem?_append_left hj] at e
      exact .inl ⟨e, hj⟩
    · rw [List.getElem?_append_right hj] at e
      cases q : j - ls.length with
      | zero => rw [q] at e; exact .inr ⟨(Option.some.inj e).symm, by omega⟩
      | succ m => rw [q] at e; simp at e
  refine ⟨by rw [upd_same, List.map_append]; rfl, by simp [h.len], fun j l' e => ?_, fun i j l' e1 e2 => ?_⟩
  · rcases old e with ⟨e, hj⟩ | ⟨rfl, rfl⟩
    · obtain ⟨c, a1, a2, a3, a4⟩ := h.each j l' e
      exact ⟨c, by rw [List.getElem?_append_left (by rw [← h.len]; exact hj)]; exact a1, by rw [upd_ne a4]; exact upd_get a2 hl, a3, a4⟩
    · exact ⟨[], by rw [List.getElem?_append_right (by rw [h.len]; exact Nat.le_refl _), h.len, Nat.sub_self]; rfl, by rw [upd_ne ekl.symm, upd_same]; rfl, s.free hl, ekl.symm⟩
  · rcases old e1 with ⟨f1, h1⟩ | ⟨f1, h1⟩ <;> rcases old e2 with ⟨f2, h2⟩ | ⟨f2, h2⟩
    · exact h.inj i j l' f1 f2
    · obtain ⟨c, a1, a2, _⟩ := h.each i l' f1
      rw [f2, hl] at a2; cases a2
    · obtain ⟨c, a1, a2, _⟩ := h.each j l' f2
      rw [f1, hl] at a2; cases a2
    · omega
theorem Yds.dv {K : PySem.W.Frag} (h : Yds H0 H kA ls tr) : DV K H (.ref kA) (.list (tr.map dI)) :=
  .lst (SqL.of h.lst) (DVs.paired (Paired.of_get h.len fun i l c e1 e2 => by
    obtain ⟨c', a1, a2, _⟩ := h.each i l e1
    rw [e2] at a1
    cases a1
    exact .ints (SqL.of a2)))
end My
namespace L2
open PySem PySem.Spec PyProof.Rows
theorem turns_tup {K : PySem.W.Frag} {a p : Addr} {xs : List V} {g : TG} {tst : TT} {te : TE} {Q : Hp → Prop} {σ : St} {H : Hp} (Pv : Nat → St → Hp → Prop) (h0 : Pv 0 σ H) (hl : ∀ i σ H, i ≤ xs.length → Pv i σ H → SqT K H a xs)
    (hs : ∀ i x σ H, xs[i]? = some x → Pv i σ H → g x σ H fun σ2 H2 => tst σ2 H2 fun c H3 => if c = true then te σ2 H3 fun y H4 => ∃ ys, H4 p = some (.lst ys) ∧ ys.length < sizeLine ∧ Pv (i + 1) σ2 (upd H4 p (.lst (ys ++ [y]))) else Pv (i + 1) σ2 H3)
    (hd : ∀ σ H, Pv xs.length σ H → Q H) : Turns (Itt K a) g tst te p Q σ H := by
  refine ⟨fun i m σ H => m = xs.length - i ∧ i ≤ xs.length ∧ Pv i σ H, ⟨xs.length, by simp, Nat.zero_le _, h0⟩, ?_⟩
  rintro i m σ H ⟨rfl, hi, p⟩
  have q := hl i σ H hi p
  by_cases hlt : i < xs.length
  · refine .inr ⟨⟨xs, xs[i], q, by simp [hlt]⟩, Pv (i + 1), fun σ' H' p' => ⟨xs.length - (i + 1), by omega, rfl, hlt, p'⟩, fun x H' y => ?_⟩
    obtain ⟨e, y⟩ := y
    subst e
    exact hs i x σ _ (y xs q) p
  · have e : i = xs.length := by omega
    subst e
    exact .inl ⟨⟨xs, q, Nat.le_refl _⟩, hd σ H p⟩
end L2
namespace My
open PySem L2
theorem deed_at (c : Int) : ∃ b, atI [V.str "in", V.str "in", V.str "out"] (c % 3) = some (.str (deed b)) := by
  have h1 := Int.emod_nonneg c (show (3 : Int) ≠ 0 by decide)
  have h2 := Int.emod_lt_of_pos c (show (0 : Int) < 3 by decide)
  rcases (show c % 3 = 0 ∨ c % 3 = 1 ∨ c % 3 = 2 by omega) with e | e | e <;> rw [e]
  · exact ⟨true, rfl⟩
  · exact ⟨true, rfl⟩
  · exact ⟨false, rfl⟩
theorem no_stuck {T : List Int} {b : Bool} {s st st' : Yd.St} {ms : List Yd.Mv} {i : Nat} {m : Yd.Mv} (h : Yd.steps T b s ms = some st) (h1 : Yd.steps T b s (ms.take i) = some st') (h2 : ms[i]? = some m) : Yd.step T b st' m ≠ none := fun h3 => by
  have a := Yd.go_stuck h1 h2 h3
  have b := Yd.go_all h
  rw [a] at b
  have e : i = ms.length := congrArg Prod.snd b
  have := (List.getElem?_eq_some_iff.mp h2).1
  omega
theorem both {R : Hp → Prop} {G : Prop} {HB : Hp} (body : (∀ HC, Same HB HC → R HC) → G) (rest : ∀ HC, Same HB HC → R HC) : G := body rest
end My
namespace L2
open PySem PySem.Spec PyProof.Rows

/-! ### lists of pairs as tables -/
section
variable {κ : Type} [DecidableEq κ]
def valV (kvs : List (κ × V)) (k : κ) : Option V := (kvs.find? fun kv => decide (kv.1 = k)).map (·.2)
/-- in its place, or at the end -/
def putK (kvs : List (κ × V)) (k : κ) (v : V) : List (κ × V) :=
  if (kvs.any fun kv => decide (kv.1 = k)) = true then kvs.map (fun kv => if kv.1 = k then (kv.1, v) else kv) else kvs ++ [(k, v)]

theorem valV_pos {p : κ × V} {r : List (κ × V)} {k : κ} (e : p.1 = k) : valV (p :: r) k = some p.2 := by simp [valV, List.find?_cons, e]
theorem valV_neg {p : κ × V} {r : List (κ × V)} {k : κ} (e : ¬ p.1 = k) : valV (p :: r) k = valV r k := by simp [valV, List.find?_cons, e]
theorem valV_any (k : κ) : ∀ kvs : List (κ × V), (kvs.any fun kv => decide (kv.1 = k)) = (valV kvs k).isSome
  | [] => rfl
  | p :: r => by
    rw [List.any_cons]
    by_cases e : p.1 = k
    · simp only [valV_pos e, decide_eq_true e, Bool.true_or, Option.isSome_some]
    · rw [valV_neg e, decide_eq_false e, Bool.false_or]; exact valV_any k r
theorem valV_map (k j : κ) (y : V) : ∀ kvs : List (κ × V), valV (kvs.map fun kv => if kv.1 = k then (kv.1, y) else kv) j = (valV kvs j).map fun x => if j = k then y else x
  | [] => rfl
  | p :: r => by
    have ih := valV_map k j y r
    rw [List.map_cons]
    by_cases h : p.1 = k
    · rw [if_pos h]
      by_cases e : p.1 = j
      · rw [valV_pos (p := (p.1, y)) e, valV_pos e, Option.map_some, if_pos (e.symm.trans h)]
      · rw [valV_neg (p := (p.1, y)) e, valV_neg e, ih]
    · rw [if_neg h]
      by_cases e : p.1 = j
      · rw [valV_pos (p := p) e, valV_pos e, Option.map_some, if_neg (fun z => h (e.trans z))]
      · rw [valV_neg (p := p) e, valV_neg e, ih]
theorem valV_snoc (k j : κ) (y : V) : ∀ kvs : List (κ × V), valV kvs k = none → valV (kvs ++ [(k, y)]) j = if j = k then some y else valV kvs j
  | [], _ => by
    by_cases e : k = j
    · rw [if_pos e.symm]; exact valV_pos (p := (k, y)) e
    · rw [if_neg (fun z => e z.symm)]; exact valV_neg (p := (k, y)) e
  | p :: r, hn => by
    rw [List.cons_append]
    have hk : ¬ p.1 = k := fun z => by rw [valV_pos z] at hn; cases hn
    rw [valV_neg hk] at hn
    have ih := valV_snoc k j y r hn
    by_cases e : p.1 = j
    · rw [valV_pos e, valV_pos e, if_neg (fun z => hk (e.trans z))]
    · rw [valV_neg e, valV_neg e, ih]
theorem valV_put (kvs : List (κ × V)) (k j : κ) (y : V) : valV (putK kvs k y) j = if j = k then some y else valV kvs j := by
  unfold putK
  by_cases a : (kvs.any fun kv => decide (kv.1 = k)) = true
  · rw [if_pos a, valV_map]
    rw [valV_any] at a
    by_cases e : j = k
    · obtain ⟨x, hx⟩ := Option.isSome_iff_exists.mp a
      rw [if_pos e, e, hx, Option.map_some, if_pos rfl]
    · rw [if_neg e]
      cases valV kvs j with
      | none => rfl
      | some x => rw [Option.map_some, if_neg e]
  · rw [if_neg a]
    refine valV_snoc k j y kvs ?_
    rw [valV_any] at a
    cases q : valV kvs k with
    | none => rfl
    | some x => rw [q] at a; exact (a rfl).elim
theorem length_putK (kvs : List (κ × V)) (k : κ) (v : V) : (putK kvs k v).length ≤ kvs.length + 1 := by
  unfold putK
  split
  · rw [List.length_map]; omega
  · rw [List.length_append, List.length_cons, List.length_nil]; omega
theorem putK_new {kvs : List (κ × V)} {k : κ} (v : V) (h : valV kvs k = none) : putK kvs k v = kvs ++ [(k, v)] := by
  unfold putK
  rw [valV_any, h]
  exact if_neg (by decide)

theorem RelO.isSome_eq {o : Option V} {u : Option Value} (r : RelO o u) : o.isSome = u.isSome := by
  cases o with
  | none => cases u with
    | none => rfl
    | some _ => exact (show False from r).elim
  | some _ => cases u with
    | none => exact (show False from r).elim
    | some _ => rfl

/-- raw tables of the same keys -/
theorem KV.val {kvs : List (κ × V)} {vs : List (κ × Value)} (r : KV kvs vs) (k : κ) : RelO (valV kvs k) (valueAt vs k) := by
  unfold KV at r
  induction r with
  | nil => exact True.intro
  | @cons p q ps qs h t ih =>
    obtain ⟨h1, h2⟩ := h
    by_cases e : p.1 = k
    · have e' : q.1 = k := h1.symm.trans e
      have b : valueAt (q :: qs) k = some q.2 := by simp [valueAt, List.find?_cons, e']
      rw [valV_pos e, b]; exact h2
    · have e' : ¬ q.1 = k := fun z => e (h1.trans z)
      have b : valueAt (q :: qs) k = valueAt qs k := by simp [valueAt, List.find?_cons, e']
      rw [valV_neg e, b]; exact ih
theorem KV.any {kvs : List (κ × V)} {vs : List (κ × Value)} (r : KV kvs vs) (k : κ) : (kvs.any fun kv => decide (kv.1 = k)) = vs.any fun kv => decide (kv.1 = k) := by
  unfold KV at r
  induction r with
  | nil => rfl
  | cons h t ih => rw [List.any_cons, List.any_cons, ih, h.1]
theorem KV.repl {kvs : List (κ × V)} {vs : List (κ × Value)} (r : KV kvs vs) (k : κ) {y : V} {u : Value} (ry : RelV y u) :
    KV (kvs.map fun kv => if kv.1 = k then (kv.1, y) else kv) (vs.map fun kv => if kv.1 = k then (kv.1, u) else kv) := by
  unfold KV at r ⊢
  induction r with
  | nil => exact .nil
  | @cons p q ps qs h t ih =>
    rw [List.map_cons, List.map_cons]
    refine .cons ?_ ih
    obtain ⟨h1, h2⟩ := h
    by_cases e : p.1 = k
    · rw [if_pos e, if_pos (h1.symm.trans e)]; exact ⟨h1, ry⟩
    · rw [if_neg e, if_neg (fun z => e (h1.trans z))]; exact ⟨h1, h2⟩
theorem KV.put {kvs : List (κ × V)} {vs : List (κ × Value)} (r : KV kvs vs) (k : κ) {y : V} {u : Value} (ry : RelV y u) : KV (putK kvs k y) (stored vs k u) := by
  unfold putK stored
  rw [r.any k]
  by_cases e : (vs.any fun kv => decide (kv.1 = k)) = true
  · rw [if_pos e, if_pos e]; exact r.repl k ry
  · rw [if_neg e, if_neg e]; exact Paired.snoc r ⟨rfl, ry⟩
theorem KV.length {kvs : List (κ × V)} {vs : List (κ × Value)} (r : KV kvs vs) : kvs.length = vs.length := Paired.length r
end


/-! ### a tracked dict, its keys ints and texts or tuples of these -/
theorem kV_is {P : Program} {w : World} {k : Key} {u : Value} (r : RelV (kV k) u) : (mixKind P w).is k u = true := by
  cases k with
  | inl i => obtain ⟨t, e⟩ := (show ∃ t, u = Value.int i t from r); subst e; exact mixKind_int P w i t
  | inr x => obtain ⟨t, e⟩ := (show ∃ t, u = Value.str x t from r); subst e; exact mixKind_str P w x t
theorem items_are {P : Program} {w : World} : ∀ {ks : List Key} {us : List Value}, Vals (ks.map kV) us → ItemsAre (mixKind P w) ks us
  | [], _, r => by rw [List.map_nil] at r; cases r; exact .nil
  | k :: ks, _, r => by
    rw [List.map_cons] at r
    cases r with
    | cons h t => exact .cons (kV_is h) (items_are t)

/-- raw entries of a dict with tuple keys -/
abbrev KT (H : Hp) : List (List Key × V) → List (List Key × Addr × Value) → Prop := Paired fun p q => p.1 = q.1 ∧ H q.2.1 = some (.tup (p.1.map kV)) ∧ RelV p.2 q.2.2
theorem KT.val {H : Hp} {kvs : List (List Key × V)} {xs : List (List Key × Addr × Value)} (r : KT H kvs xs) (k : List Key) : RelO (valV kvs k) ((atKey xs k).map (·.2)) := by
  induction r with
  | nil => exact True.intro
  | @cons p q ps qs h t ih =>
    obtain ⟨h1, _, h2⟩ := h
    by_cases e : p.1 = k
    · have e' : q.1 = k := h1.symm.trans e
      have b : atKey (q :: qs) k = some q.2 := by simp [atKey, List.find?_cons, e']
      rw [valV_pos e, b]; exact h2
    · have e' : ¬ q.1 = k := fun z => e (h1.trans z)
      have b : atKey (q :: qs) k = atKey qs k := by simp [atKey, List.find?_cons, e']
      rw [valV_neg e, b]; exact ih
theorem KT.repl {H : Hp} {kvs : List (List Key × V)} {xs : List (List Key × Addr × Value)} (r : KT H kvs xs) (k : List Key) {y : V} {u : Value} (ry : RelV y u) :
    KT H (kvs.map fun kv => if kv.1 = k then (kv.1, y) else kv) (xs.map (putAt k u)) := by
  induction r with
  | nil => exact .nil
  | @cons p q ps qs h t ih =>
    rw [List.map_cons, List.map_cons]
    refine .cons ?_ ih
    obtain ⟨h1, h2, h3⟩ := h
    unfold putAt
    by_cases e : p.1 = k
    · rw [if_pos e, if_pos (h1.symm.trans e)]; exact ⟨h1, h2, ry⟩
    · rw [if_neg e, if_neg (fun z => e (h1.trans z))]; exact ⟨h1, h2, h3⟩
theorem KT.put {H : Hp} {kvs : List (List Key × V)} {xs : List (List Key × Addr × Value)} (r : KT H kvs xs) (k : List Key) {b : Addr} {y : V} {u : Value} (hb : H b = some (.tup (k.map kV))) (ry : RelV y u) :
    KT H (putK kvs k y) (storedH xs k b u) := by
  have e : (kvs.any fun kv => decide (kv.1 = k)) = (atKey xs k).isSome := by
    rw [valV_any, (r.val k).isSome_eq, Option.isSome_map]
  unfold putK storedH
  rw [e]
  by_cases q : (atKey xs k).isSome = true
  · rw [if_pos q, if_pos q]; exact r.repl k ry
  · rw [if_neg q, if_neg q]; exact Paired.snoc r ⟨rfl, hb, ry⟩
theorem KT.keeps {H H' : Hp} {kvs : List (List Key × V)} {xs : List (List Key × Addr × Value)} (r : KT H kvs xs) (ht : ∀ b ys, H b = some (.tup ys) → H' b = some (.tup ys)) : KT H' kvs xs :=
  Paired.mapP r fun _ _ z => ⟨z.1, ht _ _ z.2.1, z.2.2⟩

section
variable {P : Program} {w : World} {H : Hp} {h : Heap} {a : Addr}
theorem rd_of {u : HO} (ok : HOk P w H h) (e : Rd H a u) : ObjOk P w H h a u := e.ok ok
theorem dk_rd {kvs : List (Key × V)} (ok : HOk P w H h) (e : Rd H a (.dK kvs)) : kvs.length ≤ sizeLine ∧ (a == sysModules) = false ∧ ∃ vs, KV kvs vs ∧ h.DictOf (mixKind P w) a vs :=
  show ObjOk P w H h a (.dK kvs) from rd_of ok e
theorem dk_of {kvs : List (Key × V)} (ok : HOk P w H h) (e : H a = some (.dK kvs)) : kvs.length ≤ sizeLine ∧ (a == sysModules) = false ∧ ∃ vs, KV kvs vs ∧ h.DictOf (mixKind P w) a vs := dk_rd ok (.inl e)
/-- a tracked tuple of ints and texts is a key -/
theorem key_of {ks : List Key} (ok : HOk P w H h) (e : H a = some (.tup (ks.map kV))) : (tupleKind (mixKind P w)).is h ks a := by
  obtain ⟨_, its, r, o, h1, h2, n, h3⟩ := (show ObjOk P w H h a (.tup (ks.map kV)) from ok a _ e)
  exact ⟨o, its.toArray, n, h1, h2, h3, by simpa using items_are r⟩
theorem dt_rd {kvs : List (List Key × V)} (ok : HOk P w H h) (e : Rd H a (.dT kvs)) : kvs.length ≤ sizeLine ∧ (a == sysModules) = false ∧
    ∃ xs, KT H kvs xs ∧ h.DictOfH (tupleKind (mixKind P w)) a xs := by
  obtain ⟨z, y, xs, r, o, es, ep, h1, h2, h3, h4, h5⟩ := (show ObjOk P w H h a (.dT kvs) from rd_of ok e)
  refine ⟨z, y, xs, r, o, es, ep, h1, h2, h3, h4, fun x hx => ?_, h5⟩
  have all : ∀ {l : List (List Key × V)} {m : List (List Key × Addr × Value)}, KT H l m → ∀ x ∈ m, (tupleKind (mixKind P w)).is h x.1 x.2.1 := by
    intro l m q
    induction q with
    | nil => intro x hx; exact nomatch hx
    | @cons p q ps qs hq t ih =>
      intro x hx
      rcases List.mem_cons.mp hx with e | hx
      · subst e
        exact key_of ok (by rw [← hq.1]; exact hq.2.1)
      · exact ih x hx
  exact all r x hx
theorem dt_of {kvs : List (List Key × V)} (ok : HOk P w H h) (e : H a = some (.dT kvs)) : kvs.length ≤ sizeLine ∧ (a == sysModules) = false ∧
    ∃ xs, KT H kvs xs ∧ h.DictOfH (tupleKind (mixKind P w)) a xs := dt_rd ok (.inl e)
end

/-- what the dict at a holds at the key y -/
def DGet (H : Hp) (a : Addr) (y : V) (r : Option V) : Prop :=
  (∃ kvs k, Rd H a (.dK kvs) ∧ y = kV k ∧ r = valV kvs k) ∨ ∃ kvs k b, Rd H a (.dT kvs) ∧ y = .ref b ∧ H b = some (.tup (k.map kV)) ∧ r = valV kvs k
/-- the heap behind a[y] = v -/
def DPut (H : Hp) (a : Addr) (y v : V) (H' : Hp) : Prop :=
  (∃ kvs k, H a = some (.dK kvs) ∧ y = kV k ∧ kvs.length < sizeLine ∧ H' = upd H a (.dK (putK kvs k v))) ∨
  ∃ kvs k b, H a = some (.dT kvs) ∧ y = .ref b ∧ H b = some (.tup (k.map kV)) ∧ kvs.length < sizeLine ∧ H' = upd H a (.dT (putK kvs k v))
theorem DGet.k {H : Hp} {a : Addr} {kvs : List (Key × V)} {k : Key} (e : H a = some (.dK kvs)) : DGet H a (kV k) (valV kvs k) := .inl ⟨kvs, k, .inl e, rfl, rfl⟩
theorem DPut.k {H : Hp} {a : Addr} {kvs : List (Key × V)} {k : Key} {v : V} (e : H a = some (.dK kvs)) (hl : kvs.length < sizeLine) : DPut H a (kV k) v (upd H a (.dK (putK kvs k v))) := .inl ⟨kvs, k, e, rfl, hl, rfl⟩


section
variable {X : Cx} {pins : List (Addr × Obj)} {σ : St} {H : Hp} {s : Shared} {a : Addr} {y v : V} {u r : Value} {o : Option V} {A : Around} {E : Value → Shared → Prop}

theorem Inv.big (I : Inv X pins σ H s) : sysModules < s.heap.objs.size := by
  have h : mainGlobals < s.heap.objs.size := (I.mod.glob.keeps I.bk).lt
  exact Nat.lt_trans (by decide) h

/-- d[y], there -/
theorem d_getItem {Q : Value → Shared → Prop} (hu : A.units + 1 < cLine) (I : Inv X pins σ H s) (g : DGet H a y (some v)) (ry : RelV y u) (h : ∀ w' s', Inv X pins σ H s' → RelV v w' → Q w' s') :
    wpAny (model X.prog X.w) A (getItem (.ref a) u) Q E s := by
  rcases g with ⟨kvs, k, e, ey, l⟩ | ⟨kvs, k, b, e, ey, eb, l⟩
  · subst ey
    obtain ⟨z, hd, vs, rel, dd⟩ := dk_rd I.hok e
    obtain ⟨w', hw, rw'⟩ := RelO.some_of (v := v) (o := valueAt vs k) (by rw [l]; exact rel.val k)
    exact wpAny_getItem_of (kV_is ry) dd.mapOf hw (h w' _ (I.tok _) rw')
  · subst ey
    cases (show u = Value.ref b from ry)
    obtain ⟨z, hd, xs, rel, dd⟩ := dt_rd I.hok e
    obtain ⟨w', hw, rw'⟩ := RelO.some_of (v := v) (o := (atKey xs k).map (·.2)) (by rw [l]; exact rel.val k)
    obtain ⟨p, hp, hp2⟩ := Option.map_eq_some_iff.mp hw
    refine wpAny_getItem_heap (tupleKind_room_in1 hu) (key_of I.hok eb) dd hp ?_
    rw [hp2]
    exact h w' _ (I.tok _) rw'
/-- y in d -/
theorem d_in {Q : Value → Shared → Prop} (hu : A.units + 1 < cLine) (I : Inv X pins σ H s) (g : DGet H a y o) (ry : RelV y u) (h : ∀ s', Inv X pins σ H s' → Q (.bool o.isSome) s') :
    wpAny (model X.prog X.w) A (compareOp .In u (.ref a)) Q E s := by
  rcases g with ⟨kvs, k, e, ey, l⟩ | ⟨kvs, k, b, e, ey, eb, l⟩
  · subst ey
    obtain ⟨z, hd, vs, rel, dd⟩ := dk_rd I.hok e
    refine wpAny_in_of (kV_is ry) hd dd.mapOf ?_
    rw [← (rel.val k).isSome_eq, ← l]
    exact h _ (I.tok _)
  · subst ey
    cases (show u = Value.ref b from ry)
    obtain ⟨z, hd, xs, rel, dd⟩ := dt_rd I.hok e
    refine wpAny_in_heap (tupleKind_room_in1 hu) (key_of I.hok eb) hd dd ?_
    have q := (rel.val k).isSome_eq
    rw [Option.isSome_map] at q
    rw [← q, ← l]
    exact h _ (I.tok _)
theorem d_notIn {Q : Value → Shared → Prop} (hu : A.units + 1 < cLine) (I : Inv X pins σ H s) (g : DGet H a y o) (ry : RelV y u) (h : ∀ s', Inv X pins σ H s' → Q (.bool (!o.isSome)) s') :
    wpAny (model X.prog X.w) A (compareOp .NotIn u (.ref a)) Q E s := by
  rcases g with ⟨kvs, k, e, ey, l⟩ | ⟨kvs, k, b, e, ey, eb, l⟩
  · subst ey
    obtain ⟨z, hd, vs, rel, dd⟩ := dk_rd I.hok e
    refine wpAny_notIn_of (kV_is ry) hd dd.mapOf ?_
    rw [← (rel.val k).isSome_eq, ← l]
    exact h _ (I.tok _)
  · subst ey
    cases (show u = Value.ref b from ry)
    obtain ⟨z, hd, xs, rel, dd⟩ := dt_rd I.hok e
    refine wpAny_notIn_heap (tupleKind_room_in1 hu) (key_of I.hok eb) hd dd ?_
    have q := (rel.val k).isSome_eq
    rw [Option.isSome_map] at q
    rw [← q, ← l]
    exact h _ (I.tok _)
/-- a dict's object is replaced -/
theorem d_write {h' : Heap} {t' : Nat} {ob : HO} (I : Inv X pins σ H s) (mu : Mut (H a)) (hs : Heap.SameBut a s.heap h') (he : ∃ q, h'.get? a = some q) (new : ObjOk X.prog X.w (upd H a ob) h' a ob) :
    Inv X pins σ (upd H a ob) { s with heap := h', toks := t' } :=
  I.write (x := a) (e := a) mu (.inl rfl) (fun b q hb z => (hs.2 b hb).trans z) he new
theorem dk_new {P : Program} {w : World} {H' : Hp} {h' : Heap} {kvs : List (Key × V)} {vs : List (Key × Value)} (z : kvs.length ≤ sizeLine) (hd : (a == sysModules) = false) (rel : KV kvs vs) (dd : h'.DictOf (mixKind P w) a vs) :
    ObjOk P w H' h' a (.dK kvs) := ⟨z, hd, vs, rel, dd⟩
/-- d[y] = v -/
theorem d_setItem {H' : Hp} {Q : Unit → Shared → Prop} (hu : A.units + 1 < cLine) (I : Inv X pins σ H s) (g : DPut H a y v H') (ry : RelV y u) (rv : RelV v r) (h : ∀ s', Inv X pins σ H' s' → Q () s') :
    wpAny (model X.prog X.w) A (setItem (.ref a) u r) Q E s := by
  rcases g with ⟨kvs, k, e, ey, l, eH⟩ | ⟨kvs, k, b, e, ey, eb, l, eH⟩
  · subst ey eH
    obtain ⟨z, hd, vs, rel, dd⟩ := dk_of I.hok e
    have hz : vs.length ≤ sizeLine := by rw [← rel.length]; exact z
    have hl : (putK kvs k v).length ≤ sizeLine := by have := length_putK kvs k v; omega
    refine wpAny_setItem_pairs (hsz := hz) (kV_is ry) dd fun h' dd' hs => h _ ?_
    have he : ∃ q, h'.get? a = some q := let ⟨q, _, _, hq, _⟩ := dd'; ⟨q, hq⟩
    exact d_write I (by rw [e]; exact True.intro) hs he (dk_new hl hd (rel.put k rv) dd')
  · subst ey eH
    cases (show u = Value.ref b from ry)
    obtain ⟨z, hd, xs, rel, dd⟩ := dt_of I.hok e
    have hz : xs.length ≤ sizeLine := by rw [← Paired.length rel]; exact z
    have hl : (putK kvs k v).length ≤ sizeLine := by have := length_putK kvs k v; omega
    refine wpAny_setItem_heap (hsz := hz) (tupleKind_room_in1 hu) (key_of I.hok eb) dd fun h' dd' hs => h _ ?_
    obtain ⟨q, es, ep, hq, h2, h3, h4, _, h5⟩ := dd'
    refine d_write I (by rw [e]; exact True.intro) hs ⟨q, hq⟩ ⟨hl, hd, _, (rel.put k eb rv).keeps fun c ys ec => ?_, q, es, ep, hq, h2, h3, h4, h5⟩
    rw [upd_ne (ne_of ec e (fun z => nomatch z))]
    exact ec
end

section
variable {X : Cx} {pins : List (Addr × Obj)} {σ : St} {H : Hp} {s : Shared} {a : Addr} {kvs : List (Key × V)} {k : Key} {u : Value} {A : Around} {E : Value → Shared → Prop}
end


/-! ### readings and rules -/
/-- the element of a subscription, not a slice -/
def NoSl (i : Expr) : Prop := ∀ ov iv, subscripted i false ov iv = operate [ov, iv] (getItem ov iv)
theorem subD_of {prog : Program} {w : World} {A : Around} {E : Value → Shared → Prop} {s : Shared} {env : Env} {value slice : Expr} {pos : Pos} {T id : String} {Q : Value → Shared → Prop}
    (hl : typeLookup (.type T) "__getitem__" = pure (some (.builtin id))) (hs : NoSl slice)
    (h : wpAny (model prog w) A (eval value env) (fun o s₁ => wpAny (model prog w) A (eval slice env) (fun i s₂ => s₂.TypeIs o T ∧ wpAny (model prog w) A (getItem o i) Q E s₂) E s₁) E s) :
    wpAny (model prog w) A (eval (.Subscript value slice pos) env) Q E s := by
  refine Subscript_ (wpAny_mono h (fun o s₁ h₁ => wpAny_mono h₁ (fun i s₂ h₂ => ?_) fun _ _ x => x) fun _ _ x => x)
  obtain ⟨hT, h₂⟩ := h₂
  unfold subscriptTail
  refine wpAny_bind ?_
  rw [getitemInPython_of_ne hT.not_modules]
  refine wpAny_bind (wpAny_specialOf hT hl ?_)
  have fin : wpAny (model prog w) A (subscripted slice false o i) (fun r s₃ => wpAny (model prog w) A (letTemporaryGo value o r >>= fun _ => pure r) Q E s₃) E s₂ := by
    rw [hs o i]
    exact wpAny_operating (wpAny_mono h₂ (fun r s₃ h₃ => wpAny_bind (wpAny_letTemporaryGo (wpAny_pure h₃))) fun _ _ x => x)
  first
    | exact wpAny_pure (wpAny_bind fin)
    | exact wpAny_bind (wpAny_pure (wpAny_bind fin))
    | exact wpAny_bind fin

theorem dict_typeIs {X : Cx} {pins : List (Addr × Obj)} {σ : St} {H : Hp} {s : Shared} {a : Addr} {y : V} {o : Option V} (I : Inv X pins σ H s) (g : DGet H a y o) : s.TypeIs (.ref a) "dict" := by
  rcases g with ⟨kvs, k, e, _, _⟩ | ⟨kvs, k, b, e, _, _, _⟩
  · obtain ⟨_, _, vs, _, dd⟩ := dk_rd I.hok e
    exact dd.typeIs
  · obtain ⟨_, _, xs, _, dd⟩ := dt_rd I.hok e
    exact dd.typeIs

/-- d[y] -/
def tDGet (td ty : TE) : TE := fun σ H Q => td σ H fun x H1 => ty σ H1 fun y H2 => ∃ a v, x = .ref a ∧ DGet H2 a y (some v) ∧ Q v H2
/-- y in d, y not in d -/
def tDIn (ty td : TE) : TE := fun σ H Q => ty σ H fun y H1 => td σ H1 fun x H2 => ∃ a o, x = .ref a ∧ DGet H2 a y o ∧ Q (.bl o.isSome) H2
def tDNotIn (ty td : TE) : TE := fun σ H Q => ty σ H fun y H1 => td σ H1 fun x H2 => ∃ a o, x = .ref a ∧ DGet H2 a y o ∧ Q (.bl (!o.isSome)) H2
/-- d[y] = v -/
def sDPut (td ty tv : TE) : TS := fun D σ H => tv σ H fun v H1 => td σ H1 fun x H2 => ty σ H2 fun y H3 => ∃ a H4, x = .ref a ∧ DPut H3 a y v H4 ∧ D.nx σ H4

section
variable {X : Cx} {o i e value : Expr} {pos pos' tpos : Pos} {td ty tv : TE}
theorem pe_dget (hu : X.A.units + 1 < cLine) (ho : PE X o td) (hi : PE X i ty) (hs : NoSl i) : PE X (.Subscript o i pos) (tDGet td ty) := by
  intro pins s σ H Q I h
  refine subD_of PySem.F.slot_dict_getitem.lookup hs (thn (ho pins s σ H _ I h) fun u s1 ⟨x, H1, I1, rx, q1⟩ => thn (hi pins s1 σ H1 _ I1 q1) fun iv s2 ⟨y, H2, I2, ry, a, v, ex, g, q2⟩ => ?_)
  subst ex
  obtain rfl : u = Value.ref a := rx
  exact ⟨dict_typeIs I2 g, d_getItem hu I2 g ry fun w' s3 I3 rw' => ⟨v, H2, I3, rw', q2⟩⟩
theorem pc_din (hu : X.A.units + 1 < cLine) (hi : PE X i ty) (ho : PE X o td) : PC X .In i o (tDIn ty td) := by
  intro pins s σ H Q I h
  refine thn (hi pins s σ H _ I h) fun iv s1 ⟨y, H1, I1, ry, q1⟩ => thn (ho pins s1 σ H1 _ I1 q1) fun u s2 ⟨x, H2, I2, rx, a, ov, ex, g, q2⟩ => ?_
  subst ex
  obtain rfl : u = Value.ref a := rx
  exact d_in hu I2 g ry fun s3 I3 => ⟨.bl ov.isSome, H2, I3, rfl, q2⟩
theorem pc_dnotin (hu : X.A.units + 1 < cLine) (hi : PE X i ty) (ho : PE X o td) : PC X .NotIn i o (tDNotIn ty td) := by
  intro pins s σ H Q I h
  refine thn (hi pins s σ H _ I h) fun iv s1 ⟨y, H1, I1, ry, q1⟩ => thn (ho pins s1 σ H1 _ I1 q1) fun u s2 ⟨x, H2, I2, rx, a, ov, ex, g, q2⟩ => ?_
  subst ex
  obtain rfl : u = Value.ref a := rx
  exact d_notIn hu I2 g ry fun s3 I3 => ⟨.bl (!ov.isSome), H2, I3, rfl, q2⟩
theorem ps_dput (hu : X.A.units + 1 < cLine) (ho : PE X o td) (hi : PE X i ty) (hv : PE X value tv) (hs : swapsWith value (some (.Subscript o i pos')) pos.line X.env = pure false) :
    PS X (.Assign [.Subscript o i pos'] value pos) (sDPut td ty tv) := by
  intro pins s σ H D I h
  refine wpAny_Assign_Subscript (thn (hv pins s σ H _ I h) fun r s1 ⟨v, H1, I1, rv, q1⟩ => thn (ho pins s1 σ H1 _ I1 q1) fun u s2 ⟨x, H2, I2, rx, q2⟩ => thn (hi pins s2 σ H2 _ I2 q2) fun iv s3 ⟨y, H3, I3, ry, a, H4, ex, g, q3⟩ => ?_) hs
  subst ex
  obtain rfl : u = Value.ref a := rx
  exact d_setItem hu I3 g ry rv fun s4 I4 => ⟨σ, H4, I4, q3⟩
end


/-! ### displays -/
theorem dk_empty {P : Program} {w : World} {H : Hp} (h : Heap) (hb : sysModules < h.objs.size) : ObjOk P w H (h.push { cls := .type "dict", data := .dict #[] }) h.objs.size (.dK []) :=
  ⟨Nat.zero_le _, beq_eq_false_iff_ne.mpr (Ne.symm (Nat.ne_of_lt hb)), [], .nil, Heap.DictOf.new h⟩
/-- {}, to be a dict of the kind that is wanted -/
def tDNewK : TE := fun _ H Q => ∀ p, H p = none → Q (.ref p) (upd H p (.dK []))
section
variable {X : Cx} {pos : Pos}
theorem pe_dnewK : PE X (.Dict [] [] pos) tDNewK := fun pins s σ H Q I h =>
  wpAny_Dict_empty ⟨.ref s.heap.objs.size, _, I.laid (a := s.heap.objs.size) (o := .dK []) (t' := s.toks) (fun _ _ q => Heap.get?_push_of_some _ q) (Nat.le_refl _) (dk_empty s.heap I.big), rfl, h _ (I.hok.fresh (Nat.le_refl _))⟩
end




/-! ### methods -/


section
variable {X : Cx} {pins : List (Addr × Obj)} {σ : St} {H : Hp} {s : Shared} {a : Addr} {y d : V} {u r : Value} {o : Option V} {A : Around} {E : Value → Shared → Prop}
end

section
variable {X : Cx} {o e f : Expr} {apos cpos : Pos} {td ty tx : TE}
end

/-! ### dict(d): a copy -/
section
variable {X : Cx} {pins : List (Addr × Obj)} {σ : St} {H : Hp} {s : Shared} {a : Addr} {kvs : List (Key × V)} {A : Around} {E : Value → Shared → Prop}
end


section
variable {X : Cx} {pins : List (Addr × Obj)} {σ : St} {H : Hp} {s : Shared} {a : Addr} {y : V} {u : Value} {A : Around} {E : Value → Shared → Prop}
end
end L2

namespace L2
open PySem PySem.Spec PyProof.Rows
section
variable {X : Cx}
end
/-! ### a dict's pairs: keys that differ -/
section
variable {κ : Type} [DecidableEq κ]
end
end L2
/-! Methods that may raise; try with two except clauses that bear no name. -/
namespace L2
open PySem PySem.Spec PyProof.Rows
section
variable {X : Cx} {K : PySem.W.Frag} {pins : List (Addr × Obj)} {σ : St} {H : Hp} {s : Shared} {k : Nat} {x m : Str} {C : Addr} {ps : List Str} {sp : Sp} {p pos apos : Pos} {e o : Expr} {es : List Expr} {ta : TE} {t : TA} {tx : TX} {CX : CXT} {E : XK}
/-- o.m(..), its exceptions pass on -/
theorem pe_methCE {pl : Sem Bool} (he : PE X o ta) (c : CtrM X.prog X.w X.K X.mg X.base CX k C m ps sp) (hr : Room k X.A) (ha : PA X (e :: es) t) (hx : Passes CX X E)
    (hst : starEach (e :: es) X.env = (false, eval e X.env) :: starEach es X.env := by rfl) (hpl : (backTo pos (starEach es X.env)).any (·.1) = false := by rfl)
    (ht : eval (.Call (.Attribute o m apos) (e :: es) [] pos) X.env = (do
      let ov ← eval o X.env
      standAt apos.atName
      let (f, first) ← holding [ov] (getMethod ov m pl)
      callWith pos f first (backTo pos (starEach (e :: es) X.env)) (backToKw pos (keywordEach [] X.env))) := by rfl) :
    PE X (.Call (.Attribute o m apos) (e :: es) [] pos) (tMeth C m sp [] E ta t) := by
  obtain ⟨f, fd, F, hm, hb⟩ := c.ex
  exact pe_meth (pl := pl) he c.cl hm F hr hb .nil hx ha hst hpl ht

/-! ### try: st except Y1: .. except Y2: .. -/
end
end L2
/-! The law's call where defs of the text make lambdas: the tables of their code objects are tracked. -/
namespace L2
open PySem PySem.Spec PyProof.Rows

/-- which addresses are tables, with the place and the name of the one lambda that is made there -/
abbrev Tabs := Addr → Option (Pos × Str)
def tabsOf (K : PySem.W.Frag) (L : List (Str × Pos × Str)) : Tabs := fun b => L.findSome? fun e => match PySem.W.tabIn K e.1 with
  | some p => if b = p.2 then some e.2 else none
  | none => none
theorem tabs_mem {K : PySem.W.Frag} {L : List (Str × Pos × Str)} {b : Addr} {p : Pos × Str} (h : tabsOf K L b = some p) : ∃ e ∈ L, ∃ c, PySem.W.tabIn K e.1 = some (c, b) := by
  unfold tabsOf at h
  obtain ⟨e, he, q⟩ := List.exists_of_findSome?_eq_some h
  refine ⟨e, he, ?_⟩
  cases z : PySem.W.tabIn K e.1 with
  | none => rw [z] at q; cases q
  | some r =>
    rw [z] at q
    dsimp only at q
    split at q
    · rename_i hb
      exact ⟨r.1, by rw [hb]⟩
    · cases q
/-- a law's wish of the abstract heap -/
def TabsIn (K : PySem.W.Frag) (L : List (Str × Pos × Str)) (H : Hp) : Prop := ∀ b p, tabsOf K L b = some p → H b = some (.tbl p.1 p.2)

theorem law_callT {P : Program} {w : World} {K : PySem.W.Frag} {mg mb : Str → Option Value} {CX : CXT} {k : Nat} {fa a : Addr} {fd : FuncData} {x : Str} {sp : Sp} {s₁ : Shared} {vs : List Value} {ns : List Int} (τ : Tabs)
    (KX : K.In s₁.heap) (hns : s₁.heap.Ns mainGlobals mg) (hb : s₁.heap.Ns builtinsNs mb) (hbb : ∀ x : Str, x ≠ "__name__" → mb x = bootBuiltins x) (hlim : s₁.heap.NoLimit) (hg : s₁.gens = #[])
    (hbm : ∃ bm ob, mg "__builtins__" = some (.ref bm) ∧ bm ≠ builtinsNs ∧ s₁.heap.get? bm = some ob ∧ ob.cls = .type "module" ∧ ob.dict = some builtinsNs ∧ ob.data = .plain)
    (hτ : ∀ b p, τ b = some p → ∃ c, PySem.W.CodeHd s₁.heap c b ∧ s₁.heap.get? b = some (PySem.W.tabObj #[])) (hτK : ∀ b p, τ b = some p → K.lookup b = none)
    (ha : s₁.heap.get? a = some { cls := .type "list", data := .seq vs.toArray }) (hi : IntsAre vs ns) (hl : ns.length ≤ sizeLine) (hr : Room k callerA)
    (F : ∀ base : Heap, K.In base → base.Ns mainGlobals mg → FnOk P w K mg base CX k fa fd [x] sp) (hbind : ∀ (s : Shared) (u : Value), BindsTo s fd ⟨[u], []⟩ [(x, u)])
    (hsp : ∀ H : Hp, (∀ b p, τ b = some p → H b = some (.tbl p.1 p.2)) → SqL K H a (ns.map V.int) → sp [.ref a] H (fun v _ => v = .bl true) fun _ _ _ => False)
    (hCX : ∀ H e s', CX [] H s₁ (fun _ _ _ => False) e s' → False) :
    codeAny (model P w) callerA (.call (.ref fa) ⟨[.ref a], []⟩) (fun r s' => r = .ok (.ret (.bool true)) ∧ OldK s₁.heap s'.heap ∧ s'.os = s₁.os ∧ AllBare s'.gens) s₁ := by
  have rv := vals_ints hi
  have lenV := hi.length
  have hta : ∀ p, τ a ≠ some p := fun p z => by
    obtain ⟨c, _, e⟩ := hτ a p z
    rw [ha] at e; cases e
  have core : ∀ H : Hp, (∀ b p, τ b = some p → H b = some (.tbl p.1 p.2)) → SqL K H a (ns.map V.int) → HOk P w H s₁.heap →
      (∀ b u, H b = some u → (b = a ∧ (∃ o xs, u = .frz o (.lst xs)) ∧ K.lookup a = none) ∨ ∃ p, τ b = some p ∧ u = .tbl p.1 p.2) →
      codeAny (model P w) callerA (.call (.ref fa) ⟨[.ref a], []⟩) (fun r s' => r = .ok (.ret (.bool true)) ∧ OldK s₁.heap s'.heap ∧ s'.os = s₁.os ∧ AllBare s'.gens) s₁ := by
    intro H hT hS hok hA
    have obj_of : ∀ {b : Addr} {o : Obj} {u : HO}, s₁.heap.get? b = some o → H b = some u → (∃ xs n, o.data = .seq xs n) ∨ ∃ ps, o.data = .fields ps ∧ o.cls = .none := fun {b o u} e q => by
      rcases hA b u q with ⟨rfl, _⟩ | ⟨p, hp, _⟩
      · rw [ha] at e; cases e; exact .inl ⟨_, _, rfl⟩
      · obtain ⟨c, _, e'⟩ := hτ b p hp
        rw [e'] at e; cases e; exact .inr ⟨_, rfl, rfl⟩
    have base_of : ∀ {b : Addr} {o : Obj}, s₁.heap.get? b = some o → H b = none → (hidT s₁.heap H).get? b = some o := fun e n => hidT_get e n
    have noA : ∀ {b : Addr} {o : Obj} {es : Array DictEntry} {ep : Nat}, s₁.heap.get? b = some o → o.data = .dict es ep → H b = none := fun {b o es ep} e d => by
      cases q : H b with
      | none => rfl
      | some u =>
        rcases obj_of e q with ⟨xs, n, z⟩ | ⟨ps, z, _⟩
        · rw [d] at z; cases z
        · rw [d] at z; cases z
    have nsK : ∀ {b : Addr} {m : Str → Option Value}, s₁.heap.Ns b m → (hidT s₁.heap H).Ns b m := fun {b m} ⟨o, es, ep, e, d, r⟩ => ⟨o, es, ep, base_of e (noA e d), d, r⟩
    have hKb : K.In (hidT s₁.heap H) := fun b o e => base_of (KX b o e) (by
      cases q : H b with
      | none => rfl
      | some u =>
        rcases hA b u q with ⟨rfl, _, z⟩ | ⟨p, hp, _⟩
        · rw [z] at e; cases e
        · rw [hτK b p hp] at e; cases e)
    obtain ⟨bm, ob, m1, m2, m3, m4, m5, m6⟩ := hbm
    have hbmH : H bm = none := by
      cases q : H bm with
      | none => rfl
      | some u =>
        rcases obj_of m3 q with ⟨xs, n, z⟩ | ⟨ps, z, _⟩
        · rw [m6] at z; cases z
        · rw [m6] at z; cases z
    have hM : Mod K mg (hidT s₁.heap H) := ⟨hKb, nsK hns, ⟨mb, nsK hb, hbb⟩, let ⟨mc, h1, h2⟩ := hlim; ⟨mc, nsK h1, h2⟩, ⟨bm, ob, m1, m2, base_of m3 hbmH, m4, m5, m6⟩⟩
    have e0 : Env0 P w K mg (hidT s₁.heap H) callerA [] s₁ H := ⟨rfl, hM, fun b o e => of_hidT e, Nat.le_of_eq (hidT_size _ _), trivial, fun b hb => absurd (show b ∈ ([] : List Addr) from hb) (by simp), hok, .of_eq hg⟩
    refine codeAny_mono ((F _ hKb (nsK hns)).run callerA [] s₁ H ⟨[.ref a], []⟩ [.ref a] [.ref a] _ _ hr e0 (hbind s₁ (.ref a)) (.cons rfl .nil) (hsp H hT hS)) fun r s' h => ?_
    cases r with
    | error e => exact (hCX H e s' h).elim
    | ok fl =>
      cases fl with
      | next => exact False.elim h
      | brk => exact False.elim h
      | cont => exact False.elim h
      | ret u =>
        obtain ⟨v, H', os, bare, un, hok', r', q⟩ := h
        have q' : v = .bl true := q
        subst q'
        obtain rfl : u = Value.bool true := r'
        have was : ∀ b o, s₁.heap.get? b = some o → asItWas s₁.heap s'.heap b o := fun b o e => by
          cases q : H b with
          | none => exact .inl (un.keep b o e q (by intro z; exact absurd (show b ∈ ([] : List Addr) from z) (by simp)) (by simp))
          | some u =>
            rcases hA b u q with ⟨rfl, ⟨ob', xs, rfl⟩, _⟩ | ⟨p, hp, rfl⟩
            · have z2 := un.frzs b ob' _ q
              obtain ⟨e1, _⟩ := hok b _ q
              obtain ⟨e2, _⟩ := hok' b _ z2
              rw [e] at e1; cases e1
              exact .inl e2
            · obtain ⟨c, C, e'⟩ := hτ b p hp
              rw [e'] at e; cases e
              obtain ⟨ps, z, _⟩ := hok' b _ (un.tbls b _ _ q)
              refine .inr (.inl ⟨(C.tab e').isCodeTable, rfl, #[], ps, rfl, ?_⟩)
              rw [z]
              simp
        exact ⟨rfl, ⟨was, fun b o e => un.there b o e (by simp)⟩, os, bare⟩
  have tok : ∀ (H : Hp) b p, τ b = some p → ObjOk P w H s₁.heap b (.tbl p.1 p.2) := fun H b p hp => by
    obtain ⟨c, _, e⟩ := hτ b p hp
    refine ⟨#[], e, trivial, fun cv z => ?_⟩
    simp [codeAmong] at z
  cases hk : K.lookup a with
  | some o =>
    have e := KX a o hk
    rw [ha] at e
    cases e
    refine core (fun b => (τ b).map fun p => .tbl p.1 p.2) (fun b p hp => by simp [hp]) (.inr ⟨_, vs.toArray, _, hk, rfl, rfl, rfl, by rw [List.size_toArray, lenV]; exact hl, by simpa using rv⟩) (fun b u z => ?_) (fun b u z => ?_)
    · obtain ⟨p, hp, rfl⟩ := Option.map_eq_some_iff.mp z
      exact tok _ b p hp
    · obtain ⟨p, hp, rfl⟩ := Option.map_eq_some_iff.mp z
      exact .inr ⟨p, hp, rfl⟩
  | none =>
    refine core (fun b => if b = a then some (.frz { cls := .type "list", data := .seq vs.toArray } (.lst (ns.map V.int))) else (τ b).map fun p => .tbl p.1 p.2) (fun b p hp => ?_) (.inl (.inr ⟨{ cls := .type "list", data := .seq vs.toArray }, if_pos rfl⟩)) (fun b u z => ?_) (fun b u z => ?_)
    · have hb : b ≠ a := fun q => hta p (q ▸ hp)
      show (if b = a then _ else _) = _
      rw [if_neg hb, hp]; rfl
    · by_cases hb : b = a
      · have z' := (if_pos hb).symm.trans z
        cases z'
        subst hb
        exact ⟨ha, by rw [List.length_map]; exact hl, vs, _, rv, ha⟩
      · have z' := (if_neg hb).symm.trans z
        obtain ⟨p, hp, rfl⟩ := Option.map_eq_some_iff.mp z'
        exact tok _ b p hp
    · by_cases hb : b = a
      · have z' := (if_pos hb).symm.trans z
        cases z'
        exact .inl ⟨hb, ⟨_, _, rfl⟩, hk⟩
      · have z' := (if_neg hb).symm.trans z
        obtain ⟨p, hp, rfl⟩ := Option.map_eq_some_iff.mp z'
        exact .inr ⟨p, hp, rfl⟩

theorem walk_ofT {l : PySem.W.OpenLaw} {n k : Nat} {q : Program} {loose : List Str} {XP : (Str → Option Value) → Heap → Prop} {YP : World → Heap → Prop} {d : DefRec} {K : Params → PySem.W.Frag} {CX : World → CXT} {sp : World → Sp} {x : Str} (L : List (Str × Pos × Str))
    (hn : l.most = some n) (hn2 : n ≤ sizeLine) (hdf : d.params.defaults = []) (hr : Room k callerA)
    (hY : ∀ (w : World) (h : Heap), YP w h → (K w.params).In h)
    (hL : ∀ e ∈ L, ∃ d', (recsOf q).find? (fun r => r.name == e.1) = some d') (hK : ∀ (w : World), ∀ e ∈ L, ∀ c P, PySem.W.tabIn (K w.params) e.1 = some (c, P) → (K w.params).lookup P = none)
    (F : ∀ (w : World) (mg : Str → Option Value) (fa : Addr) (h : Heap), (K w.params).In h → h.Ns mainGlobals mg → mg d.name = some (.ref fa) →
      ∃ fd : FuncData, (∀ (s : Shared) (u : Value), BindsTo s fd ⟨[u], []⟩ [(x, u)]) ∧
        ∀ base : Heap, (K w.params).In base → base.Ns mainGlobals mg → FnOk l.prog w (K w.params) mg base (CX w) k fa fd [x] (sp w))
    (hsp : ∀ (w : World) (H : Hp) (a : Addr) (ns : List Int), ns.length ≤ n → TabsIn (K w.params) L H → SqL (K w.params) H a (ns.map V.int) → sp w [.ref a] H (fun v _ => v = .bl true) fun _ _ _ => False)
    (hCX : ∀ (w : World) (H : Hp) (s : Shared) (e : Value) (s' : Shared), CX w [] H s (fun _ _ _ => False) e s' → False) :
    PySem.W.WalkO q loose XP YP l.row.toRowW d [] (fun f vs => PySem.call f vs) := by
  refine Att.attach_call hn hdf fun w s₀ s₁ mg mb fa o pm cd doc a vs ns G Y ho hd hcd hmg hobj hints hlen hg => ?_
  have KX := hY w _ Y
  obtain ⟨fd, hb, hF⟩ := F w mg fa _ KX G.T.g hmg
  refine law_callT (tabsOf (K w.params) L) KX G.T.g G.T.b G.T.builtins G.T.nolimit hg G.T.bmain (fun b p hp => ?_) (fun b p hp => ?_) hobj hints (Nat.le_trans hlen hn2) hr hF hb (fun H hO hS => hsp w H a ns hlen hO hS) fun H e s' => hCX w H s₁ e s'
  · obtain ⟨e, he, c, z⟩ := tabs_mem hp
    obtain ⟨d', hd'⟩ := hL e he
    obtain ⟨h1, h2⟩ := PySem.W.tab_of G.T KX hd' z
    exact ⟨c, h1, h2⟩
  · obtain ⟨e, he, c, z⟩ := tabs_mem hp
    exact hK w e he c b z
end L2
namespace My
open PySem L2 PyProof.Rows
theorem small1000' {n : Nat} (h : n ≤ 100000) : n < sizeLine := by rw [sizeLine_eq]; omega
end My
namespace My
end My
/-! Answers: own classes by isinstance; what moves and places show. -/
namespace L2
open PySem PySem.Spec PyProof.Rows
structure InsT (K : PySem.W.Frag) (C : Addr) : Prop where
  ha : PySem.W.findIn K (.ref C) "__class__" = some (some (.builtin "object.__class__"))
  hn : PySem.W.specialIn K (.builtin "object.__class__") "__get__" = some (some (.builtin "getset_descriptor.__get__"))
  htk : PySem.W.takesIn K (.builtin "object.__class__") = some true
  hm : PySem.W.mroIn K C (.type "object") = some true
end L2
namespace My
open PySem L2
open PySem.W (Dat)
/-! ### answers as objects -/
/-! ### falling places -/
/-! ### fewest tracks -/
/-! ### given orders -/
end My
namespace My
open PySem L2
def top (i : Nat) : Stmt := PySem.Challenge.pw_sidings_k01_run.main.body.getD i (.Pass ⟨0, 0, 0, 0⟩)
abbrev s_Stuck_init : Stmt := inClass (top 5) 0
abbrev s_is_number : Stmt := top 10
abbrev s_checked_train : Stmt := top 11
abbrev s_has_two_alike : Stmt := top 12
abbrev s_checked_blind : Stmt := top 13
abbrev s_checked_count : Stmt := top 14
abbrev s_checked_many : Stmt := top 15
abbrev s_checked_moves : Stmt := top 16
abbrev s_checked_move : Stmt := top 17
abbrev s_checked_word : Stmt := top 18
abbrev s_checked_track : Stmt := top 19
abbrev s_Track_init : Stmt := inClass (top 21) 0
abbrev s_Track_is_empty : Stmt := inClass (top 21) 1
abbrev s_Track_let_in : Stmt := inClass (top 21) 2
abbrev s_Track_let_out : Stmt := inClass (top 21) 3
abbrev s_Track_standing : Stmt := inClass (top 21) 4
abbrev s_Yard_init : Stmt := inClass (top 22) 0
abbrev s_Yard_carry_out : Stmt := inClass (top 22) 1
abbrev s_Yard_carry_in : Stmt := inClass (top 22) 2
abbrev s_Yard_carry_away : Stmt := inClass (top 22) 3
abbrev s_Yard_standing_on : Stmt := inClass (top 22) 4
abbrev s_run : Stmt := top 23
abbrev s__law_inserted : Stmt := top 25
abbrev s__law_yard : Stmt := top 26
abbrev s__law_kept : Stmt := top 27
abbrev s__law_stuck : Stmt := top 28
abbrev s_law : Stmt := top 29
/-- the addresses that the text's names have -/
structure Adr where
  cYardError : Addr
  cBadTrain : Addr
  cBadYard : Addr
  cBadMoves : Addr
  cStuck : Addr
  cBadText : Addr
  cTrack : Addr
  cYard : Addr
  gWORDS : Addr
/-- the text's facts -/
structure Tx (K : PySem.W.Frag) (mg : Str → Option Value) (Z : Adr) : Prop where
  n_all : mg "all" = none
  n_any : mg "any" = none
  n_bool : mg "bool" = none
  n_enumerate : mg "enumerate" = none
  n_int : mg "int" = none
  n_isinstance : mg "isinstance" = none
  n_len : mg "len" = none
  n_list : mg "list" = none
  n_range : mg "range" = none
  n_sorted : mg "sorted" = none
  n_str : mg "str" = none
  n_sum : mg "sum" = none
  n_tuple : mg "tuple" = none
  n_zip : mg "zip" = none
  is_number : FnT K mg "is_number" s_is_number ["value"]
  checked_train : FnT K mg "checked_train" s_checked_train ["train"]
  has_two_alike : FnT K mg "has_two_alike" s_has_two_alike ["wagons"]
  checked_blind : FnT K mg "checked_blind" s_checked_blind ["blind"]
  checked_count : FnT K mg "checked_count" s_checked_count ["many"]
  checked_many : FnT K mg "checked_many" s_checked_many ["many"]
  checked_moves : FnT K mg "checked_moves" s_checked_moves ["moves", "many"]
  checked_move : FnT K mg "checked_move" s_checked_move ["move", "many"]
  checked_word : FnT K mg "checked_word" s_checked_word ["word"]
  checked_track : FnT K mg "checked_track" s_checked_track ["track", "many"]
  run : FnT K mg "run" s_run ["train", "blind", "many", "moves"]
  _law_inserted : FnT K mg "_law_inserted" s__law_inserted ["_law_script"]
  _law_yard : FnT K mg "_law_yard" s__law_yard ["_law_train", "_law_blind", "_law_many", "_law_moves"]
  _law_kept : FnT K mg "_law_kept" s__law_kept ["_law_train", "_law_blind", "_law_many", "_law_moves"]
  _law_stuck : FnT K mg "_law_stuck" s__law_stuck ["_law_train", "_law_blind", "_law_many", "_law_moves"]
  law : FnT K mg "law" s_law ["_law_script"]
  c_YardError : mg "YardError" = some (.ref Z.cYardError)
  c_BadTrain : mg "BadTrain" = some (.ref Z.cBadTrain)
  c_BadYard : mg "BadYard" = some (.ref Z.cBadYard)
  c_BadMoves : mg "BadMoves" = some (.ref Z.cBadMoves)
  c_Stuck : mg "Stuck" = some (.ref Z.cStuck)
  c_BadText : mg "BadText" = some (.ref Z.cBadText)
  c_Track : mg "Track" = some (.ref Z.cTrack)
  k_Track : Cls K Z.cTrack
  y_Track : InsT K Z.cTrack
  a_Track_blind : NoAttr K Z.cTrack "blind"
  a_Track_came : NoAttr K Z.cTrack "came"
  a_Track_gone_ahead : NoAttr K Z.cTrack "gone_ahead"
  c_Yard : mg "Yard" = some (.ref Z.cYard)
  k_Yard : Cls K Z.cYard
  y_Yard : InsT K Z.cYard
  a_Yard_blind : NoAttr K Z.cYard "blind"
  a_Yard_come : NoAttr K Z.cYard "come"
  a_Yard_left : NoAttr K Z.cYard "left"
  a_Yard_tracks : NoAttr K Z.cYard "tracks"
  a_Yard_wagons : NoAttr K Z.cYard "wagons"
  x_Stuck : XiT K Z.cStuck "Stuck.__init__" s_Stuck_init ["self", "at"]
  i_Track : InT K Z.cTrack "Track.__init__" s_Track_init ["self", "blind"]
  m_Track_is_empty : MtT K Z.cTrack "is_empty" "Track.is_empty" s_Track_is_empty ["self"]
  m_Track_let_in : MtT K Z.cTrack "let_in" "Track.let_in" s_Track_let_in ["self", "wagon"]
  m_Track_let_out : MtT K Z.cTrack "let_out" "Track.let_out" s_Track_let_out ["self"]
  m_Track_standing : MtT K Z.cTrack "standing" "Track.standing" s_Track_standing ["self"]
  i_Yard : InT K Z.cYard "Yard.__init__" s_Yard_init ["self", "wagons", "blind"]
  m_Yard_carry_out : MtT K Z.cYard "carry_out" "Yard.carry_out" s_Yard_carry_out ["self", "steps"]
  m_Yard_carry_in : MtT K Z.cYard "carry_in" "Yard.carry_in" s_Yard_carry_in ["self", "at", "place"]
  m_Yard_carry_away : MtT K Z.cYard "carry_away" "Yard.carry_away" s_Yard_carry_away ["self", "at", "place"]
  m_Yard_standing_on : MtT K Z.cYard "standing_on" "Yard.standing_on" s_Yard_standing_on ["self", "place"]
  xc_Stuck : Xc.XC K Z.cStuck
  xty_Stuck : PySem.W.typeIn K (.ref Z.cStuck) = some (.type "type")
  xc_YardError : Xc.XC K Z.cYardError
  xty_YardError : PySem.W.typeIn K (.ref Z.cYardError) = some (.type "type")
  xt_Stuck_at : PySem.W.takerIn K Z.cStuck "at" = some none
  xf_Stuck_at : PySem.W.findIn K (.ref Z.cStuck) "at" = some none
  kit_Stuck_YardError : PySem.W.kitOne K (.ref Z.cStuck) (.ref Z.cYardError) = some true
  kit_Stuck_BadTrain : PySem.W.kitOne K (.ref Z.cStuck) (.ref Z.cBadTrain) = some false
  kit_Stuck_BadYard : PySem.W.kitOne K (.ref Z.cStuck) (.ref Z.cBadYard) = some false
  kit_Stuck_BadMoves : PySem.W.kitOne K (.ref Z.cStuck) (.ref Z.cBadMoves) = some false
  kit_Stuck_BadText : PySem.W.kitOne K (.ref Z.cStuck) (.ref Z.cBadText) = some false
  mro_Stuck_YardError : PySem.W.mroIn K Z.cStuck (.ref Z.cYardError) = some true
  yb_YardError : BaseInit K Z.cYardError
  g_MOST_TRACKS : ∃ t, mg "MOST_TRACKS" = some (.int 100000 t)
  g_WORDS : mg "WORDS" = some (.ref Z.gWORDS) ∧ ∀ H, SqT K H Z.gWORDS [.str "in", .str "out"]
end My
/-! sidings.checks: what each def promises where nothing is refused. -/
namespace My
open PySem L2
section
variable {P : Program} {w : World} {K : PySem.W.Frag} {mg : Str → Option Value} {base : Heap} {Z : Adr}

def sp_is_number : Sp := fun vs H Q _ => ∃ i, vs = [.int i] ∧ Q (.bl true) H
theorem sc_is_number : FnScope ["value"] ["value"] (defScope s_is_number) := ⟨rfl, rfl, rfl, by decide +kernel, rfl, by decide +kernel, by decide +kernel⟩
theorem C_is_number (T : Tx K mg Z) : Ctr P w K mg base CX0 1 "is_number" ["value"] sp_is_number := by
  refine ctr_of T.is_number fun f fd F => F.ok sc_is_number (fun vs H Q E h => ?_) (fun cdv A outer s H vs Q E hr h => ?_)
  · obtain ⟨i, rfl, _⟩ := h
    rfl
  · obtain ⟨i, rfl, q⟩ := h
    refine' ⟨_, ?hterm, ?_⟩
    case hterm =>
      refine' pss_one ?q1
      case q1 =>
        refine' ps_ret ?q2
        case q2 =>
          refine' pe_and ?q3 ?q4
          case q3 =>
            refine' pe_callB (callK_isinstance (K := K) (by rfl)) (by rfl) T.n_isinstance b_isinstance ?q5
            case q5 =>
              refine' pa_cons ?q6 ?q7
              case q6 => exact pv 0
              case q7 =>
                refine' pa_cons ?q8 ?q9
                case q8 => exact pe_tyN rfl T.n_int b_int
                case q9 => exact pa_nil
          case q4 =>
            refine' pe_one ?q10
            case q10 =>
              refine' pe_not ?q11
              case q11 =>
                refine' pe_callB (callK_isinstance (K := K) (by rfl)) (by rfl) T.n_isinstance b_isinstance ?q12
                case q12 =>
                  refine' pa_cons ?q13 ?q14
                  case q13 => exact pv 0
                  case q14 =>
                    refine' pa_cons ?q15 ?q16
                    case q15 => exact pe_tyN rfl T.n_bool b_bool
                    case q16 => exact pa_nil
    refine ⟨_, rfl, _, _, _, _, _, rfl, rfl, ty_inj, .int i, kit_same, _, rfl, iteT ?_⟩
    refine ⟨_, rfl, _, _, _, _, _, rfl, rfl, ty_inj, .int i, kit_int_bool, _, rfl, ?_⟩
    exact q

def sp_has_two_alike (K : PySem.W.Frag) : Sp := fun vs H Q _ => ∃ (a : Addr) (ns : List Int), vs = [.ref a] ∧ SqL K H a (ns.map V.int) ∧ ns.length < 64 ∧ ∀ H', Same H H' → Q (.bl (!decide ns.Nodup)) H'
theorem sc_has_two_alike : FnScope ["wagons", "in_order"] ["wagons"] (defScope s_has_two_alike) := ⟨rfl, rfl, rfl, by decide +kernel, rfl, by decide +kernel, by decide +kernel⟩
theorem C_has_two_alike (T : Tx K mg Z) : Ctr P w K mg base CX0 1 "has_two_alike" ["wagons"] (sp_has_two_alike K) := by
  refine ctr_of T.has_two_alike fun f fd F => F.ok sc_has_two_alike (fun vs H Q E h => ?_) (fun cdv A outer s H vs Q E hr h => ?_)
  · obtain ⟨a, ns, rfl, _⟩ := h
    rfl
  · obtain ⟨a, ns, rfl, hS, hz, k⟩ := h
    refine' ⟨_, ?hterm, ?_⟩
    case hterm =>
      refine' pss_cons ?q1 ?q2
      case q1 =>
        refine' ps_set (i := 1) sc_has_two_alike.nd rfl (Or.inl rfl) ?q3
        case q3 =>
          refine' pe_callB (callK_sorted (K := K) (by rfl)) (by rfl) T.n_sorted b_sorted ?q4
          case q4 =>
            refine' pa_cons ?q5 ?q6
            case q5 => exact pv 0
            case q6 => exact pa_nil
      case q2 =>
        refine' pss_one ?q7
        case q7 =>
          refine' ps_ret ?q8
          case q8 =>
            refine' pe_callB (callK_any (K := K) (by rfl) (by rfl)) (by rfl) T.n_any b_any ?q9
            case q9 =>
              refine' pa_cons ?q10 ?q11
              case q10 =>
                refine' pe_comp rfl (csc_of (sc := defScope s_has_two_alike) (N := ["wagons", "in_order"]) (cap := [none, none]) (N' := ["less", "greater"]) rfl rfl ⟨ rfl, by decide +kernel, by decide +kernel, by decide +kernel, rfl, by decide +kernel ⟩) ?q12 (fun _ _ _ _ => ?q13) (fun _ _ _ _ => ?q14) (fun _ _ _ _ => ?q15)
                case q12 =>
                  refine' pi_zipK (K := K) (by rfl) rfl T.n_zip ?q16
                  case q16 =>
                    refine' pa_cons ?q17 ?q18
                    case q17 => exact pv 1
                    case q18 =>
                      refine' pa_cons ?q19 ?q20
                      case q19 =>
                        refine' pe_slice (sl_K (K := K) (by rfl)) ?q21 ?q22 ?q23
                        case q21 => exact pv 1
                        case q22 =>
                          refine' po_some ?q24
                          case q24 => exact pe_int
                        case q23 => exact po_none
                      case q20 => exact pa_nil
                case q13 =>
                  refine' pg_tupK (K := K) (n := 2) (by rfl) rfl ?q25
                  case q25 =>
                    refine' pgs_cons ?q26 ?q27
                    case q26 => exact pg_name (i := 0) (show List.Nodup (["less", "greater"] : List Str) from by decide +kernel) (by rfl) (by exact Or.inl rfl)
                    case q27 =>
                      refine' pgs_cons ?q28 ?q29
                      case q28 => exact pg_name (i := 1) (show List.Nodup (["less", "greater"] : List Str) from by decide +kernel) (by rfl) (by exact Or.inl rfl)
                      case q29 => exact pgs_nil
                case q14 => exact pif_nil
                case q15 =>
                  refine' pe_cmpR (op_eqK (K := K) (by rfl) (by exact hr.units)) ?q30 ?q31 (nomark _)
                  case q30 => exact pv 0
                  case q31 => exact pv 1
              case q11 => exact pa_nil
    -- in_order = sorted(wagons)
    refine ⟨_, rfl, a, ns, rfl, hS, hz, fun l ns' hl hp hs => ?_⟩
    -- zip(in_order, in_order[1:])
    refine ⟨_, rfl, _, rfl, _, rfl, l, _, rfl, SqL.of upd_same, fun q hq => ?_⟩
    have elq : l ≠ q := ne_of_none upd_same hq
    have ecut : cutV (ns'.map V.int) (some 1) none = (ns'.drop 1).map V.int := by rw [show (1 : Int) = ((1 : Nat) : Int) from rfl, cutV_from, List.map_drop]
    rw [ecut]
    refine ⟨l, q, rfl, ⟨_, SqL.of (upd_get upd_same hq)⟩, ⟨_, SqL.of upd_same⟩, fun p hp' => ?_⟩
    have s0 : Same H (upd (upd (upd H l (.lst (ns'.map V.int))) q (.lst ((ns'.drop 1).map V.int))) p (.lst [])) := (Same.upd hl).trans ((Same.upd hq).trans (Same.upd hp'))
    have elp : l ≠ p := ne_of_none (upd_get upd_same hq) hp'
    have eqp : q ≠ p := ne_of_none upd_same hp'
    have hH1 : H p = none := ((Same.upd (o := .lst (ns'.map V.int)) hl).trans (Same.upd (o := .lst ((ns'.drop 1).map V.int)) hq)).free hp'
    refine turns_zip (K := K) (xs := ns'.map V.int) (ys := (ns'.drop 1).map V.int)
      (fun i σ H2 => (∃ a b, σ = [a, b]) ∧ Same H H2 ∧ H2 l = some (.lst (ns'.map V.int)) ∧ H2 q = some (.lst ((ns'.drop 1).map V.int)) ∧ H2 p = some (.lst (((adj ns').take i).map V.bl)))
      ⟨⟨_, _, rfl⟩, s0, by rw [upd_ne elp, upd_ne elq, upd_same], by rw [upd_ne eqp, upd_same], upd_same⟩ (fun i σ H2 h => ⟨SqL.of h.2.2.1, SqL.of h.2.2.2.1⟩) ?_ ?_
    · rintro i x y t σ H2 hx hy ⟨⟨a1, b1, rfl⟩, s2, h1, h2, h3⟩ ht
      obtain ⟨z, ez, rfl⟩ := getMap hx
      obtain ⟨z', ez', rfl⟩ := getMap hy
      refine ⟨t, _, rfl, SqT.of upd_same, rfl, _, _, rfl, _, _, rfl, rfl, ?_⟩
      refine ⟨_, rfl, _, rfl, .inl ⟨rfl, ?_⟩⟩
      have e3 : upd H2 t (.tup [.int z, .int z']) p = some (.lst (((adj ns').take i).map V.bl)) := upd_get h3 ht
      refine ⟨_, e3, ?_, ⟨_, _, rfl⟩, ?_, ?_, ?_, ?_⟩
      · rw [List.length_map]
        have := adj_len ns'
        have h64 : ns'.length < 64 := by rw [hp.length_eq]; exact hz
        have := List.length_take (i := i) (l := adj ns')
        exact small1000 (by omega)
      · intro b o e
        have : b ≠ p := ne_of_none e hH1
        rw [upd_ne this, upd_get (s2 b o e) ht]
      · rw [upd_ne elp]; exact upd_get h1 ht
      · rw [upd_ne eqp]; exact upd_get h2 ht
      · rw [upd_same, adj_take ez ez', List.map_append, decV]
        rfl
    · rintro σ H2 ⟨_, s2, _, _, h3⟩
      refine ⟨p, adj ns', rfl, SqL.of ?_, ?_⟩
      · rw [h3, List.take_of_length_le]
        rw [adj_len, List.length_map, List.length_map, List.length_drop]
        exact Nat.le_refl _
      · rw [adj_nodup hs, show decide ns'.Nodup = decide ns.Nodup from decide_eq_decide.mpr hp.nodup_iff]
        exact k H2 s2
def sp_checked_train : Sp := fun vs H Q _ => ∃ (a : Addr) (ns : List Int), vs = [.ref a] ∧ H a = some (.lst (ns.map V.int)) ∧ ns.length < 64 ∧ ns.Nodup ∧ ∀ p H', Same H H' → H p = none → H' p = some (.lst (ns.map V.int)) → Q (.ref p) H'
theorem sc_checked_train : FnScope ["train", "held", "wagon", "wagons"] ["train"] (defScope s_checked_train) := ⟨rfl, rfl, rfl, by decide +kernel, rfl, by decide +kernel, by decide +kernel⟩
theorem C_checked_train (T : Tx K mg Z) : Ctr P w K mg base CX0 3 "checked_train" ["train"] sp_checked_train := by
  refine ctr_of T.checked_train fun f fd F => F.ok sc_checked_train (fun vs H Q E h => ?_) (fun cdv A outer s H vs Q E hr h => ?_)
  · obtain ⟨a, ns, rfl, _⟩ := h
    rfl
  · obtain ⟨a, ns, rfl, ha, hz, hnd, k⟩ := h
    refine' ⟨_, ?hterm, ?_⟩
    case hterm =>
      refine' pss_cons ?q1 ?q2
      case q1 =>
        refine' ps_if ?q3 ?q4 ?q5
        case q3 =>
          refine' pt_not ?q6
          case q6 =>
            refine' pt_truK (K := K) (by rfl) ?q7 (fun _ => rfl)
            case q7 =>
              refine' pe_callB (callK_isinstance (K := K) (by rfl)) (by rfl) T.n_isinstance b_isinstance ?q8
              case q8 =>
                refine' pa_cons ?q9 ?q10
                case q9 => exact pv 0
                case q10 =>
                  refine' pa_cons ?q11 ?q12
                  case q11 => exact pe_tyN rfl T.n_list b_list
                  case q12 => exact pa_nil
        case q4 =>
          refine' pss_one ?q13
          case q13 => exact ps_never
        case q5 => exact pss_nil
      case q2 =>
        refine' pss_cons ?q14 ?q15
        case q14 =>
          refine' ps_set (i := 1) sc_checked_train.nd rfl (Or.inl rfl) ?q16
          case q16 =>
            refine' pe_op (op_addK (K := K) (by rfl)) ?q17 ?q18
            case q17 =>
              refine' pe_lst ?q19
              case q19 => exact pa_nil
            case q18 => exact pv 0
        case q15 =>
          refine' pss_cons ?q20 ?q21
          case q20 =>
            refine' ps_for HP rfl ?q22 ?q23 ?q24
            case q22 =>
              refine' pi_listK (K := K) (by rfl) ?q25
              case q25 => exact pv 1
            case q23 => exact pg_name (i := 2) sc_checked_train.nd (by rfl) (by exact Or.inl rfl)
            case q24 =>
              refine' pss_one ?q26
              case q26 =>
                refine' ps_if ?q27 ?q28 ?q29
                case q27 =>
                  refine' pt_not ?q30
                  case q30 =>
                    refine' pt_truK (K := K) (by rfl) ?q31 (fun _ => rfl)
                    case q31 =>
                      refine' pe_callC (C_is_number T) (hr.mono (by decide)) rfl ?q32
                      case q32 =>
                        refine' pa_cons ?q33 ?q34
                        case q33 => exact pv 2
                        case q34 => exact pa_nil
                case q28 =>
                  refine' pss_one ?q35
                  case q35 => exact ps_never
                case q29 => exact pss_nil
          case q21 =>
            refine' pss_cons ?q36 ?q37
            case q36 =>
              refine' ps_setComp (i := 3) sc_checked_train.nd rfl rfl rfl (csc_of (sc := defScope s_checked_train) (N := ["train", "held", "wagon", "wagons"]) (cap := [none]) (N' := ["wagon"]) rfl rfl ⟨ rfl, by decide +kernel, by decide +kernel, by decide +kernel, rfl, by decide +kernel ⟩) ?q38 (fun _ _ _ _ => ?q39) (fun _ _ _ _ => ?q40) (fun _ _ _ _ => ?q41)
              case q38 =>
                refine' pi_listK (K := K) (by rfl) ?q42
                case q42 => exact pv 1
              case q39 => exact pg_name (i := 0) (show List.Nodup (["wagon"] : List Str) from by decide +kernel) (by rfl) (by exact Or.inl rfl)
              case q40 => exact pif_nil
              case q41 =>
                refine' pe_callTy call_int1 (by rfl) T.n_int b_int ?q43
                case q43 =>
                  refine' pa_cons ?q44 ?q45
                  case q44 => exact pv 0
                  case q45 => exact pa_nil
            case q37 =>
              refine' pss_cons ?q46 ?q47
              case q46 =>
                refine' ps_if ?q48 ?q49 ?q50
                case q48 =>
                  refine' pt_truK (K := K) (by rfl) ?q51 (fun _ => rfl)
                  case q51 =>
                    refine' pe_callC (C_has_two_alike T) (hr.mono (by decide)) rfl ?q52
                    case q52 =>
                      refine' pa_cons ?q53 ?q54
                      case q53 => exact pv 3
                      case q54 => exact pa_nil
                case q49 =>
                  refine' pss_one ?q55
                  case q55 => exact ps_never
                case q50 => exact pss_nil
              case q47 =>
                refine' pss_one ?q56
                case q56 =>
                  refine' ps_ret ?q57
                  case q57 => exact pv 3
    have hz1 : ns.length ≤ 1000 := by omega
    refine ⟨_, rfl, _, _, _, _, _, rfl, rfl, ty_inj, .lst ha, kit_same, _, rfl, iteF ?_⟩
    -- held = [] + train
    refine ⟨Nat.zero_le _, fun e he => ⟨_, rfl, .inr (.inl ⟨e, a, [], ns.map V.int, rfl, rfl, upd_same, upd_get ha he, ?_, fun h hh => ?_⟩)⟩⟩
    · rw [List.length_nil, List.length_map, Nat.zero_add]
      exact Nat.le_of_lt (small1000 hz1)
    have sh : Same H (upd (upd H e (.lst [])) h (.lst (ns.map V.int))) := (Same.upd he).trans (Same.upd hh)
    -- for wagon in held
    refine ⟨_, rfl, h, rfl, ⟨_, SqL.of upd_same⟩, for_list (K := K) (a := h) (xs := ns.map V.int) (fun i σ H2 => (∃ v, σ = [some (.ref a), some (.ref h), v, none]) ∧ H2 = upd (upd H e (.lst [])) h (.lst (ns.map V.int)))
      ⟨⟨_, rfl⟩, rfl⟩ (fun i σ H2 _ ⟨_, z⟩ => by rw [z]; exact SqL.of upd_same) ?_ ?_⟩
    · rintro i x σ H2 hx ⟨⟨v, rfl⟩, rfl⟩
      obtain ⟨z, _, rfl⟩ := getMap hx
      refine ⟨_, rfl, z, rfl, _, rfl, iteF ?_⟩
      exact ⟨⟨_, rfl⟩, rfl⟩
    rintro σ H2 ⟨⟨v, rfl⟩, rfl⟩
    -- wagons = [int(wagon) for wagon in held]
    refine ⟨_, rfl, h, rfl, ⟨_, SqL.of upd_same⟩, fun p hp => ?_⟩
    have ehp : h ≠ p := ne_of_none upd_same hp
    have hHp : H p = none := sh.free hp
    refine turns_list (K := K) (a := h) (xs := ns.map V.int) (fun i σ H2 => (∃ v, σ = [v]) ∧ Same H H2 ∧ H2 h = some (.lst (ns.map V.int)) ∧ H2 p = some (.lst ((ns.take i).map V.int)))
      ⟨⟨_, rfl⟩, sh.trans (Same.upd hp), upd_get upd_same hp, upd_same⟩ (fun i σ H2 _ h => SqL.of h.2.2.1) ?_ ?_
    · rintro i x σ H2 hx ⟨⟨v, rfl⟩, s2, h1, h2⟩
      obtain ⟨z, ez, rfl⟩ := getMap hx
      refine ⟨_, rfl, .inl ⟨z, rfl, _, h2, ?_, ⟨_, rfl⟩, ?_, ?_, ?_⟩⟩
      · rw [List.length_map, List.length_take]
        exact small1000 (by omega)
      · intro b o e
        rw [upd_ne (ne_of_none e hHp)]
        exact s2 b o e
      · rw [upd_ne ehp]; exact h1
      · rw [upd_same, take_snoc ez, List.map_append]
        rfl
    rintro σ H2 ⟨_, s2, h1, h2⟩
    rw [List.length_map, List.take_length] at h2
    -- if has_two_alike(wagons)
    refine ⟨_, rfl, p, ns, rfl, SqL.of h2, hz, fun H3 s3 => ⟨_, rfl, ?_⟩⟩
    rw [decide_eq_true hnd]
    refine iteF ?_
    exact ⟨_, rfl, k p H3 (s2.trans s3) hHp (s3 _ _ h2)⟩

def sp_checked_track : Sp := fun vs H Q _ => ∃ t n : Int, vs = [.int t, .int n] ∧ 0 ≤ t ∧ t < n ∧ Q (.int t) H
theorem sc_checked_track : FnScope ["track", "many", "place"] ["track", "many"] (defScope s_checked_track) := ⟨rfl, rfl, rfl, by decide +kernel, rfl, by decide +kernel, by decide +kernel⟩
theorem C_checked_track (T : Tx K mg Z) : Ctr P w K mg base CX0 2 "checked_track" ["track", "many"] sp_checked_track := by
  refine ctr_of T.checked_track fun f fd F => F.ok sc_checked_track (fun vs H Q E h => ?_) (fun cdv A outer s H vs Q E hr h => ?_)
  · obtain ⟨t, n, rfl, _⟩ := h
    rfl
  · obtain ⟨t, n, rfl, h1, h2, q⟩ := h
    refine' ⟨_, ?hterm, ?_⟩
    case hterm =>
      refine' pss_cons ?q1 ?q2
      case q1 =>
        refine' ps_if ?q3 ?q4 ?q5
        case q3 =>
          refine' pt_not ?q6
          case q6 =>
            refine' pt_truK (K := K) (by rfl) ?q7 (fun _ => rfl)
            case q7 =>
              refine' pe_callC (C_is_number T) (hr.mono (by decide)) rfl ?q8
              case q8 =>
                refine' pa_cons ?q9 ?q10
                case q9 => exact pv 0
                case q10 => exact pa_nil
        case q4 =>
          refine' pss_one ?q11
          case q11 => exact ps_never
        case q5 => exact pss_nil
      case q2 =>
        refine' pss_cons ?q12 ?q13
        case q12 =>
          refine' ps_set (i := 2) sc_checked_track.nd rfl (Or.inl rfl) ?q14
          case q14 =>
            refine' pe_callTy call_int1 (by rfl) T.n_int b_int ?q15
            case q15 =>
              refine' pa_cons ?q16 ?q17
              case q16 => exact pv 0
              case q17 => exact pa_nil
        case q13 =>
          refine' pss_cons ?q18 ?q19
          case q18 =>
            refine' ps_if ?q20 ?q21 ?q22
            case q20 =>
              refine' PW.pt ?q23
              case q23 =>
                refine' pw_or ?q24 ?q25
                case q24 =>
                  refine' pt_cmpR op_lt ?q26 ?q27 (nomark _)
                  case q26 => exact pv 2
                  case q27 => exact pe_int
                case q25 =>
                  refine' pw_or1 ?q28
                  case q28 =>
                    refine' pt_cmpR op_ge ?q29 ?q30 (nomark _)
                    case q29 => exact pv 2
                    case q30 => exact pv 1
            case q21 =>
              refine' pss_one ?q31
              case q31 => exact ps_never
            case q22 => exact pss_nil
          case q19 =>
            refine' pss_one ?q32
            case q32 =>
              refine' ps_ret ?q33
              case q33 => exact pv 2
    refine ⟨_, rfl, t, rfl, _, rfl, iteF ?_⟩
    refine ⟨_, rfl, .inl ⟨t, rfl, ?_⟩⟩
    refine ⟨_, rfl, t, 0, rfl, rfl, _, rfl, ?_⟩
    rw [decide_eq_false (show ¬ t < 0 by omega)]
    refine iteF ⟨_, rfl, _, rfl, t, n, rfl, rfl, _, rfl, ?_⟩
    rw [decide_eq_false (show ¬ n ≤ t by omega)]
    exact iteF ⟨_, rfl, q⟩

def sp_checked_word : Sp := fun vs H Q _ => ∃ b, vs = [.str (deed b)] ∧ ∀ H', Same H H' → Q (.str (deed b)) H'
theorem sc_checked_word : FnScope ["word", "plain"] ["word"] (defScope s_checked_word) := ⟨rfl, rfl, rfl, by decide +kernel, rfl, by decide +kernel, by decide +kernel⟩
theorem C_checked_word (T : Tx K mg Z) : Ctr P w K mg base CX0 1 "checked_word" ["word"] sp_checked_word := by
  refine ctr_of T.checked_word fun f fd F => F.ok sc_checked_word (fun vs H Q E h => ?_) (fun cdv A outer s H vs Q E hr h => ?_)
  · obtain ⟨b, rfl, _⟩ := h
    rfl
  · obtain ⟨b, rfl, k⟩ := h
    refine' ⟨_, ?hterm, ?_⟩
    case hterm =>
      refine' pss_cons ?q1 ?q2
      case q1 =>
        refine' ps_if ?q3 ?q4 ?q5
        case q3 =>
          refine' pt_not ?q6
          case q6 =>
            refine' pt_truK (K := K) (by rfl) ?q7 (fun _ => rfl)
            case q7 =>
              refine' pe_callB (callK_isinstance (K := K) (by rfl)) (by rfl) T.n_isinstance b_isinstance ?q8
              case q8 =>
                refine' pa_cons ?q9 ?q10
                case q9 => exact pv 0
                case q10 =>
                  refine' pa_cons ?q11 ?q12
                  case q11 => exact pe_tyN rfl T.n_str b_str
                  case q12 => exact pa_nil
        case q4 =>
          refine' pss_one ?q13
          case q13 => exact ps_never
        case q5 => exact pss_nil
      case q2 =>
        refine' pss_cons ?q14 ?q15
        case q14 =>
          refine' ps_set (i := 1) sc_checked_word.nd rfl (Or.inl rfl) ?q16
          case q16 =>
            refine' pe_bmK (K := K) (by rfl) PySem.F.plainAttrs_str PySem.F.slot_str_join PySem.F.type_str_join (mt_joinK (K := K) (by rfl)) ?q17 ?q18
            case q17 => exact pe_str
            case q18 =>
              refine' pa_cons ?q19 ?q20
              case q19 =>
                refine' pe_lst ?q21
                case q21 =>
                  refine' pa_cons ?q22 ?q23
                  case q22 => exact pv 0
                  case q23 => exact pa_nil
              case q20 => exact pa_nil
        case q15 =>
          refine' pss_cons ?q24 ?q25
          case q24 =>
            refine' ps_if ?q26 ?q27 ?q28
            case q26 =>
              refine' pt_cmpR (op_notInK (K := K) (by rfl)) ?q29 ?q30 (by with_unfolding_all rfl)
              case q29 => exact pv 1
              case q30 => exact pe_clsN (by rfl) T.g_WORDS.1
            case q27 =>
              refine' pss_one ?q31
              case q31 => exact ps_never
            case q28 => exact pss_nil
          case q25 =>
            refine' pss_one ?q32
            case q32 =>
              refine' ps_ret ?q33
              case q33 => exact pv 1
    refine ⟨_, rfl, _, _, _, _, _, rfl, rfl, ty_inj, .str _, kit_same, _, rfl, iteF ?_⟩
    refine ⟨rfl, _, rfl, (by show 1 ≤ sizeLine; decide), fun l hl => ⟨_, l, [deed b], rfl, rfl, SqL.of upd_same, ?_, ?_⟩⟩
    · have := deed_len b
      show ((deed b).length + 0) + 1 * 0 ≤ 16777216
      omega
    rw [join_one]
    refine ⟨_, rfl, Z.gWORDS, _, rfl, .inr (T.g_WORDS.2 _), rfl, rfl, _, rfl, ?_⟩
    rw [deed_in]
    exact iteF ⟨_, rfl, k _ (Same.upd hl)⟩

def sp_checked_move : Sp := fun vs H Q _ => ∃ (m : Addr) (b : Bool) (t n : Int), vs = [.ref m, .int n] ∧ H m = some (.tup [.str (deed b), .int t]) ∧ 0 ≤ t ∧ t < n ∧
  ∀ p H', Same H H' → H p = none → H' p = some (.tup [.str (deed b), .int t]) → Q (.ref p) H'
theorem sc_checked_move : FnScope ["move", "many", "pair"] ["move", "many"] (defScope s_checked_move) := ⟨rfl, rfl, rfl, by decide +kernel, rfl, by decide +kernel, by decide +kernel⟩
theorem C_checked_move (T : Tx K mg Z) : Ctr P w K mg base CX0 3 "checked_move" ["move", "many"] sp_checked_move := by
  refine ctr_of T.checked_move fun f fd F => F.ok sc_checked_move (fun vs H Q E h => ?_) (fun cdv A outer s H vs Q E hr h => ?_)
  · obtain ⟨m, b, t, n, rfl, _⟩ := h
    rfl
  · obtain ⟨m, b, t, n, rfl, hm, h1, h2, k⟩ := h
    refine' ⟨_, ?hterm, ?_⟩
    case hterm =>
      refine' pss_cons ?q1 ?q2
      case q1 =>
        refine' ps_if ?q3 ?q4 ?q5
        case q3 =>
          refine' pt_not ?q6
          case q6 =>
            refine' pt_truK (K := K) (by rfl) ?q7 (fun _ => rfl)
            case q7 =>
              refine' pe_callB (callK_isinstance (K := K) (by rfl)) (by rfl) T.n_isinstance b_isinstance ?q8
              case q8 =>
                refine' pa_cons ?q9 ?q10
                case q9 => exact pv 0
                case q10 =>
                  refine' pa_cons ?q11 ?q12
                  case q11 => exact pe_tyN rfl T.n_tuple b_tuple
                  case q12 => exact pa_nil
        case q4 =>
          refine' pss_one ?q13
          case q13 => exact ps_never
        case q5 => exact pss_nil
      case q2 =>
        refine' pss_cons ?q14 ?q15
        case q14 =>
          refine' ps_set (i := 2) sc_checked_move.nd rfl (Or.inl rfl) ?q16
          case q16 =>
            refine' pe_op (op_addK (K := K) (by rfl)) ?q17 ?q18
            case q17 =>
              refine' pe_tup ?q19
              case q19 => exact pa_nil
            case q18 => exact pv 0
        case q15 =>
          refine' pss_cons ?q20 ?q21
          case q20 =>
            refine' ps_if ?q22 ?q23 ?q24
            case q22 =>
              refine' pt_cmpR (op_neK (K := K) (by rfl) (by exact hr.units)) ?q25 ?q26 (nomark _)
              case q25 =>
                refine' pe_callB (callK_len (K := K) (by rfl)) (by rfl) T.n_len b_len ?q27
                case q27 =>
                  refine' pa_cons ?q28 ?q29
                  case q28 => exact pv 2
                  case q29 => exact pa_nil
              case q26 => exact pe_int
            case q23 =>
              refine' pss_one ?q30
              case q30 => exact ps_never
            case q24 => exact pss_nil
          case q21 =>
            refine' pss_one ?q31
            case q31 =>
              refine' ps_ret ?q32
              case q32 =>
                refine' pe_tup ?q33
                case q33 =>
                  refine' pa_cons ?q34 ?q35
                  case q34 =>
                    refine' pe_callC (C_checked_word T) (hr.mono (by decide)) rfl ?q36
                    case q36 =>
                      refine' pa_cons ?q37 ?q38
                      case q37 =>
                        refine' pe_ix (ix_K (K := K) (by rfl)) ?q39 ?q40 (fun _ _ => rfl)
                        case q39 => exact pv 2
                        case q40 => exact pe_int
                      case q38 => exact pa_nil
                  case q35 =>
                    refine' pa_cons ?q41 ?q42
                    case q41 =>
                      refine' pe_callC (C_checked_track T) (hr.mono (by decide)) rfl ?q43
                      case q43 =>
                        refine' pa_cons ?q44 ?q45
                        case q44 =>
                          refine' pe_ix (ix_K (K := K) (by rfl)) ?q46 ?q47 (fun _ _ => rfl)
                          case q46 => exact pv 2
                          case q47 => exact pe_int
                        case q45 =>
                          refine' pa_cons ?q48 ?q49
                          case q48 => exact pv 1
                          case q49 => exact pa_nil
                    case q42 => exact pa_nil
    refine ⟨_, rfl, _, _, _, _, _, rfl, rfl, ty_inj, .tup hm, kit_same, _, rfl, iteF ?_⟩
    -- pair = () + move
    refine ⟨Nat.zero_le _, fun e he => ⟨_, rfl, .inr (.inr (.inl ⟨e, m, [], _, rfl, rfl, SqT.of upd_same, SqT.of (upd_get hm he), (by show 0 + 2 ≤ sizeLine; decide), fun _ => ?_, fun z => absurd rfl z, fun z => absurd rfl z⟩))⟩⟩
    have hm1 : upd H e (.tup []) m = some (.tup [.str (deed b), .int t]) := upd_get hm he
    refine ⟨_, rfl, _, 2, rfl, .inr ⟨_, SqT.of hm1, rfl⟩, .inl ⟨rfl, _, rfl, iteNS rfl ?_⟩⟩
    -- (checked_word(pair[0]), checked_track(pair[1], many))
    refine ⟨_, rfl, .inr ⟨m, _, 0, _, rfl, rfl, SqT.of hm1, rfl, b, rfl, fun H2 s2 => ?_⟩⟩
    refine ⟨_, rfl, .inr ⟨m, _, 1, _, rfl, rfl, SqT.of (s2 _ _ hm1), rfl, _, rfl, t, n, rfl, h1, h2, (by show 2 ≤ sizeLine; decide), fun p hp => ?_⟩⟩
    have s3 : Same H H2 := (Same.upd he).trans s2
    exact k p _ (s3.trans (Same.upd hp)) (s3.free hp) upd_same
end
end My
/-! sidings.yards: a track's methods, run where no move is stuck. -/
namespace My
open PySem L2
section
variable {P : Program} {w : World} {K : PySem.W.Frag} {mg : Str → Option Value} {base : Heap} {Z : Adr}

def sp_checked_moves : Sp := fun vs H Q _ => ∃ (a : Addr) (ms : List Yd.Mv) (n : Nat), vs = [.ref a, .int n] ∧ MovesAt H a ms ∧ ms.length ≤ 1000 ∧ (∀ m ∈ ms, m.2 < n) ∧ ∀ p H', Same H H' → H p = none → MovesAt H' p ms → Q (.ref p) H'
theorem sc_checked_moves : FnScope ["moves", "many"] ["moves", "many"] (defScope s_checked_moves) := ⟨rfl, rfl, rfl, by decide +kernel, rfl, by decide +kernel, by decide +kernel⟩
theorem C_checked_moves (T : Tx K mg Z) : Ctr P w K mg base CX0 4 "checked_moves" ["moves", "many"] sp_checked_moves := by
  refine ctr_of T.checked_moves fun f fd F => F.ok sc_checked_moves (fun vs H Q E h => ?_) (fun cdv A outer s H vs Q E hr h => ?_)
  · obtain ⟨a, ms, n, rfl, _⟩ := h
    rfl
  · obtain ⟨a, ms, n, rfl, ⟨rs, ha, hp⟩, hz, hn, k⟩ := h
    refine' ⟨_, ?hterm, ?_⟩
    case hterm =>
      refine' pss_cons ?q1 ?q2
      case q1 =>
        refine' ps_if ?q3 ?q4 ?q5
        case q3 =>
          refine' pt_not ?q6
          case q6 =>
            refine' pt_truK (K := K) (by rfl) ?q7 (fun _ => rfl)
            case q7 =>
              refine' pe_callB (callK_isinstance (K := K) (by rfl)) (by rfl) T.n_isinstance b_isinstance ?q8
              case q8 =>
                refine' pa_cons ?q9 ?q10
                case q9 => exact pv 0
                case q10 =>
                  refine' pa_cons ?q11 ?q12
                  case q11 => exact pe_tyN rfl T.n_list b_list
                  case q12 => exact pa_nil
        case q4 =>
          refine' pss_one ?q13
          case q13 => exact ps_never
        case q5 => exact pss_nil
      case q2 =>
        refine' pss_one ?q14
        case q14 =>
          refine' ps_ret ?q15
          case q15 =>
            refine' pe_comp rfl (csc_of (sc := defScope s_checked_moves) (N := ["moves", "many"]) (cap := [none, some 1]) (N' := ["move", "many"]) rfl rfl ⟨ rfl, by decide +kernel, by decide +kernel, by decide +kernel, rfl, by decide +kernel ⟩) ?q16 (fun _ _ _ _ => ?q17) (fun _ _ _ _ => ?q18) (fun _ _ _ _ => ?q19)
            case q16 =>
              refine' pi_listK (K := K) (by rfl) ?q20
              case q20 =>
                refine' pe_op (op_addK (K := K) (by rfl)) ?q21 ?q22
                case q21 =>
                  refine' pe_lst ?q23
                  case q23 => exact pa_nil
                case q22 => exact pv 0
            case q17 => exact pg_name (i := 0) (show List.Nodup (["move", "many"] : List Str) from by decide +kernel) (by rfl) (by exact Or.inl rfl)
            case q18 => exact pif_nil
            case q19 =>
              refine' pe_callC (C_checked_move T) (hr.mono (by decide)) rfl ?q24
              case q24 =>
                refine' pa_cons ?q25 ?q26
                case q25 => exact pv 0
                case q26 =>
                  refine' pa_cons ?q27 ?q28
                  case q27 => exact pv 1
                  case q28 => exact pa_nil
    have hlen : rs.length = ms.length := Paired.length hp
    refine ⟨_, rfl, _, _, _, _, _, rfl, rfl, ty_inj, .lst ha, kit_same, _, rfl, iteF ?_⟩
    -- [] + moves
    refine ⟨Nat.zero_le _, fun e he => ⟨_, rfl, .inr (.inl ⟨e, a, [], rs.map V.ref, rfl, rfl, upd_same, upd_get ha he, ?_, fun h hh => ?_⟩)⟩⟩
    · rw [List.length_nil, List.length_map, Nat.zero_add]
      exact Nat.le_of_lt (small1000 (by omega))
    refine ⟨h, rfl, ⟨_, SqL.of upd_same⟩, fun p hp1 => ?_⟩
    have ehp : h ≠ p := ne_of_none upd_same hp1
    have sh : Same H (upd (upd H e (.lst [])) h (.lst (rs.map V.ref))) := (Same.upd he).trans (Same.upd hh)
    have hHp : H p = none := sh.free hp1
    refine turns_list (K := K) (a := h) (xs := rs.map V.ref) (fun i σ H2 => (∃ v, σ = [v, some (.int n)]) ∧ Same H H2 ∧ H2 h = some (.lst (rs.map V.ref)) ∧ ∃ qs : List Addr, H2 p = some (.lst (qs.map V.ref)) ∧ Paired (MvT H2) qs (ms.take i))
      ⟨⟨_, rfl⟩, sh.trans (Same.upd hp1), upd_get upd_same hp1, [], upd_same, .nil⟩ (fun i σ H2 _ h => SqL.of h.2.2.1) ?_ ?_
    · rintro i x σ H2 hx ⟨⟨v, rfl⟩, s2, h1, qs, h2, h3⟩
      obtain ⟨r, er, rfl⟩ := getMap hx
      obtain ⟨m, em, hm⟩ := Paired.get hp er
      have hq : qs.length ≤ ms.length := by
        rw [Paired.length h3, List.length_take]
        omega
      refine ⟨_, rfl, _, rfl, r, m.1, m.2, n, rfl, s2 _ _ hm, Int.natCast_nonneg _, ?_, fun q H3 s3 hq3 hq3' => ?_⟩
      · have := hn m (List.mem_of_getElem? em)
        omega
      refine ⟨_, s3 _ _ h2, ?_, ⟨_, rfl⟩, ?_, ?_, qs ++ [q], ?_, ?_⟩
      · rw [List.length_map]
        exact small1000 (by omega)
      · intro b o eb
        rw [upd_ne (ne_of_none eb hHp)]
        exact s3 _ _ (s2 _ _ eb)
      · rw [upd_ne ehp]
        exact s3 _ _ h1
      · rw [upd_same, List.map_append]
        rfl
      · rw [take_snoc em]
        have np : ∀ r' m', MvT H3 r' m' → MvT (upd H3 p (.lst (qs.map V.ref ++ [.ref q]))) r' m' := fun r' m' z => by
          unfold MvT
          rw [upd_ne (ne_of z (s3 _ _ h2) (by intro w'; cases w'))]
          exact z
        exact Paired.snoc' (Paired.imp (fun _ _ z => np _ _ (MvT.same s3 z)) h3) (np _ _ hq3')
    · rintro σ H2 ⟨_, s2, h1, qs, h2, h3⟩
      rw [List.length_map, hlen, List.take_length] at h3
      exact k p H2 s2 hHp ⟨qs, h2, h3⟩

/-! ### Track -/
def tfl (b : Bool) (l : Addr) (g : Int) : List (Str × V) := [("blind", .bl b), ("came", .ref l), ("gone_ahead", .int g)]
theorem tfl_blind (b : Bool) (l : Addr) (g : Int) : (tfl b l g).lookup ("blind" : Str) = some (.bl b) := rfl
theorem tfl_came (b : Bool) (l : Addr) (g : Int) : (tfl b l g).lookup ("came" : Str) = some (.ref l) := rfl
theorem tfl_gone (b : Bool) (l : Addr) (g : Int) : (tfl b l g).lookup ("gone_ahead" : Str) = some (.int g) := rfl
theorem tfl_put (b : Bool) (l : Addr) (g g' : Int) : putF "gone_ahead" (.int g') (tfl b l g) = tfl b l g' := rfl
theorem tfl_new (b : Bool) (l : Addr) : putF "gone_ahead" (.int 0) (putF "came" (.ref l) (putF "blind" (.bl b) [])) = tfl b l 0 := rfl
theorem tfl_no (b : Bool) (l : Addr) (g : Int) : (tfl b l g).lookup ("is_empty" : Str) = none ∧ (tfl b l g).lookup ("let_in" : Str) = none ∧ (tfl b l g).lookup ("let_out" : Str) = none ∧ (tfl b l g).lookup ("standing" : Str) = none := ⟨rfl, rfl, rfl, rfl⟩

def sp_Track_init (C : Addr) : Sp := fun vs H Q _ => ∃ (p dx : Addr) (b : Bool), vs = [.ref p, .bl b] ∧ H p = some (.ins C dx []) ∧
  ∀ (l : Addr) (H' : Hp), H l = none → (∀ c o, H c = some o → c ≠ p → H' c = some o) → H' p = some (.ins C dx (tfl b l 0)) → H' l = some (.lst []) → Q .non H'
theorem sc_Track_init : FnScope ["self", "blind"] ["self", "blind"] (defScope s_Track_init) := ⟨rfl, rfl, rfl, by decide +kernel, rfl, by decide +kernel, by decide +kernel⟩
theorem M_Track (T : Tx K mg Z) : CtrC P w K mg base CX0 1 "Track" Z.cTrack ["self", "blind"] (sp_Track_init Z.cTrack) := by
  refine ctrC_of T.c_Track T.i_Track fun f fd F => F.ok sc_Track_init (fun vs H Q E h => ?_) (fun cdv A outer s H vs Q E hr h => ?_)
  · obtain ⟨p, dx, b, rfl, _⟩ := h
    rfl
  · obtain ⟨p, dx, b, rfl, hp, k⟩ := h
    refine' ⟨_, ?hterm, ?_⟩
    case hterm =>
      refine' pss_cons ?q1 ?q2
      case q1 =>
        refine' ps_fldK (K := K) (by rfl) ?q3 ?q4 rfl
        case q3 => exact pv 0
        case q4 => exact pv 1
      case q2 =>
        refine' pss_cons ?q5 ?q6
        case q5 =>
          refine' ps_fldK (K := K) (by rfl) ?q7 ?q8 rfl
          case q7 => exact pv 0
          case q8 =>
            refine' pe_lst ?q9
            case q9 => exact pa_nil
        case q6 =>
          refine' pss_one ?q10
          case q10 =>
            refine' ps_fldK (K := K) (by rfl) ?q11 ?q12 rfl
            case q11 => exact pv 0
            case q12 => exact pe_int
    refine ⟨_, rfl, _, rfl, p, _, dx, _, rfl, hp, T.k_Track, T.a_Track_blind, (by show 0 < 1000; decide), ?_⟩
    refine ⟨Nat.zero_le _, fun l hl => ?_⟩
    have npl : p ≠ l := ne_of_none upd_same hl
    have hHl : H l = none := by rw [upd_ne npl.symm] at hl; exact hl
    refine ⟨_, rfl, p, _, dx, _, rfl, by rw [upd_ne npl, upd_same], T.k_Track, T.a_Track_came, (by show 1 < 1000; decide), ?_⟩
    refine ⟨_, rfl, p, _, dx, _, rfl, upd_same, T.k_Track, T.a_Track_gone_ahead, (by show 2 < 1000; decide), ?_⟩
    rw [tfl_new]
    refine k l _ hHl (fun c o e hc => ?_) upd_same ?_
    · rw [upd_ne hc, upd_ne hc, upd_ne (ne_of_none e hHl), upd_ne hc]
      exact e
    · rw [upd_ne npl.symm, upd_ne npl.symm, upd_same]

/-- a track at p: its list at l holds what came, g of them are gone -/
def TrackAt (C : Addr) (b : Bool) (H : Hp) (p l : Addr) (c : List Int) (g : Nat) : Prop := (∃ dx, H p = some (.ins C dx (tfl b l (g : Int)))) ∧ H l = some (.lst (c.map V.int))
def sp_is_empty (C : Addr) : Sp := fun vs H Q _ => ∃ (p l : Addr) (b : Bool) (c : List Int) (g : Nat), vs = [.ref p] ∧ TrackAt C b H p l c g ∧ Q (.bl (decide (g = c.length))) H
theorem sc_Track_is_empty : FnScope ["self"] ["self"] (defScope s_Track_is_empty) := ⟨rfl, rfl, rfl, by decide +kernel, rfl, by decide +kernel, by decide +kernel⟩
theorem m_is_empty (T : Tx K mg Z) : CtrM P w K mg base CX0 1 Z.cTrack "is_empty" ["self"] (sp_is_empty Z.cTrack) := by
  refine ctrM_of T.k_Track T.m_Track_is_empty fun f fd F => F.ok sc_Track_is_empty (fun vs H Q E h => ?_) (fun cdv A outer s H vs Q E hr h => ?_)
  · obtain ⟨p, l, b, c, g, rfl, _⟩ := h
    rfl
  · obtain ⟨p, l, b, c, g, rfl, ⟨⟨dx, h1⟩, h2⟩, q⟩ := h
    refine' ⟨_, ?hterm, ?_⟩
    case hterm =>
      refine' pss_one ?q1
      case q1 =>
        refine' ps_ret ?q2
        case q2 =>
          refine' pe_cmpR (op_eqK (K := K) (by rfl) (by exact hr.units)) ?q3 ?q4 (nomark _)
          case q3 =>
            refine' pe_fldK (K := K) (by rfl) ?q5 rfl
            case q5 => exact pv 0
          case q4 =>
            refine' pe_callB (callK_len (K := K) (by rfl)) (by rfl) T.n_len b_len ?q6
            case q6 =>
              refine' pa_cons ?q7 ?q8
              case q7 =>
                refine' pe_fldK (K := K) (by rfl) ?q9 rfl
                case q9 => exact pv 0
              case q8 => exact pa_nil
    refine ⟨_, rfl, p, _, dx, _, _, rfl, h1, T.k_Track, T.a_Track_gone_ahead, tfl_gone _ _ _, _, rfl, p, _, dx, _, _, rfl, h1, T.k_Track, T.a_Track_came, tfl_came _ _ _, _, _, rfl, .inl ⟨_, SqL.of h2, rfl⟩, .inl ⟨rfl, ?_⟩⟩
    rw [decV, List.length_map, show decide ((g : Int) = (c.length : Int)) = decide (g = c.length) from decide_eq_decide.mpr (by omega)]
    exact q

def sp_let_in (C : Addr) : Sp := fun vs H Q _ => ∃ (p l : Addr) (b : Bool) (c : List Int) (g : Nat) (x : Int), vs = [.ref p, .int x] ∧ TrackAt C b H p l c g ∧ c.length ≤ 1000 ∧ Q .non (upd H l (.lst ((c ++ [x]).map V.int)))
theorem sc_Track_let_in : FnScope ["self", "wagon"] ["self", "wagon"] (defScope s_Track_let_in) := ⟨rfl, rfl, rfl, by decide +kernel, rfl, by decide +kernel, by decide +kernel⟩
theorem m_let_in (T : Tx K mg Z) : CtrM P w K mg base CX0 1 Z.cTrack "let_in" ["self", "wagon"] (sp_let_in Z.cTrack) := by
  refine ctrM_of T.k_Track T.m_Track_let_in fun f fd F => F.ok sc_Track_let_in (fun vs H Q E h => ?_) (fun cdv A outer s H vs Q E hr h => ?_)
  · obtain ⟨p, l, b, c, g, x, rfl, _⟩ := h
    rfl
  · obtain ⟨p, l, b, c, g, x, rfl, ⟨⟨dx, h1⟩, h2⟩, hz, q⟩ := h
    refine' ⟨_, ?hterm, ?_⟩
    case hterm =>
      refine' pss_one ?q1
      case q1 =>
        refine' ps_expr ?q2
        case q2 =>
          refine' pe_bmK (K := K) (by rfl) PySem.F.plainAttrs_list PySem.F.slot_list_append PySem.F.type_list_append mt_append ?q3 ?q4
          case q3 =>
            refine' pe_fldK (K := K) (by rfl) ?q5 rfl
            case q5 => exact pv 0
          case q4 =>
            refine' pa_cons ?q6 ?q7
            case q6 => exact pv 1
            case q7 => exact pa_nil
    refine ⟨_, rfl, p, _, dx, _, _, rfl, h1, T.k_Track, T.a_Track_came, tfl_came _ _ _, .inl ⟨rfl, _, SqL.of h2⟩, _, rfl, l, _, _, rfl, rfl, h2, by rw [List.length_map]; exact small1000 hz, ?_⟩
    rw [List.map_append] at q
    exact q

def sp_let_out (C : Addr) : Sp := fun vs H Q _ => ∃ (p l : Addr) (b : Bool) (c : List Int) (g : Nat) (x : Int), vs = [.ref p] ∧ TrackAt C b H p l c g ∧
  ((b = true ∧ c[c.length - 1]? = some x ∧ Q (.int x) (upd H l (.lst (c.dropLast.map V.int)))) ∨ (b = false ∧ c[g]? = some x ∧ ∀ dx, H p = some (.ins C dx (tfl b l (g : Int))) → Q (.int x) (upd H p (.ins C dx (tfl b l ((g + 1 : Nat) : Int))))))
theorem sc_Track_let_out : FnScope ["self", "wagon"] ["self"] (defScope s_Track_let_out) := ⟨rfl, rfl, rfl, by decide +kernel, rfl, by decide +kernel, by decide +kernel⟩
theorem m_let_out (T : Tx K mg Z) : CtrM P w K mg base CX0 1 Z.cTrack "let_out" ["self"] (sp_let_out Z.cTrack) := by
  refine ctrM_of T.k_Track T.m_Track_let_out fun f fd F => F.ok sc_Track_let_out (fun vs H Q E h => ?_) (fun cdv A outer s H vs Q E hr h => ?_)
  · obtain ⟨p, l, b, c, g, x, rfl, _⟩ := h
    rfl
  · obtain ⟨p, l, b, c, g, x, rfl, ⟨⟨dx, h1⟩, h2⟩, h3⟩ := h
    refine' ⟨_, ?hterm, ?_⟩
    case hterm =>
      refine' pss_cons ?q1 ?q2
      case q1 =>
        refine' ps_if ?q3 ?q4 ?q5
        case q3 =>
          refine' pt_truK (K := K) (by rfl) ?q6 (fun _ => rfl)
          case q6 =>
            refine' pe_fldK (K := K) (by rfl) ?q7 rfl
            case q7 => exact pv 0
        case q4 =>
          refine' pss_one ?q8
          case q8 =>
            refine' ps_ret ?q9
            case q9 =>
              refine' pe_bmK0 (K := K) (by rfl) PySem.F.plainAttrs_list PySem.F.slot_list_pop PySem.F.type_list_pop mt_popU ?q10
              case q10 =>
                refine' pe_fldK (K := K) (by rfl) ?q11 rfl
                case q11 => exact pv 0
        case q5 => exact pss_nil
      case q2 =>
        refine' pss_cons ?q12 ?q13
        case q12 =>
          refine' ps_set (i := 1) sc_Track_let_out.nd rfl (Or.inl rfl) ?q14
          case q14 =>
            refine' pe_ix (ix_K (K := K) (by rfl)) ?q15 ?q16 (fun _ _ => rfl)
            case q15 =>
              refine' pe_fldK (K := K) (by rfl) ?q17 rfl
              case q17 => exact pv 0
            case q16 =>
              refine' pe_fldK (K := K) (by rfl) ?q18 rfl
              case q18 => exact pv 0
        case q13 =>
          refine' pss_cons ?q19 ?q20
          case q19 =>
            refine' ps_fldaugK (K := K) (by rfl) ?q21 ?q22 in_add
            case q21 => exact pv 0
            case q22 => exact pe_int
          case q20 =>
            refine' pss_one ?q23
            case q23 =>
              refine' ps_ret ?q24
              case q24 => exact pv 1
    refine ⟨_, rfl, p, _, dx, _, _, rfl, h1, T.k_Track, T.a_Track_blind, tfl_blind _ _ _, _, rfl, ?_⟩
    rcases h3 with ⟨rfl, hx, q⟩ | ⟨rfl, hx, q⟩
    · refine iteT ⟨_, rfl, p, _, dx, _, _, rfl, h1, T.k_Track, T.a_Track_came, tfl_came _ _ _, .inl ⟨rfl, _, SqL.of h2⟩, .inl ⟨l, _, .int x, rfl, rfl, h2, ?_, ?_⟩⟩
      · rw [List.length_map, List.getElem?_map, hx]
        rfl
      · rw [List.map_dropLast] at q
        exact q
    · refine iteF ⟨_, rfl, p, _, dx, _, _, rfl, h1, T.k_Track, T.a_Track_came, tfl_came _ _ _, _, rfl, p, _, dx, _, _, rfl, h1, T.k_Track, T.a_Track_gone_ahead, tfl_gone _ _ _, .inl ⟨l, _, g, .int x, rfl, rfl, SqL.of h2, atI_nat ?_, ?_⟩⟩
      · rw [List.getElem?_map, hx]
        rfl
      refine ⟨_, rfl, p, _, dx, _, _, rfl, h1, T.k_Track, T.a_Track_gone_ahead, tfl_gone _ _ _, g, 1, rfl, rfl, dx, _, h1, (by show 3 < 1000; decide), _, rfl, ?_⟩
      rw [tfl_put]
      exact q dx h1

end
end My
/-! sidings.yards.Yard: its tracks in a dict, made when their first wagons come. -/
namespace My
open PySem L2
section
variable {P : Program} {w : World} {K : PySem.W.Frag} {mg : Str → Option Value} {base : Heap} {Z : Adr}
def sp_Stuck_init (C : Addr) : Sp := fun vs H Q _ => ∃ (a : Addr) (i : Int), vs = [.ref a, .int i] ∧ H a = some (XO a C none) ∧ i.natAbs.log2 < 1920 ∧ ∀ d, H d = none → d ≠ a → Q .non (upd (upd H a (XO a C (some d))) d (.xd [("at", .int i)]))
theorem sc_Stuck_init : FnScope ["self", "at"] ["self", "at"] (defScope s_Stuck_init) := ⟨rfl, rfl, rfl, by decide +kernel, rfl, by decide +kernel, by decide +kernel⟩
theorem X_Stuck (T : Tx K mg Z) : CtrX P w K mg base 1 "Stuck" Z.cStuck ["self", "at"] (sp_Stuck_init Z.cStuck) := by
  refine ctrX_of T.c_Stuck T.x_Stuck fun f fd F => F.ok sc_Stuck_init (fun vs H Q E h => ?_) (fun cdv A outer s H vs Q E hr h => ?_)
  · obtain ⟨a, i, rfl, _⟩ := h
    rfl
  · obtain ⟨a, i, rfl, ha, hi, k⟩ := h
    have hx : xIn K Z.cStuck = true := by
      obtain ⟨_, _, _, m, _⟩ := T.x_Stuck.ex
      exact m.x
    refine' ⟨_, ?hterm, ?_⟩
    case hterm =>
      refine' pss_cons ?q1 ?q2
      case q1 =>
        refine' ps_expr ?q3
        case q3 =>
          refine' pe_baseInitK (K := K) (by rfl) rfl T.c_YardError T.yb_YardError ?q4
          case q4 =>
            refine' pa_cons ?q5 ?q6
            case q5 => exact pv 0
            case q6 =>
              refine' pa_cons ?q7 ?q8
              case q7 =>
                refine' pe_fstr ?q9 (by decide) (by decide)
                case q9 => exact pv 1
              case q8 => exact pa_nil
      case q2 =>
        refine' pss_one ?q10
        case q10 =>
          refine' ps_firstK (K := K) (by rfl) ?q11 ?q12 rfl
          case q11 => exact pv 0
          case q12 => exact pv 1
    refine ⟨_, rfl, _, rfl, _, rfl, hi, fun y => ⟨a, _, _, rfl, hx, ha, ?_⟩⟩
    refine ⟨_, rfl, _, rfl, a, _, rfl, ha, T.xc_Stuck, T.xt_Stuck_at, fun d hd hda => ?_⟩
    exact k d hd hda

/-! ### the yard -/
structure Tk where
  p : Addr
  l : Addr
  c : List Int
  g : Nat
def Tk.st (k : Tk) : List Int := k.c.drop k.g
def yfl (wA : Addr) (b : Bool) (c : Int) (lA dA : Addr) : List (Str × V) := [("wagons", .ref wA), ("blind", .bl b), ("come", .int c), ("left", .ref lA), ("tracks", .ref dA)]
theorem yfl_wagons (wA : Addr) (b : Bool) (c : Int) (lA dA : Addr) : (yfl wA b c lA dA).lookup ("wagons" : Str) = some (.ref wA) := rfl
theorem yfl_blind (wA : Addr) (b : Bool) (c : Int) (lA dA : Addr) : (yfl wA b c lA dA).lookup ("blind" : Str) = some (.bl b) := rfl
theorem yfl_come (wA : Addr) (b : Bool) (c : Int) (lA dA : Addr) : (yfl wA b c lA dA).lookup ("come" : Str) = some (.int c) := rfl
theorem yfl_left (wA : Addr) (b : Bool) (c : Int) (lA dA : Addr) : (yfl wA b c lA dA).lookup ("left" : Str) = some (.ref lA) := rfl
theorem yfl_tracks (wA : Addr) (b : Bool) (c : Int) (lA dA : Addr) : (yfl wA b c lA dA).lookup ("tracks" : Str) = some (.ref dA) := rfl
theorem yfl_put (wA : Addr) (b : Bool) (c c' : Int) (lA dA : Addr) : putF "come" (.int c') (yfl wA b c lA dA) = yfl wA b c' lA dA := rfl
theorem yfl_new (wA : Addr) (b : Bool) (lA dA : Addr) : putF "tracks" (.ref dA) (putF "left" (.ref lA) (putF "come" (.int 0) (putF "blind" (.bl b) (putF "wagons" (.ref wA) [])))) = yfl wA b 0 lA dA := rfl
theorem yfl_no (wA : Addr) (b : Bool) (c : Int) (lA dA : Addr) : (yfl wA b c lA dA).lookup ("carry_in" : Str) = none ∧ (yfl wA b c lA dA).lookup ("carry_away" : Str) = none ∧ (yfl wA b c lA dA).lookup ("carry_out" : Str) = none ∧ (yfl wA b c lA dA).lookup ("standing_on" : Str) = none := ⟨rfl, rfl, rfl, rfl⟩

/-- the yard at y: its wagons at wA, what left at lA, its tracks' dict at dA; H0: the heap when no track was made. m bounds the moves so far -/
structure Yk (Z : Adr) (b : Bool) (H0 H : Hp) (y wA lA dA : Addr) (T : List Int) (n : Nat) (st : Yd.St) (tk : Nat → Option Tk) (m : Nat) : Prop where
  ins : ∃ dy, H y = some (.ins Z.cYard dy (yfl wA b (st.came : Int) lA dA))
  wag : H0 wA = some (.lst (T.map V.int))
  wl : wA ≠ lA
  wy : wA ≠ y
  wd : wA ≠ dA
  y0 : ∃ o, H0 y = some o
  l0 : ∃ o, H0 lA = some o
  d0 : ∃ o, H0 dA = some o
  left : H lA = some (.lst (st.left.map V.int))
  dct : ∃ kvs : List (Key × V), H dA = some (.dK kvs) ∧ kvs.length ≤ m ∧ ∀ j : Nat, valV kvs (Sum.inl (j : Int)) = (tk j).map fun k => V.ref k.p
  at_ : ∀ (j : Nat) (k : Tk), tk j = some k → TrackAt Z.cTrack b H k.p k.l k.c k.g ∧ k.g ≤ k.c.length ∧ (b = true → k.g = 0) ∧ k.c.length ≤ st.came ∧ H0 k.p = none ∧ H0 k.l = none
  apart : ∀ (i j : Nat) (k k' : Tk), tk i = some k → tk j = some k' → i ≠ j → k.p ≠ k'.p ∧ k.l ≠ k'.l
  oth : ∀ a o, H0 a = some o → a ≠ y → a ≠ lA → a ≠ dA → H a = some o
  len : st.tr.length = n
  tr : ∀ j, j < n → st.tr.getD j [] = ((tk j).map Tk.st).getD []
  cl : st.came ≤ T.length
  lm : st.left.length ≤ m
section
variable {b : Bool} {H0 H : Hp} {y wA lA dA : Addr} {T : List Int} {n m : Nat} {st : Yd.St} {tk : Nat → Option Tk}
theorem TrackAt.same {H H' : Hp} {C : Addr} (s : Same H H') {p l : Addr} {c : List Int} {g : Nat} (h : TrackAt C b H p l c g) : TrackAt C b H' p l c g := let ⟨⟨dx, h1⟩, h2⟩ := h; ⟨⟨dx, s _ _ h1⟩, s _ _ h2⟩
theorem Yk.y_l (h : Yk Z b H0 H y wA lA dA T n st tk m) : y ≠ lA := let ⟨_, e⟩ := h.ins; ne_of e h.left fun z => by cases z
theorem Yk.y_d (h : Yk Z b H0 H y wA lA dA T n st tk m) : y ≠ dA := let ⟨_, e⟩ := h.ins; let ⟨_, f, _⟩ := h.dct; ne_of e f fun z => by cases z
theorem Yk.l_d (h : Yk Z b H0 H y wA lA dA T n st tk m) : lA ≠ dA := let ⟨_, f, _⟩ := h.dct; ne_of h.left f fun z => by cases z
theorem Yk.wagH (h : Yk Z b H0 H y wA lA dA T n st tk m) : H wA = some (.lst (T.map V.int)) := h.oth _ _ h.wag h.wy h.wl h.wd
theorem Yk.k_y (h : Yk Z b H0 H y wA lA dA T n st tk m) {j : Nat} {k : Tk} (e : tk j = some k) : k.p ≠ y ∧ k.p ≠ lA ∧ k.p ≠ dA ∧ k.l ≠ y ∧ k.l ≠ lA ∧ k.l ≠ dA := by
  obtain ⟨_, _, _, _, h1, h2⟩ := h.at_ j k e
  obtain ⟨_, e1⟩ := h.y0
  obtain ⟨_, e2⟩ := h.l0
  obtain ⟨_, e3⟩ := h.d0
  exact ⟨(ne_of_none e1 h1).symm, (ne_of_none e2 h1).symm, (ne_of_none e3 h1).symm, (ne_of_none e1 h2).symm, (ne_of_none e2 h2).symm, (ne_of_none e3 h2).symm⟩
theorem Yk.p_l (h : Yk Z b H0 H y wA lA dA T n st tk m) {i j : Nat} {k k' : Tk} (hi : tk i = some k) (hj : tk j = some k') : k.p ≠ k'.l := by
  obtain ⟨⟨⟨_, h1⟩, _⟩, _⟩ := h.at_ i k hi
  obtain ⟨⟨_, h2⟩, _⟩ := h.at_ j k' hj
  exact ne_of h1 h2 fun z => by cases z
theorem Yk.mono (h : Yk Z b H0 H y wA lA dA T n st tk m) {m' : Nat} (e : m ≤ m') : Yk Z b H0 H y wA lA dA T n st tk m' :=
  ⟨h.ins, h.wag, h.wl, h.wy, h.wd, h.y0, h.l0, h.d0, h.left, let ⟨kvs, a, c, d⟩ := h.dct; ⟨kvs, a, Nat.le_trans c e, d⟩, h.at_, h.apart, h.oth, h.len, h.tr, h.cl, Nat.le_trans h.lm e⟩
theorem Yk.same (h : Yk Z b H0 H y wA lA dA T n st tk m) {H' : Hp} (s : Same H H') : Yk Z b H0 H' y wA lA dA T n st tk m :=
  ⟨let ⟨dy, e⟩ := h.ins; ⟨dy, s _ _ e⟩, h.wag, h.wl, h.wy, h.wd, h.y0, h.l0, h.d0, s _ _ h.left, let ⟨kvs, a, c, d⟩ := h.dct; ⟨kvs, s _ _ a, c, d⟩, fun j k e => let ⟨a, r⟩ := h.at_ j k e; ⟨a.same s, r⟩, h.apart, fun a o e h1 h2 h3 => s _ _ (h.oth a o e h1 h2 h3), h.len, h.tr, h.cl, h.lm⟩
/-- a new track at the place j -/
def tput (tk : Nat → Option Tk) (j : Nat) (k : Tk) : Nat → Option Tk := fun i => if i = j then some k else tk i
theorem tput_same {j : Nat} {k : Tk} : tput tk j k j = some k := if_pos rfl
theorem tput_ne {i j : Nat} {k : Tk} (h : i ≠ j) : tput tk j k i = tk i := if_neg h
theorem tput_get {i j : Nat} {k k' : Tk} (h : tput tk j k i = some k') : (i = j ∧ k' = k) ∨ (i ≠ j ∧ tk i = some k') := by
  unfold tput at h
  split at h
  · rename_i e; exact .inl ⟨e, (Option.some.inj h).symm⟩
  · rename_i e; exact .inr ⟨e, h⟩
theorem Yk.opened (h : Yk Z b H0 H y wA lA dA T n st tk m) {j : Nat} (hj : tk j = none) {x dx l : Addr} {H1 : Hp} (hx : H x = none) (hl : H l = none) (hxl : l ≠ x) (s1 : Same H H1) (e1 : H1 x = some (.ins Z.cTrack dx (tfl b l 0))) (e2 : H1 l = some (.lst []))
    {kvs : List (Key × V)} (hd : H dA = some (.dK kvs)) (hk : kvs.length ≤ m) (hv : ∀ j : Nat, valV kvs (Sum.inl (j : Int)) = (tk j).map fun k => V.ref k.p) :
    Yk Z b H0 (upd H1 dA (.dK (putK kvs (Sum.inl (j : Int)) (.ref x)))) y wA lA dA T n st (tput tk j ⟨x, l, [], 0⟩) (m + 1) := by
  have h1 := h.same s1
  have f0 : ∀ a, H a = none → H0 a = none := fun a ha => by
    cases q : H0 a with
    | none => rfl
    | some o =>
      exfalso
      by_cases c1 : a = y
      · obtain ⟨_, e⟩ := h.ins; rw [c1, e] at ha; cases ha
      · by_cases c2 : a = lA
        · rw [c2, h.left] at ha; cases ha
        · by_cases c3 : a = dA
          · rw [c3, hd] at ha; cases ha
          · rw [h.oth a o q c1 c2 c3] at ha; cases ha
  have dx' : x ≠ dA := (ne_of_none hd hx).symm
  have dl' : l ≠ dA := (ne_of_none hd hl).symm
  refine ⟨?_, h.wag, h.wl, h.wy, h.wd, h.y0, h.l0, h.d0, ?_, ⟨_, upd_same, ?_, fun i => ?_⟩, fun i k e => ?_, fun i i' k k' e e' ne => ?_, fun a o e c1 c2 c3 => ?_, h.len, fun i hi => ?_, h.cl, Nat.le_succ_of_le h.lm⟩
  · obtain ⟨dy, e⟩ := h1.ins
    exact ⟨dy, by rw [upd_ne h.y_d]; exact e⟩
  · rw [upd_ne h.l_d]; exact h1.left
  · rw [putK_new _ (by rw [hv, hj]; rfl), List.length_append]
    exact Nat.succ_le_succ hk
  · rw [valV_put]
    by_cases c : i = j
    · subst c
      rw [if_pos rfl, tput_same]
      rfl
    · rw [if_neg (fun z => c (by have := Sum.inl.inj z; omega)), tput_ne c]
      exact hv i
  · rcases tput_get e with ⟨rfl, rfl⟩ | ⟨_, e⟩
    · exact ⟨⟨⟨dx, by rw [upd_ne dx']; exact e1⟩, by rw [upd_ne dl']; exact e2⟩, Nat.le_refl _, fun _ => rfl, Nat.zero_le _, f0 x hx, f0 l hl⟩
    · obtain ⟨⟨⟨d1, z1⟩, z2⟩, r⟩ := h1.at_ i k e
      have ky := h.k_y e
      exact ⟨⟨⟨d1, by rw [upd_ne ky.2.2.1]; exact z1⟩, by rw [upd_ne ky.2.2.2.2.2]; exact z2⟩, r⟩
  · rcases tput_get e with ⟨rfl, rfl⟩ | ⟨_, e3⟩ <;> rcases tput_get e' with ⟨rfl, rfl⟩ | ⟨_, e4⟩
    · exact absurd rfl ne
    · obtain ⟨⟨⟨d1, z1⟩, z2⟩, _⟩ := h.at_ i' k' e4
      exact ⟨(ne_of_none z1 hx).symm, (ne_of_none z2 hl).symm⟩
    · obtain ⟨⟨⟨d1, z1⟩, z2⟩, _⟩ := h.at_ i k e3
      exact ⟨ne_of_none z1 hx, ne_of_none z2 hl⟩
    · exact h.apart i i' k k' e3 e4 ne
  · rw [upd_ne c3]
    exact h1.oth a o e c1 c2 c3
  · by_cases c : i = j
    · subst c
      rw [tput_same, h.tr i hi, hj]
      rfl
    · rw [tput_ne c]
      exact h.tr i hi
theorem set_getD {tr : List (List Int)} {j i : Nat} {c : List Int} (hj : j < tr.length) : (tr.set j c).getD i [] = if i = j then c else tr.getD i [] := by
  rw [List.getD_eq_getElem?_getD, List.getD_eq_getElem?_getD, List.getElem?_set]
  by_cases e : j = i
  · subst e
    rw [if_pos rfl, if_pos rfl, if_pos hj]
    rfl
  · rw [if_neg e, if_neg (Ne.symm e)]
/-- a wagon came onto the track at the place j -/
theorem Yk.came (h : Yk Z b H0 H y wA lA dA T n st tk m) {j : Nat} {k : Tk} (e : tk j = some k) (hj : j < n) {x : Int} (hx : T[st.came]? = some x) {dy : Addr} :
    Yk Z b H0 (upd (upd H k.l (.lst ((k.c ++ [x]).map V.int))) y (.ins Z.cYard dy (yfl wA b ((st.came + 1 : Nat) : Int) lA dA))) y wA lA dA T n ⟨st.tr.set j (st.tr.getD j [] ++ [x]), st.left, st.came + 1⟩ (tput tk j { k with c := k.c ++ [x] }) m := by
  have ky := h.k_y e
  obtain ⟨⟨⟨dx, k1⟩, k2⟩, k3, k4, k5, k6, k7⟩ := h.at_ j k e
  refine ⟨⟨dy, upd_same⟩, h.wag, h.wl, h.wy, h.wd, h.y0, h.l0, h.d0, ?_, ?_, fun i k' e' => ?_, fun i i' a a' z z' ne => ?_, fun a o q c1 c2 c3 => ?_, by rw [List.length_set]; exact h.len, fun i hi => ?_, (List.getElem?_eq_some_iff.mp hx).1, h.lm⟩
  · rw [upd_ne h.y_l.symm, upd_ne ky.2.2.2.2.1.symm]; exact h.left
  · obtain ⟨kvs, d1, d2, d3⟩ := h.dct
    refine ⟨kvs, by rw [upd_ne h.y_d.symm, upd_ne ky.2.2.2.2.2.symm]; exact d1, d2, fun i => ?_⟩
    rw [d3]
    by_cases c : i = j
    · subst c; rw [tput_same, e]; rfl
    · rw [tput_ne c]
  · rcases tput_get e' with ⟨rfl, rfl⟩ | ⟨ne, e'⟩
    · refine ⟨⟨⟨dx, by rw [upd_ne ky.1, upd_ne (h.p_l e e)]; exact k1⟩, by rw [upd_ne ky.2.2.2.1, upd_same]⟩, ?_, k4, ?_, k6, k7⟩
      · show k.g ≤ (k.c ++ [x]).length
        rw [List.length_append]; omega
      · show (k.c ++ [x]).length ≤ st.came + 1
        rw [List.length_append]; exact Nat.succ_le_succ k5
    · obtain ⟨⟨⟨d1, z1⟩, z2⟩, z3, z4, z5, r⟩ := h.at_ i k' e'
      have ky' := h.k_y e'
      exact ⟨⟨⟨d1, by rw [upd_ne ky'.1, upd_ne (h.p_l e' e)]; exact z1⟩, by rw [upd_ne ky'.2.2.2.1, upd_ne (h.apart i j k' k e' e ne).2]; exact z2⟩, z3, z4, Nat.le_succ_of_le z5, r⟩
  · rcases tput_get z with ⟨rfl, rfl⟩ | ⟨_, z3⟩ <;> rcases tput_get z' with ⟨rfl, rfl⟩ | ⟨_, z4⟩
    · exact absurd rfl ne
    · exact h.apart i i' k a' e z4 ne
    · exact h.apart i i' a k z3 e ne
    · exact h.apart i i' a a' z3 z4 ne
  · rw [upd_ne c1, upd_ne (ne_of_none q k7)]
    exact h.oth a o q c1 c2 c3
  · show (st.tr.set j _).getD i [] = _
    rw [set_getD (by rw [h.len]; exact hj)]
    by_cases c : i = j
    · subst c
      rw [if_pos rfl, tput_same, h.tr i hi, e]
      show k.st ++ [x] = Tk.st { k with c := k.c ++ [x] }
      unfold Tk.st
      rw [List.drop_append_of_le_length k3]
    · rw [if_neg c, tput_ne c]
      exact h.tr i hi
/-- one left, the list at lA grew; what the track's object became is told by H1 -/
theorem Yk.went (h : Yk Z b H0 H y wA lA dA T n st tk m) {j : Nat} {k k' : Tk} (e : tk j = some k) (hj : j < n) {x : Int} {H1 : Hp} (kp : k'.p = k.p) (kl : k'.l = k.l) (t1 : TrackAt Z.cTrack b H1 k'.p k'.l k'.c k'.g) (g1 : k'.g ≤ k'.c.length) (g2 : b = true → k'.g = 0) (g3 : k'.c.length ≤ k.c.length)
    (s1 : ∀ a o, H a = some o → a ≠ k.p → a ≠ k.l → H1 a = some o) {tr' : List Int} (ht : k'.st = tr') :
    Yk Z b H0 (upd H1 lA (.lst ((st.left ++ [x]).map V.int))) y wA lA dA T n ⟨st.tr.set j tr', st.left ++ [x], st.came⟩ (tput tk j k') (m + 1) := by
  have ky := h.k_y e
  obtain ⟨_, _, _, k5, k6, k7⟩ := h.at_ j k e
  refine ⟨?_, h.wag, h.wl, h.wy, h.wd, h.y0, h.l0, h.d0, upd_same, ?_, fun i a e' => ?_, fun i i' a a' z z' ne => ?_, fun a o q c1 c2 c3 => ?_, by rw [List.length_set]; exact h.len, fun i hi => ?_, h.cl, by rw [List.length_append]; exact Nat.succ_le_succ h.lm⟩
  · obtain ⟨dy, z⟩ := h.ins
    exact ⟨dy, by rw [upd_ne h.y_l]; exact s1 _ _ z ky.1.symm ky.2.2.2.1.symm⟩
  · obtain ⟨kvs, d1, d2, d3⟩ := h.dct
    refine ⟨kvs, by rw [upd_ne h.l_d.symm]; exact s1 _ _ d1 ky.2.2.1.symm ky.2.2.2.2.2.symm, Nat.le_succ_of_le d2, fun i => ?_⟩
    rw [d3]
    by_cases c : i = j
    · subst c; rw [tput_same, e]; show some (V.ref k.p) = some (V.ref k'.p); rw [kp]
    · rw [tput_ne c]
  · rcases tput_get e' with ⟨rfl, rfl⟩ | ⟨ne, e'⟩
    · obtain ⟨⟨dx, z1⟩, z2⟩ := t1
      exact ⟨⟨⟨dx, by rw [upd_ne (by rw [kp]; exact ky.2.1)]; exact z1⟩, by rw [upd_ne (by rw [kl]; exact ky.2.2.2.2.1)]; exact z2⟩, g1, g2, Nat.le_trans g3 k5, by rw [kp]; exact k6, by rw [kl]; exact k7⟩
    · obtain ⟨⟨⟨d1, z1⟩, z2⟩, r⟩ := h.at_ i a e'
      have ky' := h.k_y e'
      have ap := h.apart i j a k e' e ne
      exact ⟨⟨⟨d1, by rw [upd_ne ky'.2.1]; exact s1 _ _ z1 ap.1 (h.p_l e' e)⟩, by rw [upd_ne ky'.2.2.2.2.1]; exact s1 _ _ z2 (h.p_l e e').symm ap.2⟩, r⟩
  · rcases tput_get z with ⟨rfl, rfl⟩ | ⟨_, z3⟩ <;> rcases tput_get z' with ⟨rfl, rfl⟩ | ⟨_, z4⟩
    · exact absurd rfl ne
    · rw [kp, kl]; exact h.apart i i' k a' e z4 ne
    · rw [kp, kl]; exact h.apart i i' a k z3 e ne
    · exact h.apart i i' a a' z3 z4 ne
  · rw [upd_ne c2]
    exact s1 _ _ (h.oth a o q c1 c2 c3) (ne_of_none q k6) (ne_of_none q k7)
  · show (st.tr.set j _).getD i [] = _
    rw [set_getD (by rw [h.len]; exact hj)]
    by_cases c : i = j
    · subst c
      rw [if_pos rfl, tput_same]
      exact ht.symm
    · rw [if_neg c, tput_ne c]
      exact h.tr i hi
end

def sp_Yard_init (Z : Adr) : Sp := fun vs H Q _ => ∃ (p dx wA : Addr) (b : Bool) (T : List Int), vs = [.ref p, .ref wA, .bl b] ∧ H p = some (.ins Z.cYard dx []) ∧ H wA = some (.lst (T.map V.int)) ∧
  ∀ (lA dA : Addr) (H' : Hp), H lA = none → H dA = none → (∀ c o, H c = some o → c ≠ p → H' c = some o) → H' lA = some (.lst []) → H' dA = some (.dK []) → H' p = some (.ins Z.cYard dx (yfl wA b 0 lA dA)) → Q .non H'
theorem sc_Yard_init : FnScope ["self", "wagons", "blind"] ["self", "wagons", "blind"] (defScope s_Yard_init) := ⟨rfl, rfl, rfl, by decide +kernel, rfl, by decide +kernel, by decide +kernel⟩
theorem M_Yard (T : Tx K mg Z) : CtrC P w K mg base CX0 1 "Yard" Z.cYard ["self", "wagons", "blind"] (sp_Yard_init Z) := by
  refine ctrC_of T.c_Yard T.i_Yard fun f fd F => F.ok sc_Yard_init (fun vs H Q E h => ?_) (fun cdv A outer s H vs Q E hr h => ?_)
  · obtain ⟨p, dx, wA, b, T, rfl, _⟩ := h
    rfl
  · obtain ⟨p, dx, wA, b, tr, rfl, hp, hw, k⟩ := h
    refine' ⟨_, ?hterm, ?_⟩
    case hterm =>
      refine' pss_cons ?q1 ?q2
      case q1 =>
        refine' ps_fldK (K := K) (by rfl) ?q3 ?q4 rfl
        case q3 => exact pv 0
        case q4 => exact pv 1
      case q2 =>
        refine' pss_cons ?q5 ?q6
        case q5 =>
          refine' ps_fldK (K := K) (by rfl) ?q7 ?q8 rfl
          case q7 => exact pv 0
          case q8 => exact pv 2
        case q6 =>
          refine' pss_cons ?q9 ?q10
          case q9 =>
            refine' ps_fldK (K := K) (by rfl) ?q11 ?q12 rfl
            case q11 => exact pv 0
            case q12 => exact pe_int
          case q10 =>
            refine' pss_cons ?q13 ?q14
            case q13 =>
              refine' ps_fldK (K := K) (by rfl) ?q15 ?q16 rfl
              case q15 => exact pv 0
              case q16 =>
                refine' pe_lst ?q17
                case q17 => exact pa_nil
            case q14 =>
              refine' pss_one ?q18
              case q18 =>
                refine' ps_fldK (K := K) (by rfl) ?q19 ?q20 rfl
                case q19 => exact pv 0
                case q20 => exact pe_dnewK
    refine ⟨_, rfl, _, rfl, p, _, dx, _, rfl, hp, T.k_Yard, T.a_Yard_wagons, (by show 0 < 1000; decide), ?_⟩
    refine ⟨_, rfl, _, rfl, p, _, dx, _, rfl, upd_same, T.k_Yard, T.a_Yard_blind, (by show 1 < 1000; decide), ?_⟩
    refine ⟨_, rfl, p, _, dx, _, rfl, upd_same, T.k_Yard, T.a_Yard_come, (by show 2 < 1000; decide), ?_⟩
    refine ⟨Nat.zero_le _, fun l hl => ?_⟩
    have npl : p ≠ l := ne_of_none upd_same hl
    have hHl : H l = none := by rw [upd_ne npl.symm, upd_ne npl.symm, upd_ne npl.symm] at hl; exact hl
    refine ⟨_, rfl, p, _, dx, _, rfl, by rw [upd_ne npl, upd_same], T.k_Yard, T.a_Yard_left, (by show 3 < 1000; decide), ?_⟩
    intro d hd
    have npd : p ≠ d := ne_of_none upd_same hd
    have nld : l ≠ d := fun z => by rw [← z, upd_ne npl.symm, upd_same] at hd; cases hd
    have hHd : H d = none := by rw [upd_ne npd.symm, upd_ne nld.symm, upd_ne npd.symm, upd_ne npd.symm, upd_ne npd.symm] at hd; exact hd
    refine ⟨_, rfl, p, _, dx, _, rfl, by rw [upd_ne npd, upd_same], T.k_Yard, T.a_Yard_tracks, (by show 4 < 1000; decide), ?_⟩
    rw [yfl_new]
    refine k l d _ hHl hHd (fun c o e hc => ?_) ?_ ?_ upd_same
    · rw [upd_ne hc, upd_ne (ne_of_none e hHd), upd_ne hc, upd_ne (ne_of_none e hHl), upd_ne hc, upd_ne hc, upd_ne hc]
      exact e
    · rw [upd_ne npl.symm, upd_ne nld, upd_ne npl.symm, upd_same]
    · rw [upd_ne npd.symm, upd_same]
/-- a yard that was just made -/
theorem Yk.fresh {b : Bool} {H : Hp} {y wA lA dA dy : Addr} {T : List Int} {n : Nat} (h1 : H y = some (.ins Z.cYard dy (yfl wA b 0 lA dA))) (h2 : H wA = some (.lst (T.map V.int))) (h3 : H lA = some (.lst [])) (h4 : H dA = some (.dK [])) (hwl : wA ≠ lA) :
    Yk Z b H H y wA lA dA T n (Yd.init n) (fun _ => none) 0 :=
  ⟨⟨dy, h1⟩, h2, hwl, ne_of h2 h1 (fun z => by cases z), ne_of h2 h4 (fun z => by cases z), ⟨_, h1⟩, ⟨_, h3⟩, ⟨_, h4⟩, h3, ⟨[], h4, Nat.le_refl _, fun _ => rfl⟩, fun j k e => (by cases e), fun i j k k' e => (by cases e), fun a o e _ _ _ => e, List.length_replicate, fun j hj => (by
    show (List.replicate n ([] : List Int)).getD j [] = []
    rw [List.getD_eq_getElem?_getD, List.getElem?_replicate]
    split <;> rfl), Nat.zero_le _, Nat.le_refl _⟩

def sp_carry (Z : Adr) (inn : Bool) : Sp := fun vs H Q E => ∃ (b : Bool) (H0 : Hp) (y wA lA dA : Addr) (T : List Int) (n : Nat) (st : Yd.St) (tk : Nat → Option Tk) (m i j : Nat), vs = [.ref y, .int i, .int j] ∧ Yk Z b H0 H y wA lA dA T n st tk m ∧ j < n ∧ m ≤ 1900 ∧ i ≤ 1900 ∧ T.length ≤ 200 ∧
  (∀ st', Yd.step T b st (inn, j) = some st' → ∀ H' tk', Yk Z b H0 H' y wA lA dA T n st' tk' (m + 1) → Q .non H') ∧
  (Yd.step T b st (inn, j) = none → ∀ d H', Same H H' → H d = none → H' d = some (.xd [("at", .int i)]) → E (.ref Z.cStuck) (some d) H')
/-- raise Stuck(at) -/
theorem stuck_goes {E : XK} {D : Ends} {σ : St} {H : Hp} {i k : Nat} (hσ : σ[k]? = some (some (.int i))) (hi : i ≤ 1900) (hE : ∀ d H', Same H H' → H d = none → H' d = some (.xd [("at", .int i)]) → E (.ref Z.cStuck) (some d) H') :
    sRaise Z.cStuck (sp_Stuck_init Z.cStuck) E (tCons (tVar k) tNil) D σ H := by
  refine ⟨_, hσ, (by show 1 ≤ 1000; decide), fun a ha => ⟨a, i, rfl, upd_same, ?_, fun d hd hda => ⟨rfl, some d, by rw [upd_ne hda.symm, upd_same], ?_⟩⟩⟩
  · rw [Int.natAbs_natCast]
    exact Nat.lt_of_le_of_lt (Nat.log2_le_self i) (by omega)
  · rw [upd_ne hda] at hd
    refine hE d _ (fun c o e => ?_) hd (by rw [del_ne hda, upd_same])
    rw [del_ne (ne_of_none e ha), upd_ne (ne_of_none e hd), upd_ne (ne_of_none e ha), upd_ne (ne_of_none e ha)]
    exact e
end
end My
/-! sidings.yards.Yard: a wagon comes, a wagon leaves, all of the moves. -/
namespace My
open PySem L2
section
variable {P : Program} {w : World} {K : PySem.W.Frag} {mg : Str → Option Value} {base : Heap} {Z : Adr}
theorem if_absent {o : Option V} {A : Prop} {R : Hp → Prop} {H : Hp} (G : Hp → Prop) (all : ∀ H', G H' → R H') (h0 : o = none → (∀ H', G H' → R H') → A) (h1 : o ≠ none → G H) : if (!o.isSome) = true then A else R H := by
  cases o with
  | none => exact iteT (h0 rfl all)
  | some v => exact iteF (all H (h1 (by intro z; cases z)))
theorem dget_of {H : Hp} {a : Addr} {kvs : List (Key × V)} {j : Nat} {o : Option V} (h : H a = some (.dK kvs)) (e : valV kvs (Sum.inl (j : Int)) = o) : DGet H a (.int (j : Int)) o := by
  rw [← e]
  exact DGet.k (k := Sum.inl (j : Int)) h
theorem sc_Yard_carry_in : FnScope ["self", "at", "place"] ["self", "at", "place"] (defScope s_Yard_carry_in) := ⟨rfl, rfl, rfl, by decide +kernel, rfl, by decide +kernel, by decide +kernel⟩
theorem m_carry_in (T : Tx K mg Z) : CtrM P w K mg base (CXe P w) 3 Z.cYard "carry_in" ["self", "at", "place"] (sp_carry Z true) := by
  refine ctrM_of T.k_Yard T.m_Yard_carry_in fun f fd F => F.okE sc_Yard_carry_in (fun vs H Q E h => ?_) (fun cdv A outer s H vs Q E hr h => ?_)
  · obtain ⟨b, H0, y, wA, lA, dA, tr, n, st, tk, m, i, j, rfl, _⟩ := h
    rfl
  · obtain ⟨b, H0, y, wA, lA, dA, tr, n, st, tk, m, i, j, rfl, hY, hj, hm, hi, hT, kQ, kE⟩ := h
    refine' ⟨_, ?hterm, ?_⟩
    case hterm =>
      refine' pss_cons ?q1 ?q2
      case q1 =>
        refine' ps_if ?q3 ?q4 ?q5
        case q3 =>
          refine' pt_cmpR (op_eqK (K := K) (by rfl) (by exact hr.units)) ?q6 ?q7 (nomark _)
          case q6 =>
            refine' pe_fldK (K := K) (by rfl) ?q8 rfl
            case q8 => exact pv 0
          case q7 =>
            refine' pe_callB (callK_len (K := K) (by rfl)) (by rfl) T.n_len b_len ?q9
            case q9 =>
              refine' pa_cons ?q10 ?q11
              case q10 =>
                refine' pe_fldK (K := K) (by rfl) ?q12 rfl
                case q12 => exact pv 0
              case q11 => exact pa_nil
        case q4 =>
          refine' pss_one ?q13
          case q13 =>
            refine' ps_raiseC (X_Stuck T) (hr.mono (by decide)) rfl raisesE ?q14
            case q14 =>
              refine' pa_cons ?q15 ?q16
              case q15 => exact pv 1
              case q16 => exact pa_nil
        case q5 => exact pss_nil
      case q2 =>
        refine' pss_cons ?q17 ?q18
        case q17 =>
          refine' ps_if ?q19 ?q20 ?q21
          case q19 =>
            refine' pt_cmp ?q22
            case q22 =>
              refine' pc_dnotin (hu_of hr) ?q23 ?q24
              case q23 => exact pv 2
              case q24 =>
                refine' pe_fldK (K := K) (by rfl) ?q25 rfl
                case q25 => exact pv 0
          case q20 =>
            refine' pss_one ?q26
            case q26 =>
              refine' ps_dput (hu_of hr) ?q27 ?q28 ?q29 rfl
              case q27 =>
                refine' pe_fldK (K := K) (by rfl) ?q30 rfl
                case q30 => exact pv 0
              case q28 => exact pv 2
              case q29 =>
                refine' pe_makeC (M_Track T) (hr.mono (by decide)) rfl ?q31
                case q31 =>
                  refine' pa_cons ?q32 ?q33
                  case q32 =>
                    refine' pe_fldK (K := K) (by rfl) ?q34 rfl
                    case q34 => exact pv 0
                  case q33 => exact pa_nil
          case q21 => exact pss_nil
        case q18 =>
          refine' pss_cons ?q35 ?q36
          case q35 =>
            refine' ps_expr ?q37
            case q37 =>
              refine' pe_methC ?q38 (m_let_in T) (hr.mono (by decide)) ?q39
              case q38 =>
                refine' pe_dget (hu_of hr) ?q40 ?q41 (fun _ _ => rfl)
                case q40 =>
                  refine' pe_fldK (K := K) (by rfl) ?q42 rfl
                  case q42 => exact pv 0
                case q41 => exact pv 2
              case q39 =>
                refine' pa_cons ?q43 ?q44
                case q43 =>
                  refine' pe_ix (ix_K (K := K) (by rfl)) ?q45 ?q46 (fun _ _ => rfl)
                  case q45 =>
                    refine' pe_fldK (K := K) (by rfl) ?q47 rfl
                    case q47 => exact pv 0
                  case q46 =>
                    refine' pe_fldK (K := K) (by rfl) ?q48 rfl
                    case q48 => exact pv 0
                case q44 => exact pa_nil
          case q36 =>
            refine' pss_one ?q49
            case q49 =>
              refine' ps_fldaugK (K := K) (by rfl) ?q50 ?q51 in_add
              case q50 => exact pv 0
              case q51 => exact pe_int
    have hw := hY.wagH
    obtain ⟨dy, hy⟩ := hY.ins
    refine ⟨_, rfl, y, _, dy, _, _, rfl, hy, T.k_Yard, T.a_Yard_come, yfl_come _ _ _ _ _, _, rfl, y, _, dy, _, _, rfl, hy, T.k_Yard, T.a_Yard_wagons, yfl_wagons _ _ _ _ _, _, _, rfl, .inl ⟨_, SqL.of hw, rfl⟩, .inl ⟨rfl, _, rfl, ?_⟩⟩
    rw [decV]
    by_cases hc : (st.came : Int) = ((tr.map V.int).length : Int)
    · refine iteDT hc (stuck_goes (D := { nx := fun _ _ => False, rt := Q }) (k := 1) rfl hi (kE ?_))
      unfold Yd.step
      rw [if_pos rfl, List.getElem?_eq_none_iff.mpr (by rw [List.length_map] at hc; omega)]
    · refine iteDF hc ?_
      rw [List.length_map] at hc
      have hlt : st.came < tr.length := by have := hY.cl; omega
      obtain ⟨x, ex⟩ : ∃ x, tr[st.came]? = some x := ⟨_, List.getElem?_eq_getElem hlt⟩
      have hs : Yd.step tr b st (true, j) = some ⟨st.tr.set j (st.tr.getD j [] ++ [x]), st.left, st.came + 1⟩ := by
        unfold Yd.step
        rw [if_pos rfl, ex]
      obtain ⟨kvs, hd, hk, hv⟩ := hY.dct
      refine ⟨_, rfl, _, rfl, y, _, dy, _, _, rfl, hy, T.k_Yard, T.a_Yard_tracks, yfl_tracks _ _ _ _ _, dA, _, rfl, dget_of hd (hv j), _, rfl, ?_⟩
      refine if_absent (fun H' => ∃ tk1 k, Yk Z b H0 H' y wA lA dA tr n st tk1 (m + 1) ∧ tk1 j = some k) ?_ ?_ ?_
      · rintro H1 ⟨tk1, k, hY1, e1⟩
        obtain ⟨dy1, hy1⟩ := hY1.ins
        obtain ⟨kvs1, hd1, _, hv1⟩ := hY1.dct
        obtain ⟨⟨⟨dx, z1⟩, z2⟩, z3, z4, z5, z6, z7⟩ := hY1.at_ j k e1
        refine ⟨_, rfl, y, _, dy1, _, _, rfl, hy1, T.k_Yard, T.a_Yard_tracks, yfl_tracks _ _ _ _ _, _, rfl, dA, _, rfl, dget_of hd1 (by rw [hv1, e1]; rfl), ?_⟩
        refine ⟨k.p, dx, _, rfl, z1, (tfl_no _ _ _).2.1, ?_⟩
        refine ⟨_, rfl, y, _, dy1, _, _, rfl, hy1, T.k_Yard, T.a_Yard_wagons, yfl_wagons _ _ _ _ _, _, rfl, y, _, dy1, _, _, rfl, hy1, T.k_Yard, T.a_Yard_come, yfl_come _ _ _ _ _, .inl ⟨wA, _, (st.came : Int), .int x, rfl, rfl, SqL.of hY1.wagH, atI_nat (by rw [List.getElem?_map, ex]; rfl), ?_⟩⟩
        refine ⟨k.p, k.l, b, k.c, k.g, x, rfl, ⟨⟨dx, z1⟩, z2⟩, by omega, ?_⟩
        have hy2 : upd H1 k.l (.lst ((k.c ++ [x]).map V.int)) y = some (.ins Z.cYard dy1 (yfl wA b (st.came : Int) lA dA)) := by rw [upd_ne (hY1.k_y e1).2.2.2.1.symm]; exact hy1
        refine ⟨_, rfl, y, _, dy1, _, _, rfl, hy2, T.k_Yard, T.a_Yard_come, yfl_come _ _ _ _ _, (st.came : Int), 1, rfl, rfl, dy1, _, hy2, (by show 5 < 1000; decide), ?_⟩
        rw [yfl_put]
        exact kQ _ hs _ _ (hY1.came e1 hj ex)
      · intro ho all
        have hnone : tk j = none := by
          cases q : tk j with
          | none => rfl
          | some k => rw [q] at ho; cases ho
        refine ⟨_, rfl, y, _, dy, _, _, rfl, hy, T.k_Yard, T.a_Yard_blind, yfl_blind _ _ _ _ _, fun x' dx hx hdx hne => ⟨x', dx, b, rfl, upd_same, fun l H4 hl4 k1 k2 k3 => ⟨rfl, ?_⟩⟩⟩
        have s4 : Same H H4 := fun c o e => k1 c o (by rw [upd_ne (ne_of_none e hx), upd_ne (ne_of_none e hdx)]; exact e) (ne_of_none e hx)
        have hlx : l ≠ x' := fun z => by rw [z, upd_same] at hl4; cases hl4
        have hl3 : H l = none := by
          rw [upd_ne hlx] at hl4
          have : l ≠ dx := fun z => by rw [z, upd_same] at hl4; cases hl4
          rw [upd_ne this] at hl4
          exact hl4
        refine ⟨_, rfl, y, _, dy, _, _, rfl, s4 _ _ hy, T.k_Yard, T.a_Yard_tracks, yfl_tracks _ _ _ _ _, _, rfl, dA, _, rfl, DPut.k (k := Sum.inl (j : Int)) (s4 _ _ hd) (small1000' (by omega)), ?_⟩
        exact all _ ⟨_, _, hY.opened hnone hx hl3 hlx s4 k2 k3 hd hk hv, tput_same⟩
      · intro ho
        cases q : tk j with
        | none => rw [q] at ho; exact absurd rfl ho
        | some k => exact ⟨tk, k, hY.mono (Nat.le_succ _), q⟩
theorem sc_Yard_carry_away : FnScope ["self", "at", "place"] ["self", "at", "place"] (defScope s_Yard_carry_away) := ⟨rfl, rfl, rfl, by decide +kernel, rfl, by decide +kernel, by decide +kernel⟩
theorem m_carry_away (T : Tx K mg Z) : CtrM P w K mg base (CXe P w) 3 Z.cYard "carry_away" ["self", "at", "place"] (sp_carry Z false) := by
  refine ctrM_of T.k_Yard T.m_Yard_carry_away fun f fd F => F.okE sc_Yard_carry_away (fun vs H Q E h => ?_) (fun cdv A outer s H vs Q E hr h => ?_)
  · obtain ⟨b, H0, y, wA, lA, dA, tr, n, st, tk, m, i, j, rfl, _⟩ := h
    rfl
  · obtain ⟨b, H0, y, wA, lA, dA, tr, n, st, tk, m, i, j, rfl, hY, hj, hm, hi, hT, kQ, kE⟩ := h
    refine' ⟨_, ?hterm, ?_⟩
    case hterm =>
      refine' pss_cons ?q1 ?q2
      case q1 =>
        refine' ps_if ?q3 ?q4 ?q5
        case q3 =>
          refine' PW.pt ?q6
          case q6 =>
            refine' pw_or ?q7 ?q8
            case q7 =>
              refine' pt_cmp ?q9
              case q9 =>
                refine' pc_dnotin (hu_of hr) ?q10 ?q11
                case q10 => exact pv 2
                case q11 =>
                  refine' pe_fldK (K := K) (by rfl) ?q12 rfl
                  case q12 => exact pv 0
            case q8 =>
              refine' pw_or1 ?q13
              case q13 =>
                refine' pt_truK (K := K) (by rfl) ?q14 (fun _ => rfl)
                case q14 =>
                  refine' pe_methC0 ?q15 (m_is_empty T) (hr.mono (by decide))
                  case q15 =>
                    refine' pe_dget (hu_of hr) ?q16 ?q17 (fun _ _ => rfl)
                    case q16 =>
                      refine' pe_fldK (K := K) (by rfl) ?q18 rfl
                      case q18 => exact pv 0
                    case q17 => exact pv 2
        case q4 =>
          refine' pss_one ?q19
          case q19 =>
            refine' ps_raiseC (X_Stuck T) (hr.mono (by decide)) rfl raisesE ?q20
            case q20 =>
              refine' pa_cons ?q21 ?q22
              case q21 => exact pv 1
              case q22 => exact pa_nil
        case q5 => exact pss_nil
      case q2 =>
        refine' pss_one ?q23
        case q23 =>
          refine' ps_expr ?q24
          case q24 =>
            refine' pe_bmK (K := K) (by rfl) PySem.F.plainAttrs_list PySem.F.slot_list_append PySem.F.type_list_append mt_append ?q25 ?q26
            case q25 =>
              refine' pe_fldK (K := K) (by rfl) ?q27 rfl
              case q27 => exact pv 0
            case q26 =>
              refine' pa_cons ?q28 ?q29
              case q28 =>
                refine' pe_methC0 ?q30 (m_let_out T) (hr.mono (by decide))
                case q30 =>
                  refine' pe_dget (hu_of hr) ?q31 ?q32 (fun _ _ => rfl)
                  case q31 =>
                    refine' pe_fldK (K := K) (by rfl) ?q33 rfl
                    case q33 => exact pv 0
                  case q32 => exact pv 2
              case q29 => exact pa_nil
    obtain ⟨dy, hy⟩ := hY.ins
    obtain ⟨kvs, hd, hk, hv⟩ := hY.dct
    have htr := hY.tr j hj
    refine ⟨_, rfl, _, rfl, y, _, dy, _, _, rfl, hy, T.k_Yard, T.a_Yard_tracks, yfl_tracks _ _ _ _ _, dA, _, rfl, dget_of hd (hv j), _, rfl, ?_⟩
    have none_ : st.tr.getD j [] = [] → Yd.step tr b st (false, j) = none := fun e => by
      unfold Yd.step
      rw [if_neg Bool.false_ne_true]
      show (if b = true then _ else _) = _
      simp only [e]
      split <;> rfl
    cases e : tk j with
    | none =>
      refine iteT (stuck_goes (D := { nx := fun _ _ => False, rt := Q }) (k := 1) rfl hi (kE (none_ ?_)))
      rw [htr, e]
      rfl
    | some k =>
      rw [e] at htr
      have htr : st.tr.getD j [] = k.st := htr
      obtain ⟨⟨⟨dx, z1⟩, z2⟩, z3, z4, z5, z6, z7⟩ := hY.at_ j k e
      have ky := hY.k_y e
      refine iteF ?_
      refine ⟨_, rfl, y, _, dy, _, _, rfl, hy, T.k_Yard, T.a_Yard_tracks, yfl_tracks _ _ _ _ _, _, rfl, dA, _, rfl, dget_of hd (by rw [hv, e]; rfl), ?_⟩
      refine ⟨k.p, dx, _, rfl, z1, (tfl_no _ _ _).1, k.p, k.l, b, k.c, k.g, rfl, ⟨⟨dx, z1⟩, z2⟩, _, rfl, ?_⟩
      by_cases hc : k.g = k.c.length
      · refine iteDT hc (stuck_goes (D := { nx := fun _ _ => False, rt := Q }) (k := 1) rfl hi (kE (none_ ?_)))
        rw [htr]
        unfold Tk.st
        rw [hc, List.drop_length]
      · refine iteDF hc ?_
        have hgl : k.g < k.c.length := by omega
        have hlm := hY.lm
        refine ⟨_, rfl, y, _, dy, _, _, rfl, hy, T.k_Yard, T.a_Yard_left, yfl_left _ _ _ _ _, .inl ⟨rfl, _, SqL.of hY.left⟩, ?_⟩
        refine ⟨_, rfl, y, _, dy, _, _, rfl, hy, T.k_Yard, T.a_Yard_tracks, yfl_tracks _ _ _ _ _, _, rfl, dA, _, rfl, dget_of hd (by rw [hv, e]; rfl), ?_⟩
        refine ⟨k.p, dx, _, rfl, z1, (tfl_no _ _ _).2.2.1, ?_⟩
        cases b with
        | true =>
          have hg0 := z4 rfl
          obtain ⟨x, ex⟩ : ∃ x, k.c[k.c.length - 1]? = some x := ⟨_, List.getElem?_eq_getElem (by omega)⟩
          refine ⟨k.p, k.l, true, k.c, k.g, x, rfl, ⟨⟨dx, z1⟩, z2⟩, .inl ⟨rfl, ex, ?_⟩⟩
          have hL6 : upd H k.l (.lst (k.c.dropLast.map V.int)) lA = some (.lst (st.left.map V.int)) := by rw [upd_ne ky.2.2.2.2.1.symm]; exact hY.left
          refine ⟨lA, _, _, rfl, rfl, hL6, by rw [List.length_map]; exact small1000' (by omega), ?_⟩
          have hs : Yd.step tr true st (false, j) = some ⟨st.tr.set j k.c.dropLast, st.left ++ [x], st.came⟩ := by
            unfold Yd.step
            rw [if_neg Bool.false_ne_true, if_pos rfl]
            have e0 : st.tr.getD j [] = k.c := by rw [htr]; unfold Tk.st; rw [hg0, List.drop_zero]
            simp only [e0]
            rw [List.getLast?_eq_getElem?, ex]
          have := hY.went (k' := { k with c := k.c.dropLast }) (x := x) (tr' := k.c.dropLast) (H1 := upd H k.l (.lst (k.c.dropLast.map V.int))) e hj rfl rfl
            ⟨⟨dx, by rw [upd_ne (hY.p_l e e)]; exact z1⟩, upd_same⟩ (by show k.g ≤ _; rw [hg0]; exact Nat.zero_le _) z4 (by rw [List.length_dropLast]; omega) (fun a o q _ c2 => by rw [upd_ne c2]; exact q) (by unfold Tk.st; show k.c.dropLast.drop k.g = _; rw [hg0, List.drop_zero])
          rw [List.map_append] at this
          exact kQ _ hs _ _ this
        | false =>
          obtain ⟨x, ex⟩ : ∃ x, k.c[k.g]? = some x := ⟨_, List.getElem?_eq_getElem hgl⟩
          refine ⟨k.p, k.l, false, k.c, k.g, x, rfl, ⟨⟨dx, z1⟩, z2⟩, .inr ⟨rfl, ex, fun dx' _ => ?_⟩⟩
          have hL6 : upd H k.p (.ins Z.cTrack dx' (tfl false k.l ((k.g + 1 : Nat) : Int))) lA = some (.lst (st.left.map V.int)) := by rw [upd_ne ky.2.1.symm]; exact hY.left
          refine ⟨lA, _, _, rfl, rfl, hL6, by rw [List.length_map]; exact small1000' (by omega), ?_⟩
          have hs : Yd.step tr false st (false, j) = some ⟨st.tr.set j (k.c.drop (k.g + 1)), st.left ++ [x], st.came⟩ := by
            unfold Yd.step
            rw [if_neg Bool.false_ne_true, if_neg Bool.false_ne_true]
            have e0 : st.tr.getD j [] = x :: k.c.drop (k.g + 1) := by
              rw [htr]
              unfold Tk.st
              rw [List.drop_eq_getElem_cons hgl]
              rw [List.getElem?_eq_getElem hgl] at ex
              rw [Option.some.inj ex]
            simp only [e0]
          have := hY.went (k' := { k with g := k.g + 1 }) (x := x) (tr' := k.c.drop (k.g + 1)) (H1 := upd H k.p (.ins Z.cTrack dx' (tfl false k.l ((k.g + 1 : Nat) : Int)))) e hj rfl rfl
            ⟨⟨dx', upd_same⟩, by rw [upd_ne (hY.p_l e e).symm]; exact z2⟩ hgl (fun z => by cases z) (Nat.le_refl _) (fun a o q c1 _ => by rw [upd_ne c1]; exact q) rfl
          rw [List.map_append] at this
          exact kQ _ hs _ _ this
/-- all of the moves: as far as they go -/
def sp_carry_out (Z : Adr) : Sp := fun vs H Q E => ∃ (b : Bool) (y wA lA dA sA dy : Addr) (T : List Int) (n : Nat) (ms : List Yd.Mv), vs = [.ref y, .ref sA] ∧ H y = some (.ins Z.cYard dy (yfl wA b 0 lA dA)) ∧ H wA = some (.lst (T.map V.int)) ∧ H lA = some (.lst []) ∧ H dA = some (.dK []) ∧ wA ≠ lA ∧ sA ≠ lA ∧
  MovesAt H sA ms ∧ ms.length ≤ 1000 ∧ (∀ m ∈ ms, m.2 < n) ∧ T.length ≤ 200 ∧
  (∀ st, Yd.steps T b (Yd.init n) ms = some st → ∀ H' tk m, m ≤ ms.length → Yk Z b H H' y wA lA dA T n st tk m → Q .non H') ∧
  (∀ (i : Nat) st m, Yd.steps T b (Yd.init n) (ms.take i) = some st → ms[i]? = some m → Yd.step T b st m = none → ∀ d H', (∀ a o, H a = some o → a ≠ y → a ≠ lA → a ≠ dA → H' a = some o) → (∀ a, H' a = none → H a = none) → H d = none → H' d = some (.xd [("at", .int i)]) → E (.ref Z.cStuck) (some d) H')
theorem sc_Yard_carry_out : FnScope ["self", "steps", "at", "step"] ["self", "steps"] (defScope s_Yard_carry_out) := ⟨rfl, rfl, rfl, by decide +kernel, rfl, by decide +kernel, by decide +kernel⟩
theorem m_carry_out (T : Tx K mg Z) : CtrM P w K mg base (CXe P w) 4 Z.cYard "carry_out" ["self", "steps"] (sp_carry_out Z) := by
  refine ctrM_of T.k_Yard T.m_Yard_carry_out fun f fd F => F.okE sc_Yard_carry_out (fun vs H Q E h => ?_) (fun cdv A outer s H vs Q E hr h => ?_)
  · obtain ⟨b, y, wA, lA, dA, sA, dy, tr, n, ms, rfl, _⟩ := h
    rfl
  · obtain ⟨b, y, wA, lA, dA, sA, dy, tr, n, ms, rfl, h1, h2, h3, h4, hwl, hsl, ⟨rs, hrs, hpr⟩, hz, hmn, hT, kQ, kE⟩ := h
    refine' ⟨_, ?hterm, ?_⟩
    case hterm =>
      refine' pss_one ?q1
      case q1 =>
        refine' ps_for PassesOwn.leaving rfl ?q2 ?q3 ?q4
        case q2 =>
          refine' pi_enumK (K := K) (by rfl) rfl T.n_enumerate ?q5
          case q5 =>
            refine' pa_cons ?q6 ?q7
            case q6 => exact pv 1
            case q7 => exact pa_nil
        case q3 =>
          refine' pg_tupK (K := K) (n := 2) (by rfl) rfl ?q8
          case q8 =>
            refine' pgs_cons ?q9 ?q10
            case q9 => exact pg_name (i := 2) sc_Yard_carry_out.nd (by rfl) (by exact Or.inl rfl)
            case q10 =>
              refine' pgs_cons ?q11 ?q12
              case q11 => exact pg_name (i := 3) sc_Yard_carry_out.nd (by rfl) (by exact Or.inl rfl)
              case q12 => exact pgs_nil
        case q4 =>
          refine' pss_one ?q13
          case q13 =>
            refine' ps_if ?q14 ?q15 ?q16
            case q14 =>
              refine' pt_cmpR (op_eqK (K := K) (by rfl) (by exact hr.units)) ?q17 ?q18 (nomark _)
              case q17 =>
                refine' pe_ix (ix_K (K := K) (by rfl)) ?q19 ?q20 (fun _ _ => rfl)
                case q19 => exact pv 3
                case q20 => exact pe_int
              case q18 => exact pe_str
            case q15 =>
              refine' pss_one ?q21
              case q21 =>
                refine' ps_expr ?q22
                case q22 =>
                  refine' pe_methCE ?q23 (m_carry_in T) (hr.mono (by decide)) ?q24 (passE fun _ _ _ z => z)
                  case q23 => exact pv 0
                  case q24 =>
                    refine' pa_cons ?q25 ?q26
                    case q25 => exact pv 2
                    case q26 =>
                      refine' pa_cons ?q27 ?q28
                      case q27 =>
                        refine' pe_ix (ix_K (K := K) (by rfl)) ?q29 ?q30 (fun _ _ => rfl)
                        case q29 => exact pv 3
                        case q30 => exact pe_int
                      case q28 => exact pa_nil
            case q16 =>
              refine' pss_one ?q31
              case q31 =>
                refine' ps_expr ?q32
                case q32 =>
                  refine' pe_methCE ?q33 (m_carry_away T) (hr.mono (by decide)) ?q34 (passE fun _ _ _ z => z)
                  case q33 => exact pv 0
                  case q34 =>
                    refine' pa_cons ?q35 ?q36
                    case q35 => exact pv 2
                    case q36 =>
                      refine' pa_cons ?q37 ?q38
                      case q37 =>
                        refine' pe_ix (ix_K (K := K) (by rfl)) ?q39 ?q40 (fun _ _ => rfl)
                        case q39 => exact pv 3
                        case q40 => exact pe_int
                      case q38 => exact pa_nil
    have hsy : sA ≠ y := ne_of hrs h1 fun z => by cases z
    have hsd : sA ≠ dA := ne_of hrs h4 fun z => by cases z
    refine ⟨_, rfl, sA, rfl, ⟨_, SqL.of hrs⟩, ?_⟩
    refine for_enum (K := K) (a := sA) (xs := rs.map V.ref) (fun i σ H2 => ∃ v1 v2 st tk m, σ = [some (.ref y), some (.ref sA), v1, v2] ∧ m ≤ i ∧ Yd.steps tr b (Yd.init n) (ms.take i) = some st ∧ Yk Z b H H2 y wA lA dA tr n st tk m) ?_ (fun i σ H2 _ h => ?_) ?_ ?_
    · exact ⟨none, none, Yd.init n, fun _ => none, 0, rfl, Nat.le_refl _, rfl, Yk.fresh h1 h2 h3 h4 hwl⟩
    · obtain ⟨_, _, st, tk, m, _, _, _, hY⟩ := h
      exact SqL.of (hY.oth _ _ hrs hsy hsl hsd)
    · rintro i x t σ H2 hx ⟨v1, v2, st, tk, m, rfl, hm, hst, hY⟩ ht
      obtain ⟨r, er, rfl⟩ := getMap hx
      obtain ⟨mv, em, hmv⟩ := Paired.get hpr er
      have hmv' := hmn mv (List.mem_of_getElem? em)
      have hi : i < ms.length := (List.getElem?_eq_some_iff.mp em).1
      have hr0 : H2 r = some (.tup [.str (deed mv.1), .int (mv.2 : Int)]) := by
        refine hY.oth _ _ hmv ?_ ?_ ?_
        · exact ne_of hmv h1 fun z => by cases z
        · exact ne_of hmv h3 fun z => by cases z
        · exact ne_of hmv h4 fun z => by cases z
      have s5 : Same H2 (upd H2 t (.tup [.int i, .ref r])) := Same.upd ht
      have hY5 := hY.same s5
      obtain ⟨dy5, hy5⟩ := hY5.ins
      have hr5 := s5 _ _ hr0
      refine ⟨t, _, rfl, SqT.of upd_same, rfl, _, _, rfl, _, _, rfl, rfl, ?_⟩
      refine ⟨_, rfl, .inr ⟨r, _, 0, _, rfl, rfl, SqT.of hr5, rfl, .inl ⟨rfl, _, rfl, ?_⟩⟩⟩
      have stuck : Yd.step tr b st mv = none → ∀ d H', Same (upd H2 t (.tup [.int i, .ref r])) H' → upd H2 t (.tup [.int i, .ref r]) d = none → H' d = some (.xd [("at", .int i)]) → E (.ref Z.cStuck) (some d) H' := by
        intro hs d H' sH hd hd'
        have back : ∀ a, upd H2 t (.tup [.int i, .ref r]) a = none → H a = none := fun a ha => by
          cases q : H a with
          | none => rfl
          | some o =>
            exfalso
            by_cases c1 : a = y
            · rw [c1, hy5] at ha; cases ha
            · by_cases c2 : a = lA
              · rw [c2, hY5.left] at ha; cases ha
              · by_cases c3 : a = dA
                · obtain ⟨_, e, _⟩ := hY5.dct; rw [c3, e] at ha; cases ha
                · rw [hY5.oth a o q c1 c2 c3] at ha; cases ha
        exact kE i st mv hst em hs d H' (fun a o q c1 c2 c3 => sH _ _ (hY5.oth a o q c1 c2 c3)) (fun a ha => back a (sH.free ha)) (back d hd) hd'
      obtain ⟨m1, m2⟩ := mv
      cases m1 with
      | true =>
        refine iteDT rfl ?_
        refine ⟨_, rfl, y, dy5, _, rfl, hy5, (yfl_no _ _ _ _ _).1, _, rfl, _, rfl, .inr ⟨r, _, 1, _, rfl, rfl, SqT.of hr5, rfl, ?_⟩⟩
        refine ⟨b, H, y, wA, lA, dA, tr, n, st, tk, m, i, m2, rfl, hY5, hmv', by omega, by omega, hT, fun st' hs H' tk' hY' => ?_, stuck⟩
        exact ⟨_, _, st', tk', m + 1, rfl, Nat.succ_le_succ hm, steps_next hst em hs, hY'⟩
      | false =>
        refine iteDF (show ¬ V.str (Str.ofString "out") = V.str (Str.ofString "in") from by decide +kernel) ?_
        refine ⟨_, rfl, y, dy5, _, rfl, hy5, (yfl_no _ _ _ _ _).2.1, _, rfl, _, rfl, .inr ⟨r, _, 1, _, rfl, rfl, SqT.of hr5, rfl, ?_⟩⟩
        refine ⟨b, H, y, wA, lA, dA, tr, n, st, tk, m, i, m2, rfl, hY5, hmv', by omega, by omega, hT, fun st' hs H' tk' hY' => ?_, stuck⟩
        exact ⟨_, _, st', tk', m + 1, rfl, Nat.succ_le_succ hm, steps_next hst em hs, hY'⟩
    · rintro σ H2 ⟨v1, v2, st, tk, m, rfl, hm, hst, hY⟩
      have hrl : (rs.map V.ref).length = ms.length := by rw [List.length_map]; exact Paired.length hpr
      rw [hrl, List.take_length] at hst
      rw [hrl] at hm
      exact kQ st hst H2 tk m hm hY
end
end My
/-! sidings.checks: counts of tracks. -/
namespace My
open PySem L2
section
variable {P : Program} {w : World} {K : PySem.W.Frag} {mg : Str → Option Value} {base : Heap} {Z : Adr}

def sp_checked_count : Sp := fun vs H Q _ => ∃ n : Int, vs = [.int n] ∧ 1 ≤ n ∧ Q (.int n) H
theorem sc_checked_count : FnScope ["many", "count"] ["many"] (defScope s_checked_count) := ⟨rfl, rfl, rfl, by decide +kernel, rfl, by decide +kernel, by decide +kernel⟩
theorem C_checked_count (T : Tx K mg Z) : Ctr P w K mg base CX0 2 "checked_count" ["many"] sp_checked_count := by
  refine ctr_of T.checked_count fun f fd F => F.ok sc_checked_count (fun vs H Q E h => ?_) (fun cdv A outer s H vs Q E hr h => ?_)
  · obtain ⟨n, rfl, _⟩ := h
    rfl
  · obtain ⟨n, rfl, h1, q⟩ := h
    refine' ⟨_, ?hterm, ?_⟩
    case hterm =>
      refine' pss_cons ?q1 ?q2
      case q1 =>
        refine' ps_if ?q3 ?q4 ?q5
        case q3 =>
          refine' pt_not ?q6
          case q6 =>
            refine' pt_truK (K := K) (by rfl) ?q7 (fun _ => rfl)
            case q7 =>
              refine' pe_callC (C_is_number T) (hr.mono (by decide)) rfl ?q8
              case q8 =>
                refine' pa_cons ?q9 ?q10
                case q9 => exact pv 0
                case q10 => exact pa_nil
        case q4 =>
          refine' pss_one ?q11
          case q11 => exact ps_never
        case q5 => exact pss_nil
      case q2 =>
        refine' pss_cons ?q12 ?q13
        case q12 =>
          refine' ps_set (i := 1) sc_checked_count.nd rfl (Or.inl rfl) ?q14
          case q14 =>
            refine' pe_callTy call_int1 (by rfl) T.n_int b_int ?q15
            case q15 =>
              refine' pa_cons ?q16 ?q17
              case q16 => exact pv 0
              case q17 => exact pa_nil
        case q13 =>
          refine' pss_cons ?q18 ?q19
          case q18 =>
            refine' ps_if ?q20 ?q21 ?q22
            case q20 =>
              refine' pt_cmpR op_lt ?q23 ?q24 (nomark _)
              case q23 => exact pv 1
              case q24 => exact pe_int
            case q21 =>
              refine' pss_one ?q25
              case q25 => exact ps_never
            case q22 => exact pss_nil
          case q19 =>
            refine' pss_one ?q26
            case q26 =>
              refine' ps_ret ?q27
              case q27 => exact pv 1
    refine ⟨_, rfl, n, rfl, _, rfl, iteF ?_⟩
    refine ⟨_, rfl, .inl ⟨n, rfl, ?_⟩⟩
    refine ⟨_, rfl, n, 1, rfl, rfl, _, rfl, ?_⟩
    rw [decide_eq_false (show ¬ n < 1 by omega)]
    exact iteF ⟨_, rfl, q⟩
end
end My
/-! sidings.checks: counts of tracks. -/
namespace My
open PySem L2
section
variable {P : Program} {w : World} {K : PySem.W.Frag} {mg : Str → Option Value} {base : Heap} {Z : Adr}

def sp_checked_blind : Sp := fun vs H Q _ => ∃ b, vs = [.bl b] ∧ Q (.bl b) H
theorem sc_checked_blind : FnScope ["blind"] ["blind"] (defScope s_checked_blind) := ⟨rfl, rfl, rfl, by decide +kernel, rfl, by decide +kernel, by decide +kernel⟩
theorem C_checked_blind (T : Tx K mg Z) : Ctr P w K mg base CX0 1 "checked_blind" ["blind"] sp_checked_blind := by
  refine ctr_of T.checked_blind fun f fd F => F.ok sc_checked_blind (fun vs H Q E h => ?_) (fun cdv A outer s H vs Q E hr h => ?_)
  · obtain ⟨b, rfl, _⟩ := h
    rfl
  · obtain ⟨b, rfl, q⟩ := h
    refine' ⟨_, ?hterm, ?_⟩
    case hterm =>
      refine' pss_cons ?q1 ?q2
      case q1 =>
        refine' ps_if ?q3 ?q4 ?q5
        case q3 =>
          refine' PW.pt ?q6
          case q6 =>
            refine' pw_and ?q7 ?q8
            case q7 =>
              refine' pt_cmpR op_notC ?q9 ?q10 (nomark _)
              case q9 => exact pv 0
              case q10 => exact pe_bl
            case q8 =>
              refine' pw_and1 ?q11
              case q11 =>
                refine' pt_cmpR op_notC ?q12 ?q13 (nomark _)
                case q12 => exact pv 0
                case q13 => exact pe_bl
        case q4 =>
          refine' pss_one ?q14
          case q14 => exact ps_never
        case q5 => exact pss_nil
      case q2 =>
        refine' pss_one ?q15
        case q15 =>
          refine' ps_ret ?q16
          case q16 => exact pv 0
    refine ⟨_, rfl, true, rfl, _, rfl, ?_⟩
    cases b with
    | true => exact iteF (iteF ⟨_, rfl, q⟩)
    | false => exact iteT ⟨_, rfl, false, rfl, _, rfl, iteF ⟨_, rfl, q⟩⟩

def sp_checked_many : Sp := fun vs H Q _ => ∃ n : Int, vs = [.int n] ∧ 1 ≤ n ∧ n ≤ 100000 ∧ Q (.int n) H
theorem sc_checked_many : FnScope ["many", "count"] ["many"] (defScope s_checked_many) := ⟨rfl, rfl, rfl, by decide +kernel, rfl, by decide +kernel, by decide +kernel⟩
theorem C_checked_many (T : Tx K mg Z) : Ctr P w K mg base CX0 3 "checked_many" ["many"] sp_checked_many := by
  refine ctr_of T.checked_many fun f fd F => F.ok sc_checked_many (fun vs H Q E h => ?_) (fun cdv A outer s H vs Q E hr h => ?_)
  · obtain ⟨n, rfl, _⟩ := h
    rfl
  · obtain ⟨n, rfl, h1, h2, q⟩ := h
    refine' ⟨_, ?hterm, ?_⟩
    case hterm =>
      refine' pss_cons ?q1 ?q2
      case q1 =>
        refine' ps_set (i := 1) sc_checked_many.nd rfl (Or.inl rfl) ?q3
        case q3 =>
          refine' pe_callC (C_checked_count T) (hr.mono (by decide)) rfl ?q4
          case q4 =>
            refine' pa_cons ?q5 ?q6
            case q5 => exact pv 0
            case q6 => exact pa_nil
      case q2 =>
        refine' pss_cons ?q7 ?q8
        case q7 =>
          refine' ps_if ?q9 ?q10 ?q11
          case q9 =>
            refine' pt_cmpR op_gt ?q12 ?q13 (nomark _)
            case q12 => exact pv 1
            case q13 => exact pe_gint (by rfl) T.g_MOST_TRACKS
          case q10 =>
            refine' pss_one ?q14
            case q14 => exact ps_never
          case q11 => exact pss_nil
        case q8 =>
          refine' pss_one ?q15
          case q15 =>
            refine' ps_ret ?q16
            case q16 => exact pv 1
    refine ⟨_, rfl, n, rfl, h1, ?_⟩
    refine ⟨_, rfl, n, 100000, rfl, rfl, _, rfl, ?_⟩
    rw [decide_eq_false (show ¬ (100000 : Int) < n by omega)]
    exact iteF ⟨_, rfl, q⟩
end
end My
/-! sidings.yards: what stands. -/
namespace My
open PySem L2
section
variable {P : Program} {w : World} {K : PySem.W.Frag} {mg : Str → Option Value} {base : Heap} {Z : Adr}

def sp_standing (C : Addr) : Sp := fun vs H Q _ => ∃ (p l : Addr) (b : Bool) (c : List Int) (g : Nat), vs = [.ref p] ∧ TrackAt C b H p l c g ∧ ∀ q, H q = none → Q (.ref q) (upd H q (.lst ((c.drop g).map V.int)))
theorem sc_Track_standing : FnScope ["self"] ["self"] (defScope s_Track_standing) := ⟨rfl, rfl, rfl, by decide +kernel, rfl, by decide +kernel, by decide +kernel⟩
theorem m_standing (T : Tx K mg Z) : CtrM P w K mg base CX0 1 Z.cTrack "standing" ["self"] (sp_standing Z.cTrack) := by
  refine ctrM_of T.k_Track T.m_Track_standing fun f fd F => F.ok sc_Track_standing (fun vs H Q E h => ?_) (fun cdv A outer s H vs Q E hr h => ?_)
  · obtain ⟨p, l, b, c, g, rfl, _⟩ := h
    rfl
  · obtain ⟨p, l, b, c, g, rfl, ⟨⟨dx, h1⟩, h2⟩, k⟩ := h
    refine' ⟨_, ?hterm, ?_⟩
    case hterm =>
      refine' pss_one ?q1
      case q1 =>
        refine' ps_ret ?q2
        case q2 =>
          refine' pe_slice (sl_K (K := K) (by rfl)) ?q3 ?q4 ?q5
          case q3 =>
            refine' pe_fldK (K := K) (by rfl) ?q6 rfl
            case q6 => exact pv 0
          case q4 =>
            refine' po_some ?q7
            case q7 =>
              refine' pe_fldK (K := K) (by rfl) ?q8 rfl
              case q8 => exact pv 0
          case q5 => exact po_none
    refine ⟨_, rfl, p, _, dx, _, _, rfl, h1, T.k_Track, T.a_Track_came, tfl_came _ _ _, _, rfl, p, _, dx, _, _, rfl, h1, T.k_Track, T.a_Track_gone_ahead, tfl_gone _ _ _, g, rfl, l, _, rfl, SqL.of h2, fun q hq => ?_⟩
    rw [cutV_from, ← List.map_drop]
    exact k q hq
end
end My
/-! sidings.yards.run: what it tells, or Stuck at the place. -/
namespace My
open PySem L2
section
variable {P : Program} {w : World} {K : PySem.W.Frag} {mg : Str → Option Value} {base : Heap} {Z : Adr}
/-- what run tells, r: the tuple; its three lists are new -/
structure Told (H H' : Hp) (T : List Int) (st : Yd.St) (r lA tA eA : Addr) (ls : List Addr) : Prop where
  same : Same H H'
  tup : H' r = some (.tup [.ref lA, .ref tA, .ref eA])
  left : H' lA = some (.lst (st.left.map V.int))
  trs : H' tA = some (.lst (ls.map V.ref))
  each : Paired (fun (l : Addr) (c : List Int) => H' l = some (.lst (c.map V.int))) ls st.tr
  rest : H' eA = some (.lst ((T.drop st.came).map V.int))
  newL : H lA = none
  newT : H tA = none
  newE : H eA = none
  l_t : lA ≠ tA
  l_e : lA ≠ eA
  t_e : tA ≠ eA
def sp_run (C : Addr) : Sp := fun vs H Q E => ∃ (tA mA : Addr) (b : Bool) (n : Nat) (T : List Int) (ms : List Yd.Mv), vs = [.ref tA, .bl b, .int n, .ref mA] ∧ H tA = some (.lst (T.map V.int)) ∧ T.length < 64 ∧ T.Nodup ∧ MovesAt H mA ms ∧ ms.length ≤ 1000 ∧ 1 ≤ n ∧ n ≤ 100 ∧ (∀ m ∈ ms, m.2 < n) ∧
  (∀ st, Yd.steps T b (Yd.init n) ms = some st → ∀ r lA tA eA ls H', Told H H' T st r lA tA eA ls → Q (.ref r) H') ∧
  (∀ (i : Nat) st m, Yd.steps T b (Yd.init n) (ms.take i) = some st → ms[i]? = some m → Yd.step T b st m = none → ∀ d H', Same H H' → H d = none → H' d = some (.xd [("at", .int i)]) → E (.ref C) (some d) H')
def sp_standing_on (Z : Adr) : Sp := fun vs H Q _ => ∃ (b : Bool) (H0 : Hp) (y wA lA dA : Addr) (T : List Int) (n : Nat) (st : Yd.St) (tk : Nat → Option Tk) (m j : Nat), vs = [.ref y, .int j] ∧ Yk Z b H0 H y wA lA dA T n st tk m ∧ j < n ∧ ∀ q, H q = none → Q (.ref q) (upd H q (.lst ((st.tr.getD j []).map V.int)))
theorem sc_Yard_standing_on : FnScope ["self", "place"] ["self", "place"] (defScope s_Yard_standing_on) := ⟨rfl, rfl, rfl, by decide +kernel, rfl, by decide +kernel, by decide +kernel⟩
theorem m_standing_on (T : Tx K mg Z) : CtrM P w K mg base CX0 3 Z.cYard "standing_on" ["self", "place"] (sp_standing_on Z) := by
  refine ctrM_of T.k_Yard T.m_Yard_standing_on fun f fd F => F.ok sc_Yard_standing_on (fun vs H Q E h => ?_) (fun cdv A outer s H vs Q E hr h => ?_)
  · obtain ⟨b, H0, y, wA, lA, dA, tr, n, st, tk, m, j, rfl, _⟩ := h
    rfl
  · obtain ⟨b, H0, y, wA, lA, dA, tr, n, st, tk, m, j, rfl, hY, hj, k⟩ := h
    refine' ⟨_, ?hterm, ?_⟩
    case hterm =>
      refine' pss_one ?q1
      case q1 =>
        refine' ps_ret ?q2
        case q2 =>
          refine' pe_ifExp ?q3 ?q4 ?q5
          case q3 =>
            refine' pt_cmp ?q6
            case q6 =>
              refine' pc_din (hu_of hr) ?q7 ?q8
              case q7 => exact pv 1
              case q8 =>
                refine' pe_fldK (K := K) (by rfl) ?q9 rfl
                case q9 => exact pv 0
          case q4 =>
            refine' pe_methC0 ?q10 (m_standing T) (hr.mono (by decide))
            case q10 =>
              refine' pe_dget (hu_of hr) ?q11 ?q12 (fun _ _ => rfl)
              case q11 =>
                refine' pe_fldK (K := K) (by rfl) ?q13 rfl
                case q13 => exact pv 0
              case q12 => exact pv 1
          case q5 =>
            refine' pe_lst ?q14
            case q14 => exact pa_nil
    obtain ⟨dy, hy⟩ := hY.ins
    obtain ⟨kvs, hd, hk, hv⟩ := hY.dct
    have htr := hY.tr j hj
    refine ⟨_, rfl, _, rfl, y, _, dy, _, _, rfl, hy, T.k_Yard, T.a_Yard_tracks, yfl_tracks _ _ _ _ _, dA, _, rfl, dget_of hd (hv j), _, rfl, ?_⟩
    cases e : tk j with
    | none =>
      refine iteF ⟨Nat.zero_le _, fun q hq => ?_⟩
      rw [e] at htr
      have := k q hq
      rw [htr] at this
      exact this
    | some kk =>
      rw [e] at htr
      obtain ⟨⟨⟨dx, z1⟩, z2⟩, _⟩ := hY.at_ j kk e
      refine iteT ?_
      refine ⟨_, rfl, y, _, dy, _, _, rfl, hy, T.k_Yard, T.a_Yard_tracks, yfl_tracks _ _ _ _ _, _, rfl, dA, _, rfl, dget_of hd (by rw [hv, e]; rfl), ?_⟩
      refine ⟨kk.p, dx, _, rfl, z1, (tfl_no _ _ _).2.2.2, kk.p, kk.l, b, kk.c, kk.g, rfl, ⟨⟨dx, z1⟩, z2⟩, fun q hq => ?_⟩
      have := k q hq
      rw [htr] at this
      exact this
theorem sc_run : FnScope ["train", "blind", "many", "moves", "wagons", "is_blind", "count", "steps", "yard"] ["train", "blind", "many", "moves"] (defScope s_run) := ⟨rfl, rfl, rfl, by decide +kernel, rfl, by decide +kernel, by decide +kernel⟩
theorem C_run (T : Tx K mg Z) : Ctr P w K mg base (CXe P w) 6 "run" ["train", "blind", "many", "moves"] (sp_run Z.cStuck) := by
  refine ctr_of T.run fun f fd F => F.okE sc_run (fun vs H Q E h => ?_) (fun cdv A outer s H vs Q E hr h => ?_)
  · obtain ⟨tA, mA, b, n, T, ms, rfl, _⟩ := h
    rfl
  · obtain ⟨tA, mA, b, n, tr, ms, rfl, hT, hTz, hTn, hM, hMz, hn1, hn2, hmn, kQ, kE⟩ := h
    refine' ⟨_, ?hterm, ?_⟩
    case hterm =>
      refine' pss_cons ?q1 ?q2
      case q1 =>
        refine' ps_set (i := 4) sc_run.nd rfl (Or.inl rfl) ?q3
        case q3 =>
          refine' pe_callC (C_checked_train T) (hr.mono (by decide)) rfl ?q4
          case q4 =>
            refine' pa_cons ?q5 ?q6
            case q5 => exact pv 0
            case q6 => exact pa_nil
      case q2 =>
        refine' pss_cons ?q7 ?q8
        case q7 =>
          refine' ps_set (i := 5) sc_run.nd rfl (Or.inl rfl) ?q9
          case q9 =>
            refine' pe_callC (C_checked_blind T) (hr.mono (by decide)) rfl ?q10
            case q10 =>
              refine' pa_cons ?q11 ?q12
              case q11 => exact pv 1
              case q12 => exact pa_nil
        case q8 =>
          refine' pss_cons ?q13 ?q14
          case q13 =>
            refine' ps_set (i := 6) sc_run.nd rfl (Or.inl rfl) ?q15
            case q15 =>
              refine' pe_callC (C_checked_many T) (hr.mono (by decide)) rfl ?q16
              case q16 =>
                refine' pa_cons ?q17 ?q18
                case q17 => exact pv 2
                case q18 => exact pa_nil
          case q14 =>
            refine' pss_cons ?q19 ?q20
            case q19 =>
              refine' ps_set (i := 7) sc_run.nd rfl (Or.inl rfl) ?q21
              case q21 =>
                refine' pe_callC (C_checked_moves T) (hr.mono (by decide)) rfl ?q22
                case q22 =>
                  refine' pa_cons ?q23 ?q24
                  case q23 => exact pv 3
                  case q24 =>
                    refine' pa_cons ?q25 ?q26
                    case q25 => exact pv 6
                    case q26 => exact pa_nil
            case q20 =>
              refine' pss_cons ?q27 ?q28
              case q27 =>
                refine' ps_set (i := 8) sc_run.nd rfl (Or.inr rfl) ?q29
                case q29 =>
                  refine' pe_makeC (M_Yard T) (hr.mono (by decide)) rfl ?q30
                  case q30 =>
                    refine' pa_cons ?q31 ?q32
                    case q31 => exact pv 4
                    case q32 =>
                      refine' pa_cons ?q33 ?q34
                      case q33 => exact pv 5
                      case q34 => exact pa_nil
              case q28 =>
                refine' pss_cons ?q35 ?q36
                case q35 =>
                  refine' ps_expr ?q37
                  case q37 =>
                    refine' pe_methCE ?q38 (m_carry_out T) (hr.mono (by decide)) ?q39 (passE fun _ _ _ z => z)
                    case q38 => exact pv 8
                    case q39 =>
                      refine' pa_cons ?q40 ?q41
                      case q40 => exact pv 7
                      case q41 => exact pa_nil
                case q36 =>
                  refine' pss_one ?q42
                  case q42 =>
                    refine' ps_ret ?q43
                    case q43 =>
                      refine' pe_tup ?q44
                      case q44 =>
                        refine' pa_cons ?q45 ?q46
                        case q45 =>
                          refine' pe_fldK (K := K) (by rfl) ?q47 rfl
                          case q47 => exact pv 8
                        case q46 =>
                          refine' pa_cons ?q48 ?q49
                          case q48 =>
                            refine' pe_comp rfl (csc_of (sc := defScope s_run) (N := ["train", "blind", "many", "moves", "wagons", "is_blind", "count", "steps", "yard"]) (cap := [none, some 8]) (N' := ["place", "yard"]) rfl rfl ⟨ rfl, by decide +kernel, by decide +kernel, by decide +kernel, rfl, by decide +kernel ⟩) ?q50 (fun _ _ _ _ => ?q51) (fun _ _ _ _ => ?q52) (fun _ _ _ _ => ?q53)
                            case q50 =>
                              refine' pi_range1 rfl T.n_range ?q54
                              case q54 =>
                                refine' pa_cons ?q55 ?q56
                                case q55 => exact pv 6
                                case q56 => exact pa_nil
                            case q51 => exact pg_name (i := 0) (show List.Nodup (["place", "yard"] : List Str) from by decide +kernel) (by rfl) (by exact Or.inl rfl)
                            case q52 => exact pif_nil
                            case q53 =>
                              refine' pe_methC ?q57 (m_standing_on T) (hr.mono (by decide)) ?q58
                              case q57 => exact pv 1
                              case q58 =>
                                refine' pa_cons ?q59 ?q60
                                case q59 => exact pv 0
                                case q60 => exact pa_nil
                          case q49 =>
                            refine' pa_cons ?q61 ?q62
                            case q61 =>
                              refine' pe_slice (sl_K (K := K) (by rfl)) ?q63 ?q64 ?q65
                              case q63 => exact pv 4
                              case q64 =>
                                refine' po_some ?q66
                                case q66 =>
                                  refine' pe_fldK (K := K) (by rfl) ?q67 rfl
                                  case q67 => exact pv 8
                              case q65 => exact po_none
                            case q62 => exact pa_nil
    -- the checks
    refine ⟨_, rfl, tA, tr, rfl, hT, hTz, hTn, fun wA H1 s1 f1 h1 => ?_⟩
    refine ⟨_, rfl, b, rfl, ?_⟩
    refine ⟨_, rfl, (n : Int), rfl, by omega, by omega, ?_⟩
    refine ⟨_, rfl, _, rfl, mA, ms, n, rfl, hM.same s1, hMz, hmn, fun sA H2 s2 f2 h2 => ?_⟩
    -- the yard
    refine ⟨_, rfl, _, rfl, fun y dy hy hdy hne => ⟨y, dy, wA, b, tr, rfl, upd_same, ?_, fun lA dA H3 hl hd k1 k2 k3 k4 => ⟨rfl, ?_⟩⟩⟩
    · have e := s2 _ _ h1
      rw [upd_ne (ne_of_none e hy), upd_ne (ne_of_none e hdy)]
      exact e
    have s3 : Same H2 H3 := fun c o e => k1 c o (by rw [upd_ne (ne_of_none e hy), upd_ne (ne_of_none e hdy)]; exact e) (ne_of_none e hy)
    have nlA : lA ≠ y := fun z => by rw [z, upd_same] at hl; cases hl
    have ndA : dA ≠ y := fun z => by rw [z, upd_same] at hd; cases hd
    have hl2 : H2 lA = none := by
      rw [upd_ne nlA] at hl
      have : lA ≠ dy := fun z => by rw [z, upd_same] at hl; cases hl
      rw [upd_ne this] at hl
      exact hl
    have hd2 : H2 dA = none := by
      rw [upd_ne ndA] at hd
      have : dA ≠ dy := fun z => by rw [z, upd_same] at hd; cases hd
      rw [upd_ne this] at hd
      exact hd
    have hw2 := s2 _ _ h1
    have hsA : sA ≠ lA := by
      obtain ⟨rs, hrs, _⟩ := h2
      exact ne_of_none hrs hl2
    have back : ∀ {H' : Hp}, (∀ a o, H3 a = some o → a ≠ y → a ≠ lA → a ≠ dA → H' a = some o) → Same H2 H' := fun {H'} z a o e =>
      z a o (s3 a o e) (ne_of_none e hy) (ne_of_none e hl2) (ne_of_none e hd2)
    refine ⟨_, rfl, y, dy, _, rfl, k4, (yfl_no _ _ _ _ _).2.2.1, _, rfl, b, y, wA, lA, dA, sA, dy, tr, n, ms, rfl, k4, s3 _ _ hw2, k2, k3, ne_of_none hw2 hl2, hsA, h2.same s3, hMz, hmn, by omega, fun st hst H4 tk m hm hY => ?_, fun i st m hst em hs d H4 k5 k6 hd5 hd6 => ?_⟩
    · obtain ⟨dy4, hy4⟩ := hY.ins
      have s4 : Same H2 H4 := back hY.oth
      refine ⟨_, rfl, y, _, dy4, _, _, rfl, hy4, T.k_Yard, T.a_Yard_left, yfl_left _ _ _ _ _, ?_⟩
      have hcl : st.tr.length = n := hY.len
      refine ⟨_, rfl, (n : Int), rfl, by omega, by omega, fun q hq => ?_⟩
      rw [Int.toNat_natCast]
      refine turns_range (lo := 0) (n := n) (fun i σ H5 => (∃ v, σ = [v, some (.ref y)]) ∧ Same H4 H5 ∧ ∃ ls : List Addr, H5 q = some (.lst (ls.map V.ref)) ∧ Paired (fun (l : Addr) (c : List Int) => H5 l = some (.lst (c.map V.int)) ∧ l ≠ q) ls (st.tr.take i))
        ⟨⟨_, rfl⟩, Same.upd hq, [], upd_same, .nil⟩ ?_ ?_
      · rintro i σ H5 hi ⟨⟨v, rfl⟩, s5, ls, g1, g2⟩
        have hY5 := hY.same s5
        obtain ⟨dy5, hy5⟩ := hY5.ins
        refine ⟨_, rfl, y, dy5, _, rfl, hy5, (yfl_no _ _ _ _ _).2.2.2, _, rfl, b, H3, y, wA, lA, dA, tr, n, st, tk, m, i, by simp, hY5, hi, fun u hu => ?_⟩
        have euq : q ≠ u := ne_of_none g1 hu
        refine ⟨_, upd_get g1 hu, ?_, ⟨_, rfl⟩, Same.updN (s5.trans (Same.upd hu)) hq, ls ++ [u], ?_, ?_⟩
        · rw [List.length_map, Paired.length g2, List.length_take]
          exact small1000 (by omega)
        · rw [upd_same, List.map_append]
          rfl
        · have ei : st.tr[i]? = some (st.tr.getD i []) := by rw [List.getD_eq_getElem?_getD, List.getElem?_eq_getElem (by omega)]; rfl
          rw [take_snoc ei]
          refine Paired.snoc' (Paired.imp (fun l c z => ⟨by rw [upd_ne z.2]; exact upd_get z.1 hu, z.2⟩) g2) ⟨?_, euq.symm⟩
          rw [upd_ne euq.symm, upd_same]
      · rintro σ H5 ⟨_, s5, ls, g1, g2⟩
        rw [List.take_of_length_le (by omega)] at g2
        have hY5 := hY.same s5
        obtain ⟨dy5, hy5⟩ := hY5.ins
        -- wagons[yard.come:]
        refine ⟨_, rfl, _, rfl, y, _, dy5, _, _, rfl, hy5, T.k_Yard, T.a_Yard_come, yfl_come _ _ _ _ _, (st.came : Int), rfl, wA, _, rfl, SqL.of hY5.wagH, fun eA heA => ?_⟩
        rw [cutV_from, ← List.map_drop]
        refine ⟨by show 3 ≤ _; decide, fun r hr' => ?_⟩
        have s7 : Same H5 (upd (upd H5 eA (.lst ((tr.drop st.came).map V.int))) r (.tup [.ref lA, .ref q, .ref eA])) := (Same.upd heA).trans (Same.upd hr')
        have sH := ((s1.trans s2).trans s4)
        refine kQ st hst r lA q eA ls _ ⟨sH.trans (s5.trans s7), upd_same, s7 _ _ hY5.left, s7 _ _ g1, Paired.imp (fun l c z => s7 _ _ z.1) g2, upd_get upd_same hr', ?_, ?_, ?_, ?_, ?_, ?_⟩
        · exact (s1.trans s2).free hl2
        · exact sH.free hq
        · exact (sH.trans s5).free heA
        · exact ne_of_none hY.left hq
        · exact ne_of_none hY5.left heA
        · exact ne_of_none g1 heA
    · exact kE i st m hst em hs d H4 ((s1.trans s2).trans (back k5)) ((s1.trans s2).free (s3.free hd5)) hd6
end
end My
/-! _law_inserted: a train by the cells. -/
namespace My
open PySem L2
section
variable {P : Program} {w : World} {K : PySem.W.Frag} {mg : Str → Option Value} {base : Heap} {Z : Adr}
theorem far_at (s : Int) : ∃ far : Int, 0 < far ∧ far ≤ 10000000 ∧ atI [V.int 1, V.int ((10 : Int) ^ (7 : Int).toNat), V.int 1] (s % 3) = some (.int far) := by
  have h1 := Int.emod_nonneg s (show (3 : Int) ≠ 0 by decide)
  have h2 := Int.emod_lt_of_pos s (show (0 : Int) < 3 by decide)
  rcases (show s % 3 = 0 ∨ s % 3 = 1 ∨ s % 3 = 2 by omega) with e | e | e <;> rw [e]
  · exact ⟨1, by decide, by decide, rfl⟩
  · exact ⟨10000000, by decide, by decide, rfl⟩
  · exact ⟨1, by decide, by decide, rfl⟩
def spI_inserted (K : PySem.W.Frag) : Sp := fun vs H Q _ => ∃ (a : Addr) (ns : List Int), vs = [.ref a] ∧ SqL K H a (ns.map V.int) ∧ ns.length < 64 ∧
  ∀ (p : Addr) (ps : List Nat) (far : Int) (H' : Hp), Same H H' → H p = none → H' p = some (.lst ((ps.map (Ins.wag ns far)).map V.int)) → 0 < far → far ≤ 10000000 → ps.Perm (List.range ns.length) → Q (.ref p) H'
theorem sc__law_inserted : FnScope ["_law_script", "_law_places", "_law_wagons", "_law_far", "_law_k", "_law_at"] ["_law_script"] (defScope s__law_inserted) := ⟨rfl, rfl, rfl, by decide +kernel, rfl, by decide +kernel, by decide +kernel⟩
theorem C__law_inserted (T : Tx K mg Z) : Ctr P w K mg base CX0 1 "_law_inserted" ["_law_script"] (spI_inserted K) := by
  refine ctr_of T._law_inserted fun f fd F => F.ok sc__law_inserted (fun vs H Q E h => ?_) (fun cdv A outer s H vs Q E hr h => ?_)
  · obtain ⟨a, ns, rfl, _⟩ := h
    rfl
  · obtain ⟨a, ns, rfl, hS, hz, k⟩ := h
    refine' ⟨_, ?hterm, ?_⟩
    case hterm =>
      refine' pss_cons ?q1 ?q2
      case q1 =>
        refine' ps_asg ?q3 ?q4 (hs := by kernel_rfl) (hw := by kernel_rfl)
        case q3 =>
          refine' pe_tup ?q5
          case q5 =>
            refine' pa_cons ?q6 ?q7
            case q6 =>
              refine' pe_lst ?q8
              case q8 => exact pa_nil
            case q7 =>
              refine' pa_cons ?q9 ?q10
              case q9 =>
                refine' pe_lst ?q11
                case q11 => exact pa_nil
              case q10 =>
                refine' pa_cons ?q12 ?q13
                case q12 =>
                  refine' pe_ix (ix_K (K := K) (by rfl)) ?q14 ?q15 (fun _ _ => rfl)
                  case q14 =>
                    refine' pe_tup ?q16
                    case q16 =>
                      refine' pa_cons ?q17 ?q18
                      case q17 => exact pe_int
                      case q18 =>
                        refine' pa_cons ?q19 ?q20
                        case q19 =>
                          refine' pe_op op_pow ?q21 ?q22
                          case q21 => exact pe_int
                          case q22 => exact pe_int
                        case q20 =>
                          refine' pa_cons ?q23 ?q24
                          case q23 => exact pe_int
                          case q24 => exact pa_nil
                  case q15 =>
                    refine' pe_op op_mod ?q25 ?q26
                    case q25 =>
                      refine' pe_callB (callK_sum (K := K) (by rfl) (by rfl)) (by rfl) T.n_sum b_sum ?q27
                      case q27 =>
                        refine' pa_cons ?q28 ?q29
                        case q28 => exact pv 0
                        case q29 => exact pa_nil
                    case q26 => exact pe_int
                case q13 => exact pa_nil
        case q4 =>
          refine' pg_tupK (K := K) (n := 3) (by rfl) rfl ?q30
          case q30 =>
            refine' pgs_cons ?q31 ?q32
            case q31 => exact pg_name (i := 1) sc__law_inserted.nd (by rfl) (by exact Or.inl rfl)
            case q32 =>
              refine' pgs_cons ?q33 ?q34
              case q33 => exact pg_name (i := 2) sc__law_inserted.nd (by rfl) (by exact Or.inr rfl)
              case q34 =>
                refine' pgs_cons ?q35 ?q36
                case q35 => exact pg_name (i := 3) sc__law_inserted.nd (by rfl) (by exact Or.inl rfl)
                case q36 => exact pgs_nil
      case q2 =>
        refine' pss_cons ?q37 ?q38
        case q37 =>
          refine' ps_for HP rfl ?q39 ?q40 ?q41
          case q39 =>
            refine' pi_range1 rfl T.n_range ?q42
            case q42 =>
              refine' pa_cons ?q43 ?q44
              case q43 =>
                refine' pe_callB (callK_len (K := K) (by rfl)) (by rfl) T.n_len b_len ?q45
                case q45 =>
                  refine' pa_cons ?q46 ?q47
                  case q46 => exact pv 0
                  case q47 => exact pa_nil
              case q44 => exact pa_nil
          case q40 => exact pg_name (i := 4) sc__law_inserted.nd (by rfl) (by exact Or.inl rfl)
          case q41 =>
            refine' pss_cons ?q48 ?q49
            case q48 =>
              refine' ps_set (i := 5) sc__law_inserted.nd rfl (Or.inl rfl) ?q50
              case q50 =>
                refine' pe_op op_mod ?q51 ?q52
                case q51 =>
                  refine' pe_ix (ix_K (K := K) (by rfl)) ?q53 ?q54 (fun _ _ => rfl)
                  case q53 => exact pv 0
                  case q54 => exact pv 4
                case q52 =>
                  refine' pe_op (op_addK (K := K) (by rfl)) ?q55 ?q56
                  case q55 => exact pv 4
                  case q56 => exact pe_int
            case q49 =>
              refine' pss_cons ?q57 ?q58
              case q57 =>
                refine' ps_set (i := 1) sc__law_inserted.nd rfl (Or.inl rfl) ?q59
                case q59 =>
                  refine' pe_op (op_addK (K := K) (by rfl)) ?q60 ?q61
                  case q60 =>
                    refine' pe_op (op_addK (K := K) (by rfl)) ?q62 ?q63
                    case q62 =>
                      refine' pe_slice (sl_K (K := K) (by rfl)) ?q64 ?q65 ?q66
                      case q64 => exact pv 1
                      case q65 => exact po_none
                      case q66 =>
                        refine' po_some ?q67
                        case q67 => exact pv 5
                    case q63 =>
                      refine' pe_lst ?q68
                      case q68 =>
                        refine' pa_cons ?q69 ?q70
                        case q69 => exact pv 4
                        case q70 => exact pa_nil
                  case q61 =>
                    refine' pe_slice (sl_K (K := K) (by rfl)) ?q71 ?q72 ?q73
                    case q71 => exact pv 1
                    case q72 =>
                      refine' po_some ?q74
                      case q74 => exact pv 5
                    case q73 => exact po_none
              case q58 =>
                refine' pss_one ?q75
                case q75 =>
                  refine' ps_expr ?q76
                  case q76 =>
                    refine' pe_bmK (K := K) (by rfl) PySem.F.plainAttrs_list PySem.F.slot_list_append PySem.F.type_list_append mt_append ?q77 ?q78
                    case q77 => exact pv 2
                    case q78 =>
                      refine' pa_cons ?q79 ?q80
                      case q79 =>
                        refine' pe_op op_mulU ?q81 ?q82
                        case q81 =>
                          refine' pe_op op_sub ?q83 ?q84
                          case q83 =>
                            refine' pe_op (op_addK (K := K) (by rfl)) ?q85 ?q86
                            case q85 =>
                              refine' pe_op op_mulU ?q87 ?q88
                              case q87 => exact pe_int
                              case q88 => exact pv 4
                            case q86 =>
                              refine' pe_op op_mod ?q89 ?q90
                              case q89 =>
                                refine' pe_op op_fdiv ?q91 ?q92
                                case q91 =>
                                  refine' pe_ix (ix_K (K := K) (by rfl)) ?q93 ?q94 (fun _ _ => rfl)
                                  case q93 => exact pv 0
                                  case q94 => exact pv 4
                                case q92 => exact pe_int
                              case q90 => exact pe_int
                          case q84 => exact pe_int
                        case q82 => exact pv 3
                      case q80 => exact pa_nil
        case q38 =>
          refine' pss_one ?q95
          case q95 =>
            refine' ps_ret ?q96
            case q96 =>
              refine' pe_comp rfl (csc_of (sc := defScope s__law_inserted) (N := ["_law_script", "_law_places", "_law_wagons", "_law_far", "_law_k", "_law_at"]) (cap := [none, some 2]) (N' := ["_law_k", "_law_wagons"]) rfl rfl ⟨ rfl, by decide +kernel, by decide +kernel, by decide +kernel, rfl, by decide +kernel ⟩) ?q97 (fun _ _ _ _ => ?q98) (fun _ _ _ _ => ?q99) (fun _ _ _ _ => ?q100)
              case q97 =>
                refine' pi_listK (K := K) (by rfl) ?q101
                case q101 => exact pv 1
              case q98 => exact pg_name (i := 0) (show List.Nodup (["_law_k", "_law_wagons"] : List Str) from by decide +kernel) (by rfl) (by exact Or.inl rfl)
              case q99 => exact pif_nil
              case q100 =>
                refine' pe_ix (ix_K (K := K) (by rfl)) ?q102 ?q103 (fun _ _ => rfl)
                case q102 => exact pv 1
                case q103 => exact pv 0
    obtain ⟨far, hf1, hf2, hat⟩ := far_at ns.sum
    refine ⟨Nat.zero_le _, fun pA hpA => ⟨Nat.zero_le _, fun wA hwA => ?_⟩⟩
    have s1 : Same H (upd (upd H pA (.lst [])) wA (.lst [])) := (Same.upd hpA).trans (Same.upd hwA)
    refine ⟨10, 7, rfl, rfl, ⟨by decide, by decide, by decide⟩, (by show 3 ≤ sizeLine; decide), fun tA htA => ?_⟩
    have s2 := s1.trans (Same.upd (o := .tup [.int 1, .int ((10 : Int) ^ (7 : Int).toNat), .int 1]) htA)
    refine ⟨_, rfl, a, ns, rfl, s2.seq hS, _, 3, rfl, rfl, (by show (0 : Int) < 3; decide), .inr ⟨tA, _, _, .int far, rfl, rfl, SqT.of upd_same, hat, ?_⟩⟩
    refine ⟨(by show 3 ≤ sizeLine; decide), fun uA huA => ⟨uA, _, rfl, SqT.of upd_same, rfl, _, _, rfl, _, _, rfl, _, _, rfl, rfl, ?_⟩⟩
    have s3 := s2.trans (Same.upd (o := .tup [.ref pA, .ref wA, .int far]) huA)
    have epw : pA ≠ wA := ne_of_none upd_same hwA
    refine ⟨_, rfl, _, _, rfl, .inl ⟨_, s3.seq hS, rfl⟩, _, rfl, ?_, ?_, ?_⟩
    · rw [List.length_map]; omega
    · rw [List.length_map]; omega
    rw [Int.toNat_natCast, List.length_map]
    have hp0 : upd (upd (upd (upd H pA (.lst [])) wA (.lst [])) tA (.tup [.int 1, .int ((10 : Int) ^ (7 : Int).toNat), .int 1])) uA (.tup [.ref pA, .ref wA, .int far]) pA = some (.lst []) := upd_get (upd_get (upd_get upd_same hwA) htA) huA
    have hw0 : upd (upd (upd (upd H pA (.lst [])) wA (.lst [])) tA (.tup [.int 1, .int ((10 : Int) ^ (7 : Int).toNat), .int 1])) uA (.tup [.ref pA, .ref wA, .int far]) wA = some (.lst []) := upd_get (upd_get upd_same htA) huA
    have hwH : H wA = none := (Same.upd hpA).free hwA
    refine for_range (lo := 0) (n := ns.length) (fun i σ H2 => ∃ (qA : Addr) (ps : List Nat) (v4 v5 : Option V), σ = [some (.ref a), some (.ref qA), some (.ref wA), some (.int far), v4, v5] ∧ Same H H2 ∧ ps.Perm (List.range i) ∧
        H2 qA = some (.lst (ps.map fun (j : Nat) => V.int (j : Int))) ∧ H2 wA = some (.lst ((List.range i).map fun j => V.int (Ins.wag ns far j))) ∧ qA ≠ wA)
      ⟨pA, [], none, none, rfl, s3, .refl _, hp0, hw0, epw⟩ ?_ ?_
    · rintro i σ H2 hi ⟨qA, ps, v4, v5, rfl, sm, hperm, hq, hw, eqw⟩
      obtain ⟨c, ec⟩ : ∃ c, ns[i]? = some c := ⟨_, List.getElem?_eq_getElem hi⟩
      have ecV : (ns.map V.int)[i]? = some (.int c) := by rw [List.getElem?_map, ec]; rfl
      have eD : ns.getD i 0 = c := by rw [List.getD_eq_getElem?_getD, ec]; rfl
      rw [show (0 : Int) + (i : Int) = (i : Int) from Int.zero_add _]
      have hpl : ps.length = i := by rw [hperm.length_eq, List.length_range]
      -- _law_at
      refine ⟨_, rfl, _, rfl, .inl ⟨a, _, _, .int c, rfl, rfl, sm.seq hS, atI_nat ecV, ?_⟩⟩
      refine ⟨_, rfl, .inl ⟨_, 1, rfl, rfl, _, _, rfl, rfl, (by omega), ?_⟩⟩
      have a0 := Int.emod_nonneg c (show (i : Int) + 1 ≠ 0 by omega)
      have a1 := Int.emod_lt_of_pos c (show (0 : Int) < (i : Int) + 1 by omega)
      obtain ⟨at_, hat⟩ : ∃ n : Nat, c % ((i : Int) + 1) = (n : Int) := ⟨(c % ((i : Int) + 1)).toNat, by omega⟩
      dsimp only
      rw [hat]
      -- _law_places
      refine ⟨_, rfl, _, rfl, _, rfl, qA, _, rfl, SqL.of hq, fun b1 hb1 => ?_⟩
      rw [cutV_to, ← List.map_take]
      refine ⟨_, rfl, (by show 1 ≤ sizeLine; decide), fun b2 hb2 => ?_⟩
      refine .inr (.inl ⟨b1, b2, _, _, rfl, rfl, upd_get upd_same hb2, upd_same, ?_, fun b3 hb3 => ?_⟩)
      · simp only [List.length_map, List.length_take, List.length_cons, List.length_nil]
        exact Nat.le_of_lt (small1000 (by omega))
      have t1 : Same H2 (upd (upd (upd H2 b1 (.lst ((ps.take at_).map fun (j : Nat) => V.int (j : Int)))) b2 (.lst [.int i])) b3 (.lst ((ps.take at_).map (fun (j : Nat) => V.int (j : Int)) ++ [.int i]))) := ((Same.upd hb1).trans (Same.upd hb2)).trans (Same.upd hb3)
      refine ⟨_, rfl, _, rfl, _, rfl, qA, _, rfl, SqL.of (t1 _ _ hq), fun b4 hb4 => ?_⟩
      rw [cutV_from, ← List.map_drop]
      refine .inr (.inl ⟨b3, b4, _, _, rfl, rfl, upd_get upd_same hb4, upd_same, ?_, fun b5 hb5 => ?_⟩)
      · simp only [List.length_append, List.length_map, List.length_take, List.length_drop, List.length_cons, List.length_nil]
        exact Nat.le_of_lt (small1000 (by omega))
      have t2 := (t1.trans (Same.upd (o := .lst ((ps.drop at_).map fun (j : Nat) => V.int (j : Int))) hb4)).trans (Same.upd (o := .lst ((ps.take at_).map (fun (j : Nat) => V.int (j : Int)) ++ [.int i] ++ (ps.drop at_).map (fun (j : Nat) => V.int (j : Int)))) hb5)
      have hw5 := t2 _ _ hw
      have e5w : b5 ≠ wA := fun z => by
        rw [z] at hb5
        have := t1.trans (Same.upd (o := .lst ((ps.drop at_).map fun (j : Nat) => V.int (j : Int))) hb4) _ _ hw
        rw [this] at hb5
        cases hb5
      -- append
      refine ⟨_, rfl, .inl ⟨rfl, _, SqL.of hw5⟩, ?_⟩
      refine ⟨_, rfl, .inl ⟨7, _, rfl, rfl, .inl ⟨by decide, by decide⟩, ?_⟩⟩
      refine ⟨_, rfl, _, rfl, .inl ⟨a, _, _, .int c, rfl, rfl, (sm.trans t2).seq hS, atI_nat ecV, ?_⟩⟩
      refine ⟨_, 3, rfl, rfl, ⟨by decide, by decide⟩, _, 7, rfl, rfl, (by show (0 : Int) < 7; decide), .inl ⟨_, _, rfl, rfl, _, 90, rfl, rfl, _, rfl, .inl ⟨_, far, rfl, rfl, .inr ⟨by omega, by omega⟩, ?_⟩⟩⟩
      refine ⟨wA, _, _, rfl, rfl, hw5, ?_, ?_⟩
      · rw [List.length_map, List.length_range]
        exact small1000 (by omega)
      refine ⟨b5, ps.take at_ ++ [i] ++ ps.drop at_, _, _, rfl, Same.updN (sm.trans t2) hwH, Ins.perm_ins hperm, ?_, ?_, e5w⟩
      · rw [upd_ne e5w, upd_same, List.map_append, List.map_append]
        rfl
      · rw [upd_same, List.range_succ, List.map_append]
        show some (HO.lst (_ ++ [V.int ((7 * (i : Int) + c / 3 % 7 - 90) * far)])) = some (HO.lst (_ ++ [V.int (Ins.wag ns far i)]))
        unfold Ins.wag
        rw [eD]
    · rintro σ H2 ⟨qA, ps, v4, v5, rfl, sm, hperm, hq, hw, eqw⟩
      refine ⟨_, rfl, qA, rfl, ⟨_, SqL.of hq⟩, fun p hp => ?_⟩
      refine turns_list (K := K) (a := qA) (xs := ps.map fun (j : Nat) => V.int (j : Int)) (fun i σ H3 => (∃ v, σ = [v, some (.ref wA)]) ∧ Same H2 H3 ∧ H3 p = some (.lst (((ps.take i).map (Ins.wag ns far)).map V.int)))
        ⟨⟨_, rfl⟩, Same.upd hp, upd_same⟩ (fun i σ H3 _ h => SqL.of (h.2.1 _ _ hq)) ?_ ?_
      · rintro i x σ H3 hx ⟨⟨v, rfl⟩, s4, h4⟩
        obtain ⟨j, ej, rfl⟩ := getMap hx
        have hj : j < ns.length := Ins.perm_lt hperm (List.mem_of_getElem? ej)
        refine ⟨_, rfl, _, rfl, .inl ⟨wA, _, _, .int (Ins.wag ns far j), rfl, rfl, SqL.of (s4 _ _ hw), atI_nat ?_, _, h4, ?_, ⟨_, rfl⟩, Same.updN s4 hp, ?_⟩⟩
        · rw [List.getElem?_map, List.getElem?_range hj]
          rfl
        · rw [List.length_map, List.length_map, List.length_take]
          have : ps.length = ns.length := by rw [hperm.length_eq, List.length_range]
          exact small1000 (by omega)
        · rw [upd_same, take_snoc ej, List.map_append, List.map_append]
          rfl
      · rintro σ H3 ⟨_, s4, h4⟩
        rw [List.length_map, List.take_length] at h4
        exact k p ps far H3 (sm.trans s4) (sm.free hp) h4 hf1 hf2 hperm
end
end My
/-! _law_yard, _law_kept. -/
namespace My
open PySem L2
section
variable {P : Program} {w : World} {K : PySem.W.Frag} {mg : Str → Option Value} {base : Heap} {Z : Adr}
def YdPre (H : Hp) (tA mA : Addr) (n : Nat) (T : List Int) (ms : List Yd.Mv) : Prop := H tA = some (.lst (T.map V.int)) ∧ T.length < 64 ∧ MovesAt H mA ms ∧ ms.length ≤ 1000 ∧ 1 ≤ n ∧ n ≤ 100 ∧ ∀ m ∈ ms, m.2 < n
def sp_yard (K : PySem.W.Frag) : Sp := fun vs H Q _ => ∃ (tA mA : Addr) (b : Bool) (n : Nat) (T : List Int) (ms : List Yd.Mv), vs = [.ref tA, .bl b, .int n, .ref mA] ∧ YdPre H tA mA n T ms ∧
  ∀ r t3 H', Same H H' → H' r = some (.tup [.ref t3, .int ((Yd.go T b (Yd.init n) ms).2 : Int)]) → DV K H' (.ref t3) (dY T (Yd.go T b (Yd.init n) ms).1) → Q (.ref r) H'
theorem sc__law_yard : FnScope ["_law_train", "_law_blind", "_law_many", "_law_moves", "_law_tracks", "_law_left", "_law_came", "_law_at", "_law_deed", "_law_track"] ["_law_train", "_law_blind", "_law_many", "_law_moves"] (defScope s__law_yard) := ⟨rfl, rfl, rfl, by decide +kernel, rfl, by decide +kernel, by decide +kernel⟩
theorem C__law_yard (T : Tx K mg Z) : Ctr P w K mg base CX0 1 "_law_yard" ["_law_train", "_law_blind", "_law_many", "_law_moves"] (sp_yard K) := by
  refine ctr_of T._law_yard fun f fd F => F.ok sc__law_yard (fun vs H Q E h => ?_) (fun cdv A outer s H vs Q E hr h => ?_)
  · obtain ⟨tA, mA, b, n, T, ms, rfl, _⟩ := h
    rfl
  · obtain ⟨tA, mA, b, n, tr, ms, rfl, ⟨hT, hTz, ⟨rs, hrs, hprs⟩, hMz, hn1, hn2, hmn⟩, k⟩ := h
    refine' ⟨_, ?hterm, ?_⟩
    case hterm =>
      refine' pss_cons ?q1 ?q2
      case q1 =>
        refine' ps_par3 (i := 4) (j := 5) (k := 6) rfl sc__law_yard.nd rfl rfl rfl (by decide) (by decide) (by decide) rfl rfl rfl ?q3 (by kernel_rfl) (hs := by kernel_rfl)
        case q3 =>
          refine' pa_cons ?q4 ?q5
          case q4 =>
            refine' pe_comp rfl (csc_of (sc := defScope s__law_yard) (N := ["_law_train", "_law_blind", "_law_many", "_law_moves", "_law_tracks", "_law_left", "_law_came", "_law_at", "_law_deed", "_law_track"]) (cap := [none]) (N' := ["_law_track"]) rfl rfl ⟨ rfl, by decide +kernel, by decide +kernel, by decide +kernel, rfl, by decide +kernel ⟩) ?q6 (fun _ _ _ _ => ?q7) (fun _ _ _ _ => ?q8) (fun _ _ _ _ => ?q9)
            case q6 =>
              refine' pi_range1 rfl T.n_range ?q10
              case q10 =>
                refine' pa_cons ?q11 ?q12
                case q11 => exact pv 2
                case q12 => exact pa_nil
            case q7 => exact pg_name (i := 0) (show List.Nodup (["_law_track"] : List Str) from by decide +kernel) (by rfl) (by exact Or.inl rfl)
            case q8 => exact pif_nil
            case q9 =>
              refine' pe_lst ?q13
              case q13 => exact pa_nil
          case q5 =>
            refine' pa_cons ?q14 ?q15
            case q14 =>
              refine' pe_lst ?q16
              case q16 => exact pa_nil
            case q15 =>
              refine' pa_cons ?q17 ?q18
              case q17 => exact pe_int
              case q18 => exact pa_nil
      case q2 =>
        refine' pss_cons ?q19 ?q20
        case q19 =>
          refine' ps_for HP rfl ?q21 ?q22 ?q23
          case q21 =>
            refine' pi_range1 rfl T.n_range ?q24
            case q24 =>
              refine' pa_cons ?q25 ?q26
              case q25 =>
                refine' pe_callB (callK_len (K := K) (by rfl)) (by rfl) T.n_len b_len ?q27
                case q27 =>
                  refine' pa_cons ?q28 ?q29
                  case q28 => exact pv 3
                  case q29 => exact pa_nil
              case q26 => exact pa_nil
          case q22 => exact pg_name (i := 7) sc__law_yard.nd (by rfl) (by exact Or.inl rfl)
          case q23 =>
            refine' pss_cons ?q30 ?q31
            case q30 =>
              refine' ps_asg ?q32 ?q33
              case q32 =>
                refine' pe_ix (ix_K (K := K) (by rfl)) ?q34 ?q35 (fun _ _ => rfl)
                case q34 => exact pv 3
                case q35 => exact pv 7
              case q33 =>
                refine' pg_tupK (K := K) (n := 2) (by rfl) rfl ?q36
                case q36 =>
                  refine' pgs_cons ?q37 ?q38
                  case q37 => exact pg_name (i := 8) sc__law_yard.nd (by rfl) (by exact Or.inl rfl)
                  case q38 =>
                    refine' pgs_cons ?q39 ?q40
                    case q39 => exact pg_name (i := 9) sc__law_yard.nd (by rfl) (by exact Or.inl rfl)
                    case q40 => exact pgs_nil
            case q31 =>
              refine' pss_one ?q41
              case q41 =>
                refine' ps_if ?q42 ?q43 ?q44
                case q42 =>
                  refine' PW.pt ?q45
                  case q45 =>
                    refine' pw_and ?q46 ?q47
                    case q46 =>
                      refine' pt_cmpR (op_eqK (K := K) (by rfl) (by exact hr.units)) ?q48 ?q49 (nomark _)
                      case q48 => exact pv 8
                      case q49 => exact pe_str
                    case q47 =>
                      refine' pw_and1 ?q50
                      case q50 =>
                        refine' pt_cmpR op_lt ?q51 ?q52 (nomark _)
                        case q51 => exact pv 6
                        case q52 =>
                          refine' pe_callB (callK_len (K := K) (by rfl)) (by rfl) T.n_len b_len ?q53
                          case q53 =>
                            refine' pa_cons ?q54 ?q55
                            case q54 => exact pv 0
                            case q55 => exact pa_nil
                case q43 =>
                  refine' pss_cons ?q56 ?q57
                  case q56 =>
                    refine' ps_expr ?q58
                    case q58 =>
                      refine' pe_bmK (K := K) (by rfl) PySem.F.plainAttrs_list PySem.F.slot_list_append PySem.F.type_list_append mt_append ?q59 ?q60
                      case q59 =>
                        refine' pe_ix (ix_K (K := K) (by rfl)) ?q61 ?q62 (fun _ _ => rfl)
                        case q61 => exact pv 4
                        case q62 => exact pv 9
                      case q60 =>
                        refine' pa_cons ?q63 ?q64
                        case q63 =>
                          refine' pe_ix (ix_K (K := K) (by rfl)) ?q65 ?q66 (fun _ _ => rfl)
                          case q65 => exact pv 0
                          case q66 => exact pv 6
                        case q64 => exact pa_nil
                  case q57 =>
                    refine' pss_one ?q67
                    case q67 =>
                      refine' ps_set (i := 6) sc__law_yard.nd rfl (Or.inl rfl) ?q68
                      case q68 =>
                        refine' pe_op (op_addK (K := K) (by rfl)) ?q69 ?q70
                        case q69 => exact pv 6
                        case q70 => exact pe_int
                case q44 =>
                  refine' pss_one ?q71
                  case q71 =>
                    refine' ps_if ?q72 ?q73 ?q74
                    case q72 =>
                      refine' PW.pt ?q75
                      case q75 =>
                        refine' pw_and ?q76 ?q77
                        case q76 =>
                          refine' pt_cmpR (op_eqK (K := K) (by rfl) (by exact hr.units)) ?q78 ?q79 (nomark _)
                          case q78 => exact pv 8
                          case q79 => exact pe_str
                        case q77 =>
                          refine' pw_and1 ?q80
                          case q80 =>
                            refine' pt_cmpR (op_neK (K := K) (by rfl) (by exact hr.units)) ?q81 ?q82 (nomark _)
                            case q81 =>
                              refine' pe_ix (ix_K (K := K) (by rfl)) ?q83 ?q84 (fun _ _ => rfl)
                              case q83 => exact pv 4
                              case q84 => exact pv 9
                            case q82 =>
                              refine' pe_lst ?q85
                              case q85 => exact pa_nil
                    case q73 =>
                      refine' pss_one ?q86
                      case q86 =>
                        refine' ps_expr ?q87
                        case q87 =>
                          refine' pe_bmK (K := K) (by rfl) PySem.F.plainAttrs_list PySem.F.slot_list_append PySem.F.type_list_append mt_append ?q88 ?q89
                          case q88 => exact pv 5
                          case q89 =>
                            refine' pa_cons ?q90 ?q91
                            case q90 =>
                              refine' pe_ifExp ?q92 ?q93 ?q94
                              case q92 =>
                                refine' pt_truK (K := K) (by rfl) ?q95 (fun _ => rfl)
                                case q95 => exact pv 1
                              case q93 =>
                                refine' pe_bmK0 (K := K) (by rfl) PySem.F.plainAttrs_list PySem.F.slot_list_pop PySem.F.type_list_pop mt_popU ?q96
                                case q96 =>
                                  refine' pe_ix (ix_K (K := K) (by rfl)) ?q97 ?q98 (fun _ _ => rfl)
                                  case q97 => exact pv 4
                                  case q98 => exact pv 9
                              case q94 =>
                                refine' pe_bmK (K := K) (by rfl) PySem.F.plainAttrs_list PySem.F.slot_list_pop PySem.F.type_list_pop mt_popU ?q99 ?q100
                                case q99 =>
                                  refine' pe_ix (ix_K (K := K) (by rfl)) ?q101 ?q102 (fun _ _ => rfl)
                                  case q101 => exact pv 4
                                  case q102 => exact pv 9
                                case q100 =>
                                  refine' pa_cons ?q103 ?q104
                                  case q103 => exact pe_int
                                  case q104 => exact pa_nil
                            case q91 => exact pa_nil
                    case q74 =>
                      refine' pss_one ?q105
                      case q105 =>
                        refine' ps_ret ?q106
                        case q106 =>
                          refine' pe_tup ?q107
                          case q107 =>
                            refine' pa_cons ?q108 ?q109
                            case q108 =>
                              refine' pe_tup ?q110
                              case q110 =>
                                refine' pa_cons ?q111 ?q112
                                case q111 => exact pv 5
                                case q112 =>
                                  refine' pa_cons ?q113 ?q114
                                  case q113 => exact pv 4
                                  case q114 =>
                                    refine' pa_cons ?q115 ?q116
                                    case q115 =>
                                      refine' pe_slice (sl_K (K := K) (by rfl)) ?q117 ?q118 ?q119
                                      case q117 => exact pv 0
                                      case q118 =>
                                        refine' po_some ?q120
                                        case q120 => exact pv 6
                                      case q119 => exact po_none
                                    case q116 => exact pa_nil
                            case q109 =>
                              refine' pa_cons ?q121 ?q122
                              case q121 => exact pv 7
                              case q122 => exact pa_nil
        case q20 =>
          refine' pss_one ?q123
          case q123 =>
            refine' ps_ret ?q124
            case q124 =>
              refine' pe_tup ?q125
              case q125 =>
                refine' pa_cons ?q126 ?q127
                case q126 =>
                  refine' pe_tup ?q128
                  case q128 =>
                    refine' pa_cons ?q129 ?q130
                    case q129 => exact pv 5
                    case q130 =>
                      refine' pa_cons ?q131 ?q132
                      case q131 => exact pv 4
                      case q132 =>
                        refine' pa_cons ?q133 ?q134
                        case q133 =>
                          refine' pe_slice (sl_K (K := K) (by rfl)) ?q135 ?q136 ?q137
                          case q135 => exact pv 0
                          case q136 =>
                            refine' po_some ?q138
                            case q138 => exact pv 6
                          case q137 => exact po_none
                        case q134 => exact pa_nil
                case q127 =>
                  refine' pa_cons ?q139 ?q140
                  case q139 =>
                    refine' pe_callB (callK_len (K := K) (by rfl)) (by rfl) T.n_len b_len ?q141
                    case q141 =>
                      refine' pa_cons ?q142 ?q143
                      case q142 => exact pv 3
                      case q143 => exact pa_nil
                  case q140 => exact pa_nil
    have hrl : rs.length = ms.length := Paired.length hprs
    -- the tracks
    refine ⟨_, rfl, (n : Int), rfl, by omega, by omega, fun kA hkA => ?_⟩
    rw [Int.toNat_natCast]
    refine turns_range (lo := 0) (n := n) (fun i σ H3 => (∃ v, σ = [v]) ∧ Same H H3 ∧ ∃ ls : List Addr, Yds H H3 kA ls (List.replicate i []))
      ⟨⟨_, rfl⟩, Same.upd hkA, [], upd_same, rfl, fun j l e => by simp at e, fun i j l e => by simp at e⟩ ?_ ?_
    · rintro i σ H3 hi ⟨⟨v, rfl⟩, s3, ls, hy⟩
      refine ⟨Nat.zero_le _, fun l hl => ⟨_, (hy.same (Same.upd hl)).lst, ?_, ⟨_, rfl⟩, ?_, ls ++ [l], ?_⟩⟩
      · rw [List.length_map, hy.len, List.length_replicate]
        exact small1000 (by omega)
      · exact Same.updN (s3.trans (Same.upd hl)) hkA
      · have := hy.push s3 hl
        rw [List.replicate_succ']
        exact this
    rintro σ H3 ⟨_, s3, ls, hy⟩
    refine ⟨Nat.zero_le _, fun lA hlA => ⟨_, _, _, rfl, ?_⟩⟩
    have s4 : Same H3 (upd H3 lA (.lst [])) := Same.upd hlA
    have hlH : H lA = none := s3.free hlA
    have ekl : kA ≠ lA := ne_of_none hy.lst hlA
    have ell : ∀ (j : Nat) l, ls[j]? = some l → l ≠ lA := fun j l e => by
      obtain ⟨c, _, a, _⟩ := hy.each j l e
      exact ne_of_none a hlA
    have hmS : ∀ {H4 : Hp}, Same H H4 → H4 mA = some (.lst (rs.map V.ref)) := fun s => s _ _ hrs
    refine ⟨_, rfl, _, _, rfl, .inl ⟨_, SqL.of (hmS (s3.trans s4)), rfl⟩, _, rfl, ?_, ?_, ?_⟩
    · rw [List.length_map]; omega
    · rw [List.length_map]; omega
    rw [Int.toNat_natCast, List.length_map]
    refine for_range (lo := 0) (n := rs.length) (fun i σ H5 => ∃ (st : Yd.St) (v7 v8 v9 : Option V) (c6 : Int), c6 = (st.came : Int) ∧ σ = [some (.ref tA), some (.bl b), some (.int n), some (.ref mA), some (.ref kA), some (.ref lA), some (.int c6), v7, v8, v9] ∧
        Same H H5 ∧ Yd.steps tr b (Yd.init n) (ms.take i) = some st ∧ Yds H H5 kA ls st.tr ∧ H5 lA = some (.lst (st.left.map V.int)) ∧ st.left.length ≤ i)
      ⟨Yd.init n, none, none, none, _, rfl, rfl, s3.trans s4, rfl, hy.same s4, upd_same, Nat.le_refl _⟩ ?_ ?_
    · rintro i σ H5 hi ⟨st, v7, v8, v9, _, rfl, rfl, sm, hst, hys, hL, hll⟩
      rw [show (0 : Int) + (i : Int) = (i : Int) from Int.zero_add _]
      obtain ⟨r, er⟩ : ∃ r, rs[i]? = some r := ⟨_, List.getElem?_eq_getElem hi⟩
      obtain ⟨m, em, hm⟩ := Paired.get hprs er
      have hm5 := sm _ _ hm
      have hmn' := hmn m (List.mem_of_getElem? em)
      have hcl := Yd.steps_came hst (Nat.zero_le _)
      have htl : st.tr.length = n := by rw [Yd.steps_len hst]; show (List.replicate n ([] : List Int)).length = n; rw [List.length_replicate]
      obtain ⟨l, el⟩ : ∃ l, ls[m.2]? = some l := ⟨_, List.getElem?_eq_getElem (by rw [hys.len, htl]; exact hmn')⟩
      obtain ⟨c, ec, hl, hl0, hlk⟩ := hys.each _ _ el
      have eD : st.tr.getD m.2 [] = c := by rw [List.getD_eq_getElem?_getD, ec]; rfl
      have elV : (ls.map V.ref)[m.2]? = some (.ref l) := by rw [List.getElem?_map, el]; rfl
      have hT5 := sm _ _ hT
      have llA := ell _ _ el
      -- deed, track = moves[at]
      refine ⟨_, rfl, _, rfl, .inl ⟨mA, _, _, .ref r, rfl, rfl, SqL.of (hmS sm), atI_nat (by rw [List.getElem?_map, er]; rfl), r, _, rfl, SqT.of hm5, rfl, _, _, rfl, _, _, rfl, rfl, ?_⟩⟩
      -- the end at a stuck one
      have fin : ∀ (H6 : Hp), Same H5 H6 → Yd.step tr b st m = none → ∀ eA, H6 eA = none → 3 ≤ sizeLine ∧ ∀ t3, (upd H6 eA (.lst ((tr.drop st.came).map V.int))) t3 = none → 2 ≤ sizeLine ∧ ∀ r', (upd (upd H6 eA (.lst ((tr.drop st.came).map V.int))) t3 (.tup [.ref lA, .ref kA, .ref eA])) r' = none →
          Q (.ref r') (upd (upd (upd H6 eA (.lst ((tr.drop st.came).map V.int))) t3 (.tup [.ref lA, .ref kA, .ref eA])) r' (.tup [.ref t3, .int (i : Int)])) := fun H6 s6 hs eA heA => by
        refine ⟨by decide, fun t3 ht3 => ⟨by decide, fun r' hr' => ?_⟩⟩
        have hgo := Yd.go_stuck hst em hs
        have s7 := ((s6.trans (Same.upd (o := .lst ((tr.drop st.came).map V.int)) heA)).trans (Same.upd (o := .tup [.ref lA, .ref kA, .ref eA]) ht3)).trans (Same.upd (o := .tup [.ref t3, .int (i : Int)]) hr')
        refine k r' t3 _ (sm.trans s7) (by rw [upd_same, hgo]) ?_
        rw [hgo]
        exact .tup (SqT.of (upd_get upd_same hr')) (.cons (.ints (SqL.of (s7 _ _ hL))) (.cons (hys.same s7).dv (.cons (.ints (SqL.of (upd_get (upd_get upd_same ht3) hr'))) .nil)))
      obtain ⟨m1, m2⟩ := m
      refine ⟨_, rfl, .inl ⟨rfl, _, rfl, ?_⟩⟩
      cases m1 with
      | true =>
        refine iteDT deed_true ?_
        refine ⟨_, rfl, _, rfl, _, _, rfl, .inl ⟨_, SqL.of hT5, rfl⟩, _, _, rfl, rfl, _, rfl, ?_⟩
        refine iteDB (fun hlt => ?_) (fun hlt => ?_)
        · rw [List.length_map] at hlt
          obtain ⟨x, ex⟩ : ∃ x, tr[st.came]? = some x := ⟨_, List.getElem?_eq_getElem (by omega)⟩
          refine ⟨_, rfl, _, rfl, .inl ⟨kA, _, _, .ref l, rfl, rfl, SqL.of hys.lst, atI_nat elV, .inl ⟨rfl, _, SqL.of hl⟩, ?_⟩⟩
          refine ⟨_, rfl, _, rfl, .inl ⟨tA, _, _, .int x, rfl, rfl, SqL.of hT5, atI_nat (by rw [List.getElem?_map, ex]; rfl), l, _, _, rfl, rfl, hl, ?_, ?_⟩⟩
          · rw [List.length_map]
            have := Yd.steps_size hst (j := m2) (c := c) ec
            exact small1000 (by omega)
          refine ⟨_, rfl, .inl ⟨_, 1, rfl, rfl, ?_⟩⟩
          have hs : Yd.step tr b st (true, m2) = some ⟨st.tr.set m2 (c ++ [x]), st.left, st.came + 1⟩ := by
            unfold Yd.step
            rw [if_pos rfl, ex]
            show some (Yd.St.mk (st.tr.set m2 (st.tr.getD m2 [] ++ [x])) st.left (st.came + 1)) = _
            rw [eD]
          have e1 : (st.came : Int) + 1 = ((st.came + 1 : Nat) : Int) := by omega
          have y6 := hys.set el (c ++ [x])
          rw [List.map_append] at y6
          exact ⟨_, _, _, _, _, e1, rfl, Same.updN sm hl0, steps_next hst em hs, y6, by rw [upd_ne llA.symm]; exact hL, Nat.le_succ_of_le hll⟩
        · rw [List.length_map] at hlt
          refine ⟨_, rfl, .inl ⟨rfl, _, rfl, iteDF deed_ne' ?_⟩⟩
          refine iteF ⟨_, rfl, _, rfl, _, rfl, _, rfl, _, rfl, tA, _, rfl, SqL.of hT5, fun eA heA => ?_⟩
          rw [cutV_from, ← List.map_drop]
          obtain ⟨z1, z2⟩ := fin H5 (Same.refl _) (by unfold Yd.step; rw [if_pos rfl, List.getElem?_eq_none_iff.mpr (by omega)]) eA heA
          refine ⟨z1, fun t3 ht3 => ?_⟩
          obtain ⟨z3, z4⟩ := z2 t3 ht3
          exact ⟨_, rfl, z3, z4⟩
      | false =>
        refine iteDF deed_ne (iteF ?_)
        refine ⟨_, rfl, .inl ⟨rfl, _, rfl, iteDT deed_false ?_⟩⟩
        refine ⟨_, rfl, _, rfl, .inl ⟨kA, _, _, .ref l, rfl, rfl, SqL.of hys.lst, atI_nat elV, ?_⟩⟩
        refine ⟨Nat.zero_le _, fun eL heL => .inr ⟨dI c, dI [], .ints (SqL.of (upd_get hl heL)), .ints (SqL.of upd_same), ok_ints _ _, ok_ints _ _, _, rfl, ?_⟩⟩
        have sE : Same H5 (upd H5 eL (.lst [])) := Same.upd heL
        have yE := hys.same sE
        have hlE := sE _ _ hl
        refine iteNB (fun hc => ?_) (fun hc => ?_)
        · have hne : c ≠ [] := fun z => hc (by rw [z])
          have hpos : 0 < c.length := List.length_pos_iff.mpr hne
          refine ⟨_, rfl, .inl ⟨rfl, _, SqL.of (sE _ _ hL)⟩, ?_⟩
          refine ⟨_, rfl, b, rfl, ?_⟩
          cases b with
          | true =>
            obtain ⟨x, ex⟩ : ∃ x, c[c.length - 1]? = some x := ⟨_, List.getElem?_eq_getElem (by omega)⟩
            refine iteT ⟨_, rfl, _, rfl, .inl ⟨kA, _, _, .ref l, rfl, rfl, SqL.of yE.lst, atI_nat elV, .inl ⟨rfl, _, SqL.of hlE⟩, .inl ⟨l, _, .int x, rfl, rfl, hlE, ?_, ?_⟩⟩⟩
            · rw [List.length_map, List.getElem?_map, ex]; rfl
            have hL6 : upd (upd H5 eL (.lst [])) l (.lst ((c.map V.int).dropLast)) lA = some (.lst (st.left.map V.int)) := by rw [upd_ne llA.symm]; exact sE _ _ hL
            refine ⟨lA, _, _, rfl, rfl, hL6, by rw [List.length_map]; exact small1000 (by omega), ?_⟩
            have hs : Yd.step tr true st (false, m2) = some ⟨st.tr.set m2 c.dropLast, st.left ++ [x], st.came⟩ := by
              unfold Yd.step
              rw [if_neg Bool.false_ne_true, if_pos rfl]
              simp only [eD]
              rw [List.getLast?_eq_getElem?, ex]
            have y6 := yE.set el c.dropLast
            rw [List.map_dropLast] at y6
            refine ⟨⟨st.tr.set m2 c.dropLast, st.left ++ [x], st.came⟩, _, _, _, _, rfl, rfl, Same.updN (Same.updN (sm.trans sE) hl0) hlH, steps_next hst em hs, y6.other ekl ell, ?_, ?_⟩
            · rw [upd_same, List.map_append]; rfl
            · rw [List.length_append]; exact Nat.succ_le_succ hll
          | false =>
            obtain ⟨x, c', rfl⟩ : ∃ x c', c = x :: c' := by
              cases c with
              | nil => exact absurd rfl hne
              | cons x c' => exact ⟨x, c', rfl⟩
            refine iteF ⟨_, rfl, _, rfl, .inl ⟨kA, _, _, .ref l, rfl, rfl, SqL.of yE.lst, atI_nat elV, .inl ⟨rfl, _, SqL.of hlE⟩, .inr ⟨l, _, 0, 0, .int x, rfl, rfl, hlE, by decide, by decide, ?_, rfl, ?_⟩⟩⟩
            · unfold seqIndex?
              simp
            have e0 : ((V.int x :: c'.map V.int).eraseIdx 0) = c'.map V.int := rfl
            have hL6 : upd (upd H5 eL (.lst [])) l (.lst (((x :: c').map V.int).eraseIdx 0)) lA = some (.lst (st.left.map V.int)) := by rw [upd_ne llA.symm]; exact sE _ _ hL
            refine ⟨lA, _, _, rfl, rfl, hL6, by rw [List.length_map]; exact small1000 (by omega), ?_⟩
            have hs : Yd.step tr false st (false, m2) = some ⟨st.tr.set m2 c', st.left ++ [x], st.came⟩ := by
              unfold Yd.step
              rw [if_neg Bool.false_ne_true, if_neg Bool.false_ne_true]
              simp only [eD]
            refine ⟨⟨st.tr.set m2 c', st.left ++ [x], st.came⟩, _, _, _, _, rfl, rfl, Same.updN (Same.updN (sm.trans sE) hl0) hlH, steps_next hst em hs, (yE.set el c').other ekl ell, ?_, ?_⟩
            · rw [upd_same, List.map_append]; rfl
            · rw [List.length_append]; exact Nat.succ_le_succ hll
        · have hce : c = [] := dI_inj hc
          refine ⟨_, rfl, _, rfl, _, rfl, _, rfl, _, rfl, tA, _, rfl, SqL.of (sE _ _ hT5), fun eA heA => ?_⟩
          rw [cutV_from, ← List.map_drop]
          obtain ⟨z1, z2⟩ := fin _ sE (by unfold Yd.step; rw [if_neg Bool.false_ne_true]; simp only [eD, hce]; split <;> rfl) eA heA
          refine ⟨z1, fun t3 ht3 => ?_⟩
          obtain ⟨z3, z4⟩ := z2 t3 ht3
          exact ⟨_, rfl, z3, z4⟩
    · rintro σ H5 ⟨st, v7, v8, v9, _, rfl, rfl, sm, hst, hys, hL, hll⟩
      rw [hrl, List.take_length] at hst
      have hgo := Yd.go_all hst
      refine ⟨_, rfl, _, rfl, _, rfl, _, rfl, _, rfl, tA, _, rfl, SqL.of (sm _ _ hT), fun eA heA => ?_⟩
      rw [cutV_from, ← List.map_drop]
      refine ⟨(by show 3 ≤ sizeLine; decide), fun t3 ht3 => ?_⟩
      have s6 := (Same.upd (o := .lst ((tr.drop st.came).map V.int)) heA).trans (Same.upd (o := .tup [.ref lA, .ref kA, .ref eA]) ht3)
      refine ⟨_, rfl, _, _, rfl, .inl ⟨_, SqL.of (hmS (sm.trans s6)), rfl⟩, (by show 2 ≤ sizeLine; decide), fun r' hr' => ?_⟩
      rw [List.length_map, hrl]
      have s7 := s6.trans (Same.upd (o := .tup [.ref t3, .int (ms.length : Int)]) hr')
      refine k r' t3 _ (sm.trans s7) (by rw [upd_same, hgo]) ?_
      rw [hgo]
      exact .tup (SqT.of (upd_get upd_same hr')) (.cons (.ints (SqL.of (s7 _ _ hL))) (.cons (hys.same s7).dv (.cons (.ints (SqL.of (upd_get (upd_get upd_same ht3) hr'))) .nil)))

def sp_kept : Sp := fun vs H Q _ => ∃ (tA mA : Addr) (b : Bool) (n : Nat) (T : List Int) (ms : List Yd.Mv), vs = [.ref tA, .bl b, .int n, .ref mA] ∧ YdPre H tA mA n T ms ∧
  ∀ p ks H', Same H H' → MovesAt H' p ks → ks.length ≤ ms.length → (∀ m ∈ ks, m.2 < n) → Q (.ref p) H'
def KInv (H : Hp) (tA mA cA kA : Addr) (b : Bool) (n i : Nat) (σ : St) (H5 : Hp) : Prop := ∃ (cs : List Int) (qs : List Addr) (ks : List Yd.Mv) (v7 v8 : Option V) (c5 : Int), σ = [some (.ref tA), some (.bl b), some (.int n), some (.ref mA), some (.ref cA), some (.int c5), some (.ref kA), v7, v8] ∧
  Same H H5 ∧ H5 cA = some (.lst (cs.map V.int)) ∧ cs.length = n ∧ H5 kA = some (.lst (qs.map V.ref)) ∧ Paired (MvT H5) qs ks ∧ ks.length ≤ i ∧ ∀ m ∈ ks, m.2 < n
theorem KInv.keep {H H5 H6 : Hp} {tA mA cA kA t : Addr} {b : Bool} {n i : Nat} {cs : List Int} {qs : List Addr} {ks : List Yd.Mv} {c5 c' : Int} {m : Yd.Mv} {v7 v8 : Option V} (sm : Same H H5) (hcl : cs.length = n) (hk : H5 kA = some (.lst (qs.map V.ref))) (hc : H5 cA = some (.lst (cs.map V.int)))
    (hkp : Paired (MvT H5) qs ks) (hki : ks.length ≤ i) (hkn : ∀ m ∈ ks, m.2 < n) (hm : m.2 < n) (eck : cA ≠ kA) (hcH : H cA = none) (hkH : H kA = none) (s6 : Same H5 H6) (ht : (upd H6 cA (.lst ((cs.map V.int).set m.2 (.int c')))) t = none) :
    KInv H tA mA cA kA b n (i + 1) [some (.ref tA), some (.bl b), some (.int n), some (.ref mA), some (.ref cA), some (.int c5), some (.ref kA), v7, v8]
      (upd (upd (upd H6 cA (.lst ((cs.map V.int).set m.2 (.int c')))) t (.tup [.str (deed m.1), .int (m.2 : Int)])) kA (.lst (qs.map V.ref ++ [.ref t]))) := by
  have kt : kA ≠ t := fun z => by
    rw [← z, upd_ne eck.symm, s6 _ _ hk] at ht
    cases ht
  refine ⟨cs.set m.2 c', qs ++ [t], ks ++ [m], v7, v8, c5, rfl, Same.updN ((Same.updN (sm.trans s6) hcH).trans (Same.upd ht)) hkH, ?_, by rw [List.length_set]; exact hcl, ?_, ?_, by rw [List.length_append]; exact Nat.succ_le_succ hki, fun m' hm' => ?_⟩
  · rw [upd_ne eck, upd_get upd_same ht, List.map_set]
  · rw [upd_same, List.map_append]; rfl
  · refine Paired.snoc' (Paired.imp (fun r m' z => ?_) hkp) ?_
    · have z5 : H5 r = some (.tup [.str (deed m'.1), .int (m'.2 : Int)]) := z
      have z6 := s6 _ _ z5
      unfold MvT
      have rc : r ≠ cA := ne_of z5 hc (by intro w; cases w)
      have rk : r ≠ kA := ne_of z5 hk (by intro w; cases w)
      have rt : r ≠ t := fun w => by rw [← w, upd_ne rc, z6] at ht; cases ht
      rw [upd_ne rk, upd_ne rt, upd_ne rc]
      exact z6
    · unfold MvT
      rw [upd_ne kt.symm, upd_same]
  · rcases List.mem_append.mp hm' with z | z
    · exact hkn m' z
    · rw [show m' = m by simpa using z]; exact hm
theorem sc__law_kept : FnScope ["_law_train", "_law_blind", "_law_many", "_law_moves", "_law_counts", "_law_came", "_law_kept_here", "_law_deed", "_law_track"] ["_law_train", "_law_blind", "_law_many", "_law_moves"] (defScope s__law_kept) := ⟨rfl, rfl, rfl, by decide +kernel, rfl, by decide +kernel, by decide +kernel⟩
theorem C__law_kept (T : Tx K mg Z) : Ctr P w K mg base CX0 1 "_law_kept" ["_law_train", "_law_blind", "_law_many", "_law_moves"] sp_kept := by
  refine ctr_of T._law_kept fun f fd F => F.ok sc__law_kept (fun vs H Q E h => ?_) (fun cdv A outer s H vs Q E hr h => ?_)
  · obtain ⟨tA, mA, b, n, T, ms, rfl, _⟩ := h
    rfl
  · obtain ⟨tA, mA, b, n, tr, ms, rfl, ⟨hT, hTz, ⟨rs, hrs, hprs⟩, hMz, hn1, hn2, hmn⟩, k⟩ := h
    refine' ⟨_, ?hterm, ?_⟩
    case hterm =>
      refine' pss_cons ?q1 ?q2
      case q1 =>
        refine' ps_par3 (i := 4) (j := 5) (k := 6) rfl sc__law_kept.nd rfl rfl rfl (by decide) (by decide) (by decide) rfl rfl rfl ?q3 (by kernel_rfl) (hs := by kernel_rfl)
        case q3 =>
          refine' pa_cons ?q4 ?q5
          case q4 =>
            refine' pe_op op_mulU ?q6 ?q7
            case q6 =>
              refine' pe_lst ?q8
              case q8 =>
                refine' pa_cons ?q9 ?q10
                case q9 => exact pe_int
                case q10 => exact pa_nil
            case q7 => exact pv 2
          case q5 =>
            refine' pa_cons ?q11 ?q12
            case q11 => exact pe_int
            case q12 =>
              refine' pa_cons ?q13 ?q14
              case q13 =>
                refine' pe_lst ?q15
                case q15 => exact pa_nil
              case q14 => exact pa_nil
      case q2 =>
        refine' pss_cons ?q16 ?q17
        case q16 =>
          refine' ps_for HP rfl ?q18 ?q19 ?q20
          case q18 =>
            refine' pi_listK (K := K) (by rfl) ?q21
            case q21 => exact pv 3
          case q19 =>
            refine' pg_tupK (K := K) (n := 2) (by rfl) rfl ?q22
            case q22 =>
              refine' pgs_cons ?q23 ?q24
              case q23 => exact pg_name (i := 7) sc__law_kept.nd (by rfl) (by exact Or.inl rfl)
              case q24 =>
                refine' pgs_cons ?q25 ?q26
                case q25 => exact pg_name (i := 8) sc__law_kept.nd (by rfl) (by exact Or.inl rfl)
                case q26 => exact pgs_nil
          case q20 =>
            refine' pss_one ?q27
            case q27 =>
              refine' ps_if ?q28 ?q29 ?q30
              case q28 =>
                refine' PW.pt ?q31
                case q31 =>
                  refine' pw_and ?q32 ?q33
                  case q32 =>
                    refine' pt_cmpR (op_eqK (K := K) (by rfl) (by exact hr.units)) ?q34 ?q35 (nomark _)
                    case q34 => exact pv 7
                    case q35 => exact pe_str
                  case q33 =>
                    refine' pw_and1 ?q36
                    case q36 =>
                      refine' pt_cmpR op_lt ?q37 ?q38 (nomark _)
                      case q37 => exact pv 5
                      case q38 =>
                        refine' pe_callB (callK_len (K := K) (by rfl)) (by rfl) T.n_len b_len ?q39
                        case q39 =>
                          refine' pa_cons ?q40 ?q41
                          case q40 => exact pv 0
                          case q41 => exact pa_nil
              case q29 =>
                refine' pss_cons ?q42 ?q43
                case q42 =>
                  refine' ps_asg ?q44 ?q45 (hs := by kernel_rfl) (hw := by kernel_rfl)
                  case q44 =>
                    refine' pe_tup ?q46
                    case q46 =>
                      refine' pa_cons ?q47 ?q48
                      case q47 =>
                        refine' pe_op (op_addK (K := K) (by rfl)) ?q49 ?q50
                        case q49 => exact pv 5
                        case q50 => exact pe_int
                      case q48 =>
                        refine' pa_cons ?q51 ?q52
                        case q51 =>
                          refine' pe_op (op_addK (K := K) (by rfl)) ?q53 ?q54
                          case q53 =>
                            refine' pe_ix (ix_K (K := K) (by rfl)) ?q55 ?q56 (fun _ _ => rfl)
                            case q55 => exact pv 4
                            case q56 => exact pv 8
                          case q54 => exact pe_int
                        case q52 => exact pa_nil
                  case q45 =>
                    refine' pg_tupK (K := K) (n := 2) (by rfl) rfl ?q57
                    case q57 =>
                      refine' pgs_cons ?q58 ?q59
                      case q58 => exact pg_name (i := 5) sc__law_kept.nd (by rfl) (by exact Or.inl rfl)
                      case q59 =>
                        refine' pgs_cons ?q60 ?q61
                        case q60 =>
                          refine' pg_sub ?q62 ?q63 set_list
                          case q62 => exact pv 4
                          case q63 => exact pv 8
                        case q61 => exact pgs_nil
                case q43 =>
                  refine' pss_one ?q64
                  case q64 =>
                    refine' ps_expr ?q65
                    case q65 =>
                      refine' pe_bmK (K := K) (by rfl) PySem.F.plainAttrs_list PySem.F.slot_list_append PySem.F.type_list_append mt_append ?q66 ?q67
                      case q66 => exact pv 6
                      case q67 =>
                        refine' pa_cons ?q68 ?q69
                        case q68 =>
                          refine' pe_tup ?q70
                          case q70 =>
                            refine' pa_cons ?q71 ?q72
                            case q71 => exact pv 7
                            case q72 =>
                              refine' pa_cons ?q73 ?q74
                              case q73 => exact pv 8
                              case q74 => exact pa_nil
                        case q69 => exact pa_nil
              case q30 =>
                refine' pss_one ?q75
                case q75 =>
                  refine' ps_if ?q76 ?q77 ?q78
                  case q76 =>
                    refine' PW.pt ?q79
                    case q79 =>
                      refine' pw_and ?q80 ?q81
                      case q80 =>
                        refine' pt_cmpR (op_eqK (K := K) (by rfl) (by exact hr.units)) ?q82 ?q83 (nomark _)
                        case q82 => exact pv 7
                        case q83 => exact pe_str
                      case q81 =>
                        refine' pw_and1 ?q84
                        case q84 =>
                          refine' pt_cmpR op_gt ?q85 ?q86 (nomark _)
                          case q85 =>
                            refine' pe_ix (ix_K (K := K) (by rfl)) ?q87 ?q88 (fun _ _ => rfl)
                            case q87 => exact pv 4
                            case q88 => exact pv 8
                          case q86 => exact pe_int
                  case q77 =>
                    refine' pss_cons ?q89 ?q90
                    case q89 =>
                      refine' ps_asg ?q91 ?q92
                      case q91 =>
                        refine' pe_op op_sub ?q93 ?q94
                        case q93 =>
                          refine' pe_ix (ix_K (K := K) (by rfl)) ?q95 ?q96 (fun _ _ => rfl)
                          case q95 => exact pv 4
                          case q96 => exact pv 8
                        case q94 => exact pe_int
                      case q92 =>
                        refine' pg_sub ?q97 ?q98 set_list
                        case q97 => exact pv 4
                        case q98 => exact pv 8
                    case q90 =>
                      refine' pss_one ?q99
                      case q99 =>
                        refine' ps_expr ?q100
                        case q100 =>
                          refine' pe_bmK (K := K) (by rfl) PySem.F.plainAttrs_list PySem.F.slot_list_append PySem.F.type_list_append mt_append ?q101 ?q102
                          case q101 => exact pv 6
                          case q102 =>
                            refine' pa_cons ?q103 ?q104
                            case q103 =>
                              refine' pe_tup ?q105
                              case q105 =>
                                refine' pa_cons ?q106 ?q107
                                case q106 => exact pv 7
                                case q107 =>
                                  refine' pa_cons ?q108 ?q109
                                  case q108 => exact pv 8
                                  case q109 => exact pa_nil
                            case q104 => exact pa_nil
                  case q78 => exact pss_nil
        case q17 =>
          refine' pss_one ?q110
          case q110 =>
            refine' ps_ret ?q111
            case q111 => exact pv 6
    have hrl : rs.length = ms.length := Paired.length hprs
    refine ⟨(by show 1 ≤ sizeLine; decide), fun zA hzA => ⟨_, rfl, .inr ⟨zA, (n : Int), _, rfl, rfl, upd_same, by omega, by omega, ?_, fun cA hcA => ?_⟩⟩⟩
    · show 1 * (n : Int).toNat ≤ sizeLine
      rw [Int.toNat_natCast, Nat.one_mul]
      exact Nat.le_of_lt (small1000 (by omega))
    rw [Int.toNat_natCast, flat_one]
    obtain ⟨cs0, ecs, hcs0⟩ : ∃ cs0 : List Int, List.replicate n (V.int 0) = cs0.map V.int ∧ cs0.length = n := ⟨List.replicate n 0, by rw [List.map_replicate], List.length_replicate⟩
    rw [ecs]
    refine ⟨Nat.zero_le _, fun kA hkA => ⟨_, _, _, rfl, ?_⟩⟩
    have s1 := ((Same.upd (o := .lst [.int 0]) hzA).trans (Same.upd (o := .lst (cs0.map V.int)) hcA))
    have hcH : H cA = none := (Same.upd hzA).free hcA
    have hkH : H kA = none := s1.free hkA
    have s2 := s1.trans (Same.upd (o := .lst []) hkA)
    have eck : cA ≠ kA := ne_of_none upd_same hkA
    refine ⟨_, rfl, mA, rfl, ⟨_, SqL.of (s2 _ _ hrs)⟩, ?_⟩
    refine for_list (K := K) (a := mA) (xs := rs.map V.ref) (KInv H tA mA cA kA b n)
      ⟨cs0, [], [], none, none, _, rfl, s2, upd_get upd_same hkA, hcs0, upd_same, .nil, Nat.le_refl _, fun m hm => by cases hm⟩ (fun i σ H5 _ h => ?_) ?_ ?_
    · obtain ⟨_, _, _, _, _, _, _, sm, _⟩ := h
      exact SqL.of (sm _ _ hrs)
    · rintro i x σ H5 hx ⟨cs, qs, ks, v7, v8, c5, rfl, sm, hc, hcl, hk, hkp, hki, hkn⟩
      obtain ⟨r, er, rfl⟩ := getMap hx
      obtain ⟨m, em, hm⟩ := Paired.get hprs er
      have hi : i < ms.length := (List.getElem?_eq_some_iff.mp em).1
      have hm5 := sm _ _ hm
      have hmn' := hmn m (List.mem_of_getElem? em)
      obtain ⟨c, ec⟩ : ∃ c, cs[m.2]? = some c := ⟨_, List.getElem?_eq_getElem (by omega)⟩
      have ecV : (cs.map V.int)[m.2]? = some (.int c) := by rw [List.getElem?_map, ec]; rfl
      have hix : ixN (cs.map V.int).length (m.2 : Int) = some m.2 := ixN_nat (by rw [List.length_map]; omega)
      have hql : qs.length = ks.length := Paired.length hkp
      have small : (qs.map V.ref).length < sizeLine := by rw [List.length_map]; exact small1000 (by omega)
      refine ⟨r, _, rfl, SqT.of hm5, rfl, _, _, rfl, _, _, rfl, rfl, ?_⟩
      have stays : KInv H tA mA cA kA b n (i + 1) [some (.ref tA), some (.bl b), some (.int n), some (.ref mA), some (.ref cA), some (.int c5), some (.ref kA), some (.str (deed m.1)), some (.int (m.2 : Int))] H5 := ⟨cs, qs, ks, _, _, c5, rfl, sm, hc, hcl, hk, hkp, Nat.le_succ_of_le hki, hkn⟩
      refine ⟨_, rfl, .inl ⟨rfl, _, rfl, ?_⟩⟩
      obtain ⟨m1, m2⟩ := m
      cases m1 with
      | true =>
        refine iteDT deed_true ?_
        refine ⟨_, rfl, _, rfl, _, _, rfl, .inl ⟨_, SqL.of (sm _ _ hT), rfl⟩, _, _, rfl, rfl, _, rfl, ?_⟩
        refine iteDB (fun _ => ?_) (fun _ => ?_)
        · refine ⟨_, rfl, .inl ⟨_, 1, rfl, rfl, ?_⟩⟩
          refine ⟨_, rfl, _, rfl, .inl ⟨cA, _, _, .int c, rfl, rfl, SqL.of hc, atI_nat ecV, .inl ⟨_, 1, rfl, rfl, ?_⟩⟩⟩
          refine ⟨(by show 2 ≤ sizeLine; decide), fun tX htX => ⟨tX, _, rfl, SqT.of upd_same, rfl, _, _, rfl, _, _, rfl, ?_⟩⟩
          have sX : Same H5 (upd H5 tX (.tup [.int (c5 + 1), .int (c + 1)])) := Same.upd htX
          refine ⟨_, rfl, _, rfl, cA, _, _, m2, rfl, rfl, sX _ _ hc, hix, rfl, ?_⟩
          have hk6 : upd (upd H5 tX (.tup [.int (c5 + 1), .int (c + 1)])) cA (.lst ((cs.map V.int).set m2 (.int (c + 1)))) kA = some (.lst (qs.map V.ref)) := by rw [upd_ne eck.symm]; exact sX _ _ hk
          refine ⟨_, rfl, .inl ⟨rfl, _, SqL.of hk6⟩, _, rfl, _, rfl, (by show 2 ≤ sizeLine; decide), fun t ht => ⟨kA, _, _, rfl, rfl, upd_get hk6 ht, small, ?_⟩⟩
          exact KInv.keep (m := (true, m2)) sm hcl hk hc hkp hki hkn hmn' eck hcH hkH sX ht
        · refine ⟨_, rfl, .inl ⟨rfl, _, rfl, iteDF deed_ne' ?_⟩⟩
          exact iteF stays
      | false =>
        refine iteDF deed_ne (iteF ?_)
        refine ⟨_, rfl, .inl ⟨rfl, _, rfl, iteDT deed_false ?_⟩⟩
        refine ⟨_, rfl, _, rfl, .inl ⟨cA, _, _, .int c, rfl, rfl, SqL.of hc, atI_nat ecV, _, 0, rfl, rfl, _, rfl, ?_⟩⟩
        refine iteDB (fun _ => ?_) (fun _ => stays)
        refine ⟨_, rfl, _, rfl, .inl ⟨cA, _, _, .int c, rfl, rfl, SqL.of hc, atI_nat ecV, _, 1, rfl, rfl, ?_⟩⟩
        refine ⟨_, rfl, _, rfl, cA, _, _, m2, rfl, rfl, hc, hix, ?_⟩
        have hk6 : upd H5 cA (.lst ((cs.map V.int).set m2 (.int (c - 1)))) kA = some (.lst (qs.map V.ref)) := by rw [upd_ne eck.symm]; exact hk
        refine ⟨_, rfl, .inl ⟨rfl, _, SqL.of hk6⟩, _, rfl, _, rfl, (by show 2 ≤ sizeLine; decide), fun t ht => ⟨kA, _, _, rfl, rfl, upd_get hk6 ht, small, ?_⟩⟩
        exact KInv.keep (m := (false, m2)) sm hcl hk hc hkp hki hkn hmn' eck hcH hkH (Same.refl _) ht
    · rintro σ H5 ⟨cs, qs, ks, v7, v8, c5, rfl, sm, hc, hcl, hk, hkp, hki, hkn⟩
      rw [List.length_map, hrl] at hki
      exact ⟨_, rfl, k kA ks H5 sm ⟨qs, hk, hkp⟩ hki hkn⟩
end
end My
/-! law_k01: _law_stuck, law. -/
namespace My
open PySem L2
open PySem.W (Dat)
section
variable {P : Program} {w : World} {K : PySem.W.Frag} {mg : Str → Option Value} {base : Heap} {Z : Adr}
def sp_stuck : Sp := fun vs H Q _ => ∃ (tA mA : Addr) (b : Bool) (n : Nat) (T : List Int) (ms : List Yd.Mv), vs = [.ref tA, .bl b, .int n, .ref mA] ∧ YdPre H tA mA n T ms ∧ T.Nodup ∧
  (∀ st, Yd.steps T b (Yd.init n) ms = some st → ∀ H', Same H H' → Q (.int (-1)) H') ∧
  (∀ (i : Nat) st m, Yd.steps T b (Yd.init n) (ms.take i) = some st → ms[i]? = some m → Yd.step T b st m = none → ∀ H', Same H H' → Q (.int i) H')
theorem sc__law_stuck : FnScope ["_law_train", "_law_blind", "_law_many", "_law_moves", "error", "_law_others"] ["_law_train", "_law_blind", "_law_many", "_law_moves"] (defScope s__law_stuck) := ⟨rfl, rfl, rfl, by decide +kernel, rfl, by decide +kernel, by decide +kernel⟩
theorem C__law_stuck (T : Tx K mg Z) : Ctr P w K mg base CX0 7 "_law_stuck" ["_law_train", "_law_blind", "_law_many", "_law_moves"] sp_stuck := by
  refine ctr_of T._law_stuck fun f fd F => F.ok sc__law_stuck (fun vs H Q E h => ?_) (fun cdv A outer s H vs Q E hr h => ?_)
  · obtain ⟨tA, mA, b, n, T, ms, rfl, _⟩ := h
    rfl
  · obtain ⟨tA, mA, b, n, tr, ms, rfl, ⟨hT, hTz, hM, hMz, hn1, hn2, hmn⟩, hnd, k1, k2⟩ := h
    refine' ⟨_, ?hterm, ?_⟩
    case hterm =>
      refine' pss_cons ?q1 ?q2
      case q1 =>
        refine' ps_try (K := K) (i := 4) (by rfl) rfl rfl ?q3 rfl T.c_YardError T.xc_YardError T.xty_YardError sc__law_stuck.nd rfl rfl (fun ea => ?q4)
        case q3 =>
          refine' psx_expr ?q5
          case q5 =>
            refine' px_call (C_run T) (hr.mono (by decide)) rfl ?q6
            case q6 =>
              refine' pa_cons ?q7 ?q8
              case q7 => exact pv 0
              case q8 =>
                refine' pa_cons ?q9 ?q10
                case q9 => exact pv 1
                case q10 =>
                  refine' pa_cons ?q11 ?q12
                  case q11 => exact pv 2
                  case q12 =>
                    refine' pa_cons ?q13 ?q14
                    case q13 => exact pv 3
                    case q14 => exact pa_nil
        case q4 =>
          refine' pss_cons ?q15 ?q16
          case q15 =>
            refine' ps_set (i := 5) sc__law_stuck.nd rfl (Or.inl rfl) ?q17
            case q17 =>
              refine' pe_lst ?q18
              case q18 =>
                refine' pa_cons ?q19 ?q20
                case q19 =>
                  refine' pe_callB (callX_isinstance (K := K) (by rfl)) (by rfl) T.n_isinstance b_isinstance ?q21
                  case q21 =>
                    refine' pa_cons ?q22 ?q23
                    case q22 => exact pv 4
                    case q23 =>
                      refine' pa_cons ?q24 ?q25
                      case q24 => exact pe_clsN (by rfl) T.c_BadMoves
                      case q25 => exact pa_nil
                case q20 =>
                  refine' pa_cons ?q26 ?q27
                  case q26 =>
                    refine' pe_callB (callX_isinstance (K := K) (by rfl)) (by rfl) T.n_isinstance b_isinstance ?q28
                    case q28 =>
                      refine' pa_cons ?q29 ?q30
                      case q29 => exact pv 4
                      case q30 =>
                        refine' pa_cons ?q31 ?q32
                        case q31 => exact pe_clsN (by rfl) T.c_BadText
                        case q32 => exact pa_nil
                  case q27 =>
                    refine' pa_cons ?q33 ?q34
                    case q33 =>
                      refine' pe_callB (callX_isinstance (K := K) (by rfl)) (by rfl) T.n_isinstance b_isinstance ?q35
                      case q35 =>
                        refine' pa_cons ?q36 ?q37
                        case q36 => exact pv 4
                        case q37 =>
                          refine' pa_cons ?q38 ?q39
                          case q38 => exact pe_clsN (by rfl) T.c_BadTrain
                          case q39 => exact pa_nil
                    case q34 => exact pa_nil
          case q16 =>
            refine' pss_one ?q40
            case q40 =>
              refine' ps_if ?q41 ?q42 ?q43
              case q41 =>
                refine' PW.pt ?q44
                case q44 =>
                  refine' pw_and ?q45 ?q46
                  case q45 =>
                    refine' pt_truK (K := K) (by rfl) ?q47 (fun _ => rfl)
                    case q47 =>
                      refine' pe_callB (callX_isinstance (K := K) (by rfl)) (by rfl) T.n_isinstance b_isinstance ?q48
                      case q48 =>
                        refine' pa_cons ?q49 ?q50
                        case q49 => exact pv 4
                        case q50 =>
                          refine' pa_cons ?q51 ?q52
                          case q51 => exact pe_clsN (by rfl) T.c_Stuck
                          case q52 => exact pa_nil
                  case q46 =>
                    refine' pw_and ?q53 ?q54
                    case q53 =>
                      refine' pt_not ?q55
                      case q55 =>
                        refine' pt_truK (K := K) (by rfl) ?q56 (fun _ => rfl)
                        case q56 =>
                          refine' pe_callB (callH_any (ea := ea) (K := K) (by rfl) (by rfl)) (by rfl) T.n_any b_any ?q57
                          case q57 =>
                            refine' pa_cons ?q58 ?q59
                            case q58 => exact pv 5
                            case q59 => exact pa_nil
                    case q54 =>
                      refine' pw_and1 ?q60
                      case q60 =>
                        refine' pt_not ?q61
                        case q61 =>
                          refine' pt_truK (K := K) (by rfl) ?q62 (fun _ => rfl)
                          case q62 =>
                            refine' pe_callB (callX_isinstance (K := K) (by rfl)) (by rfl) T.n_isinstance b_isinstance ?q63
                            case q63 =>
                              refine' pa_cons ?q64 ?q65
                              case q64 => exact pv 4
                              case q65 =>
                                refine' pa_cons ?q66 ?q67
                                case q66 => exact pe_clsN (by rfl) T.c_BadYard
                                case q67 => exact pa_nil
              case q42 =>
                refine' pss_one ?q68
                case q68 =>
                  refine' ps_ret ?q69
                  case q69 =>
                    refine' pe_xf (K := K) (by rfl) ?q70 rfl
                    case q70 => exact pv 4
              case q43 => exact pss_nil
      case q2 =>
        refine' pss_one ?q71
        case q71 =>
          refine' ps_ret ?q72
          case q72 =>
            refine' pe_un un_neg ?q73
            case q73 => exact pe_int
    refine ⟨_, rfl, _, rfl, _, rfl, _, rfl, tA, mA, b, n, tr, ms, rfl, hT, hTz, hnd, hM, hMz, hn1, hn2, hmn, fun st hst r lA tA' eA ls H' told => ?_, fun i st m hst em hs d H' sm hd hxd => ?_⟩
    · exact ⟨1, rfl, k1 st hst H' told.same⟩
    · refine ⟨Z.cStuck, rfl, (fun d' e => by cases e; exact ⟨_, hxd⟩), T.mro_Stuck_YardError, fun ea hea => ?_⟩
      have hX : ∀ {H6 : Hp}, Same (upd H' ea (XH ea Z.cStuck (some d))) H6 → H6 ea = some (XH ea Z.cStuck (some d)) := fun s => s _ _ upd_same
      have hD : ∀ {H6 : Hp}, Same (upd H' ea (XH ea Z.cStuck (some d))) H6 → H6 d = some (.xd [("at", .int i)]) := fun s => s _ _ (upd_get hxd hea)
      have sr := Same.refl (upd H' ea (XH ea Z.cStuck (some d)))
      refine ⟨_, rfl, ea, Z.cStuck, _, some d, false, rfl, hX sr, (fun d' e => by cases e; exact ⟨_, hD sr⟩), T.xc_Stuck, T.kit_Stuck_BadMoves, ?_⟩
      refine ⟨_, rfl, ea, Z.cStuck, _, some d, false, rfl, hX sr, (fun d' e => by cases e; exact ⟨_, hD sr⟩), T.xc_Stuck, T.kit_Stuck_BadText, ?_⟩
      refine ⟨_, rfl, ea, Z.cStuck, _, some d, false, rfl, hX sr, (fun d' e => by cases e; exact ⟨_, hD sr⟩), T.xc_Stuck, T.kit_Stuck_BadTrain, ?_⟩
      refine ⟨(by show 3 ≤ sizeLine; decide), fun l hl => ?_⟩
      have s6 := Same.upd (o := .lst [.bl false, .bl false, .bl false]) hl
      refine ⟨_, rfl, ea, Z.cStuck, _, some d, true, rfl, hX s6, (fun d' e => by cases e; exact ⟨_, hD s6⟩), T.xc_Stuck, kit_same, _, rfl, iteT ?_⟩
      refine ⟨_, rfl, l, Z.cStuck, some d, [false, false, false], rfl, hX s6, SqL.of upd_same, _, rfl, iteT ?_⟩
      refine ⟨_, rfl, ea, Z.cStuck, _, some d, false, rfl, hX s6, (fun d' e => by cases e; exact ⟨_, hD s6⟩), T.xc_Stuck, T.kit_Stuck_BadYard, _, rfl, iteT ?_⟩
      refine ⟨_, rfl, ea, Z.cStuck, d, _, .int i, rfl, hX s6, hD s6, T.xc_Stuck, T.xf_Stuck_at, rfl, ?_⟩
      exact k2 i st m hst em hs _ ((sm.trans (Same.upd hea)).trans s6)
def sp_law (K : PySem.W.Frag) : Sp := fun vs H Q _ => ∃ (a : Addr) (ns : List Int), vs = [.ref a] ∧ SqL K H a (ns.map V.int) ∧ ns.length ≤ 63 ∧ ∀ H', Q (.bl true) H'
/-- moves to be tried -/
def Some1 (H : Hp) (n : Nat) (x : V) : Prop := ∃ sA ms, x = .ref sA ∧ MovesAt H sA ms ∧ ms.length ≤ 500 ∧ ∀ m ∈ ms, m.2 < n
theorem Some1.same {H H' : Hp} (s : Same H H') {n : Nat} {x : V} (h : Some1 H n x) : Some1 H' n x := let ⟨sA, ms, a, b, r⟩ := h; ⟨sA, ms, a, b.same s, r⟩
theorem Told.dv {H H' : Hp} {T : List Int} {st : Yd.St} {r lA tA eA : Addr} {ls : List Addr} (t : Told H H' T st r lA tA eA ls) : DV K H' (.ref r) (dY T st) :=
  .tup (SqT.of t.tup) (.cons (.ints (SqL.of t.left)) (.cons (.lst (SqL.of t.trs) (DVs.paired (Paired.imp (fun l c z => DV.ints (SqL.of z)) t.each))) (.cons (.ints (SqL.of t.rest)) .nil)))
theorem sc_law : FnScope ["_law_script", "_law_train", "_law_many", "_law_moves", "_law_blind", "_law_kept_here", "_law_some", "_law_due", "_law_at", "_law_handed", "_law_again", "_law_found"] ["_law_script"] (defScope s_law) := ⟨rfl, rfl, rfl, by decide +kernel, rfl, by decide +kernel, by decide +kernel⟩
theorem ok_law {f : Addr} {fd : FuncData} (T : Tx K mg Z) (F : Fun K "law" "law" s_law f fd) : FnOk P w K mg base CX0 8 f fd ["_law_script"] (sp_law K) := by
  refine F.ok sc_law (fun vs H Q E h => ?_) (fun cdv A outer s H vs Q E hr h => ?_)
  · obtain ⟨a, ns, rfl, _⟩ := h
    rfl
  · obtain ⟨a, ns, rfl, hS, hz, kQ⟩ := h
    refine' ⟨_, ?hterm, ?_⟩
    case hterm =>
      refine' pss_cons ?q1 ?q2
      case q1 =>
        refine' ps_set (i := 1) sc_law.nd rfl (Or.inl rfl) ?q3
        case q3 =>
          refine' pe_callC (C__law_inserted T) (hr.mono (by decide)) rfl ?q4
          case q4 =>
            refine' pa_cons ?q5 ?q6
            case q5 => exact pv 0
            case q6 => exact pa_nil
      case q2 =>
        refine' pss_cons ?q7 ?q8
        case q7 =>
          refine' ps_set (i := 2) sc_law.nd rfl (Or.inr rfl) ?q9
          case q9 =>
            refine' pe_op (op_addK (K := K) (by rfl)) ?q10 ?q11
            case q10 => exact pe_int
            case q11 =>
              refine' pe_op op_mod ?q12 ?q13
              case q12 =>
                refine' pe_callB (callK_sum (K := K) (by rfl) (by rfl)) (by rfl) T.n_sum b_sum ?q14
                case q14 =>
                  refine' pa_cons ?q15 ?q16
                  case q15 => exact pv 0
                  case q16 => exact pa_nil
              case q13 => exact pe_int
        case q8 =>
          refine' pss_cons ?q17 ?q18
          case q17 =>
            refine' ps_setComp (i := 3) sc_law.nd rfl rfl rfl (csc_of (sc := defScope s_law) (N := ["_law_script", "_law_train", "_law_many", "_law_moves", "_law_blind", "_law_kept_here", "_law_some", "_law_due", "_law_at", "_law_handed", "_law_again", "_law_found"]) (cap := [none, some 2]) (N' := ["_law_cell", "_law_many"]) rfl rfl ⟨ rfl, by decide +kernel, by decide +kernel, by decide +kernel, rfl, by decide +kernel ⟩) ?q19 (fun _ _ _ _ => ?q20) (fun _ _ _ _ => ?q21) (fun _ _ _ _ => ?q22)
            case q19 =>
              refine' pi_listK (K := K) (by rfl) ?q23
              case q23 => exact pv 0
            case q20 => exact pg_name (i := 0) (show List.Nodup (["_law_cell", "_law_many"] : List Str) from by decide +kernel) (by rfl) (by exact Or.inl rfl)
            case q21 => exact pif_nil
            case q22 =>
              refine' pe_tup ?q24
              case q24 =>
                refine' pa_cons ?q25 ?q26
                case q25 =>
                  refine' pe_ix (ix_K (K := K) (by rfl)) ?q27 ?q28 (fun _ _ => rfl)
                  case q27 =>
                    refine' pe_tup ?q29
                    case q29 =>
                      refine' pa_cons ?q30 ?q31
                      case q30 => exact pe_str
                      case q31 =>
                        refine' pa_cons ?q32 ?q33
                        case q32 => exact pe_str
                        case q33 =>
                          refine' pa_cons ?q34 ?q35
                          case q34 => exact pe_str
                          case q35 => exact pa_nil
                  case q28 =>
                    refine' pe_op op_mod ?q36 ?q37
                    case q36 => exact pv 0
                    case q37 => exact pe_int
                case q26 =>
                  refine' pa_cons ?q38 ?q39
                  case q38 =>
                    refine' pe_op op_mod ?q40 ?q41
                    case q40 =>
                      refine' pe_op op_fdiv ?q42 ?q43
                      case q42 => exact pv 0
                      case q43 => exact pe_int
                    case q41 => exact pv 1
                  case q39 => exact pa_nil
          case q18 =>
            refine' pss_cons ?q44 ?q45
            case q44 =>
              refine' ps_for HP rfl ?q46 ?q47 ?q48
              case q46 =>
                refine' pi_listK (K := K) (by rfl) ?q49
                case q49 =>
                  refine' pe_lst ?q50
                  case q50 =>
                    refine' pa_cons ?q51 ?q52
                    case q51 => exact pe_bl
                    case q52 =>
                      refine' pa_cons ?q53 ?q54
                      case q53 => exact pe_bl
                      case q54 => exact pa_nil
              case q47 => exact pg_name (i := 4) sc_law.nd (by rfl) (by exact Or.inl rfl)
              case q48 =>
                refine' pss_cons ?q55 ?q56
                case q55 =>
                  refine' ps_set (i := 5) sc_law.nd rfl (Or.inl rfl) ?q57
                  case q57 =>
                    refine' pe_callC (C__law_kept T) (hr.mono (by decide)) rfl ?q58
                    case q58 =>
                      refine' pa_cons ?q59 ?q60
                      case q59 => exact pv 1
                      case q60 =>
                        refine' pa_cons ?q61 ?q62
                        case q61 => exact pv 4
                        case q62 =>
                          refine' pa_cons ?q63 ?q64
                          case q63 => exact pv 2
                          case q64 =>
                            refine' pa_cons ?q65 ?q66
                            case q65 =>
                              refine' pe_op (op_addK (K := K) (by rfl)) ?q67 ?q68
                              case q67 => exact pv 3
                              case q68 => exact pv 3
                            case q66 => exact pa_nil
                case q56 =>
                  refine' pss_one ?q69
                  case q69 =>
                    refine' ps_for HP rfl ?q70 ?q71 ?q72
                    case q70 =>
                      refine' pi_listK (K := K) (by rfl) ?q73
                      case q73 =>
                        refine' pe_lst ?q74
                        case q74 =>
                          refine' pa_cons ?q75 ?q76
                          case q75 => exact pv 3
                          case q76 =>
                            refine' pa_cons ?q77 ?q78
                            case q77 => exact pv 5
                            case q78 =>
                              refine' pa_cons ?q79 ?q80
                              case q79 =>
                                refine' pe_op (op_addK (K := K) (by rfl)) ?q81 ?q82
                                case q81 => exact pv 5
                                case q82 =>
                                  refine' pe_op op_mulU ?q83 ?q84
                                  case q83 =>
                                    refine' pe_lst ?q85
                                    case q85 =>
                                      refine' pa_cons ?q86 ?q87
                                      case q86 =>
                                        refine' pe_tup ?q88
                                        case q88 =>
                                          refine' pa_cons ?q89 ?q90
                                          case q89 => exact pe_str
                                          case q90 =>
                                            refine' pa_cons ?q91 ?q92
                                            case q91 => exact pe_int
                                            case q92 => exact pa_nil
                                      case q87 => exact pa_nil
                                  case q84 =>
                                    refine' pe_op (op_addK (K := K) (by rfl)) ?q93 ?q94
                                    case q93 =>
                                      refine' pe_callB (callK_len (K := K) (by rfl)) (by rfl) T.n_len b_len ?q95
                                      case q95 =>
                                        refine' pa_cons ?q96 ?q97
                                        case q96 => exact pv 1
                                        case q97 => exact pa_nil
                                    case q94 => exact pe_int
                              case q80 =>
                                refine' pa_cons ?q98 ?q99
                                case q98 =>
                                  refine' pe_op (op_addK (K := K) (by rfl)) ?q100 ?q101
                                  case q100 => exact pv 5
                                  case q101 =>
                                    refine' pe_op op_mulU ?q102 ?q103
                                    case q102 =>
                                      refine' pe_lst ?q104
                                      case q104 =>
                                        refine' pa_cons ?q105 ?q106
                                        case q105 =>
                                          refine' pe_tup ?q107
                                          case q107 =>
                                            refine' pa_cons ?q108 ?q109
                                            case q108 => exact pe_str
                                            case q109 =>
                                              refine' pa_cons ?q110 ?q111
                                              case q110 => exact pe_int
                                              case q111 => exact pa_nil
                                        case q106 => exact pa_nil
                                    case q103 =>
                                      refine' pe_op (op_addK (K := K) (by rfl)) ?q112 ?q113
                                      case q112 =>
                                        refine' pe_callB (callK_len (K := K) (by rfl)) (by rfl) T.n_len b_len ?q114
                                        case q114 =>
                                          refine' pa_cons ?q115 ?q116
                                          case q115 => exact pv 1
                                          case q116 => exact pa_nil
                                      case q113 => exact pe_int
                                case q99 => exact pa_nil
                    case q71 => exact pg_name (i := 6) sc_law.nd (by rfl) (by exact Or.inl rfl)
                    case q72 =>
                      refine' pss_cons ?q117 ?q118
                      case q117 =>
                        refine' ps_asg ?q119 ?q120
                        case q119 =>
                          refine' pe_callC (C__law_yard T) (hr.mono (by decide)) rfl ?q121
                          case q121 =>
                            refine' pa_cons ?q122 ?q123
                            case q122 => exact pv 1
                            case q123 =>
                              refine' pa_cons ?q124 ?q125
                              case q124 => exact pv 4
                              case q125 =>
                                refine' pa_cons ?q126 ?q127
                                case q126 => exact pv 2
                                case q127 =>
                                  refine' pa_cons ?q128 ?q129
                                  case q128 => exact pv 6
                                  case q129 => exact pa_nil
                        case q120 =>
                          refine' pg_tupK (K := K) (n := 2) (by rfl) rfl ?q130
                          case q130 =>
                            refine' pgs_cons ?q131 ?q132
                            case q131 => exact pg_name (i := 7) sc_law.nd (by rfl) (by exact Or.inl rfl)
                            case q132 =>
                              refine' pgs_cons ?q133 ?q134
                              case q133 => exact pg_name (i := 8) sc_law.nd (by rfl) (by exact Or.inl rfl)
                              case q134 => exact pgs_nil
                      case q118 =>
                        refine' pss_cons ?q135 ?q136
                        case q135 =>
                          refine' ps_set (i := 9) sc_law.nd rfl (Or.inl rfl) ?q137
                          case q137 =>
                            refine' pe_lst ?q138
                            case q138 =>
                              refine' pa_cons ?q139 ?q140
                              case q139 =>
                                refine' pe_callTy (callK_list (K := K) (by rfl)) (by rfl) T.n_list b_list ?q141
                                case q141 =>
                                  refine' pa_cons ?q142 ?q143
                                  case q142 => exact pv 1
                                  case q143 => exact pa_nil
                              case q140 =>
                                refine' pa_cons ?q144 ?q145
                                case q144 =>
                                  refine' pe_callTy (callK_list (K := K) (by rfl)) (by rfl) T.n_list b_list ?q146
                                  case q146 =>
                                    refine' pa_cons ?q147 ?q148
                                    case q147 => exact pv 6
                                    case q148 => exact pa_nil
                                case q145 => exact pa_nil
                        case q136 =>
                          refine' pss_cons ?q149 ?q150
                          case q149 =>
                            refine' ps_if ?q151 ?q152 ?q153
                            case q151 =>
                              refine' PW.pt ?q154
                              case q154 =>
                                refine' pw_and ?q155 ?q156
                                case q155 =>
                                  refine' pt_cmpR op_lt ?q157 ?q158 (nomark _)
                                  case q157 => exact pv 8
                                  case q158 =>
                                    refine' pe_callB (callK_len (K := K) (by rfl)) (by rfl) T.n_len b_len ?q159
                                    case q159 =>
                                      refine' pa_cons ?q160 ?q161
                                      case q160 => exact pv 6
                                      case q161 => exact pa_nil
                                case q156 =>
                                  refine' pw_and1 ?q162
                                  case q162 =>
                                    refine' pt_cmpR (op_neK (K := K) (by rfl) (by exact hr.units)) ?q163 ?q164 (nomark _)
                                    case q163 =>
                                      refine' pe_callC (C__law_stuck T) (hr.mono (by decide)) rfl ?q165
                                      case q165 =>
                                        refine' pa_cons ?q166 ?q167
                                        case q166 =>
                                          refine' pe_ix (ix_K (K := K) (by rfl)) ?q168 ?q169 (fun _ _ => rfl)
                                          case q168 => exact pv 9
                                          case q169 => exact pe_int
                                        case q167 =>
                                          refine' pa_cons ?q170 ?q171
                                          case q170 => exact pv 4
                                          case q171 =>
                                            refine' pa_cons ?q172 ?q173
                                            case q172 => exact pv 2
                                            case q173 =>
                                              refine' pa_cons ?q174 ?q175
                                              case q174 =>
                                                refine' pe_ix (ix_K (K := K) (by rfl)) ?q176 ?q177 (fun _ _ => rfl)
                                                case q176 => exact pv 9
                                                case q177 => exact pe_int
                                              case q175 => exact pa_nil
                                    case q164 => exact pv 8
                            case q152 =>
                              refine' pss_one ?q178
                              case q178 =>
                                refine' ps_ret ?q179
                                case q179 => exact pe_bl
                            case q153 => exact pss_nil
                          case q150 =>
                            refine' pss_one ?q180
                            case q180 =>
                              refine' ps_for HP rfl ?q181 ?q182 ?q183
                              case q181 =>
                                refine' pi_range1 rfl T.n_range ?q184
                                case q184 =>
                                  refine' pa_cons ?q185 ?q186
                                  case q185 => exact pe_int
                                  case q186 => exact pa_nil
                              case q182 => exact pg_name (i := 10) sc_law.nd (by rfl) (by exact Or.inl rfl)
                              case q183 =>
                                refine' pss_cons ?q187 ?q188
                                case q187 =>
                                  refine' ps_set (i := 11) sc_law.nd rfl (Or.inl rfl) ?q189
                                  case q189 =>
                                    refine' pe_callX (C_run T) (hr.mono (by decide)) rfl ?q190
                                    case q190 =>
                                      refine' pa_cons ?q191 ?q192
                                      case q191 =>
                                        refine' pe_ix (ix_K (K := K) (by rfl)) ?q193 ?q194 (fun _ _ => rfl)
                                        case q193 => exact pv 9
                                        case q194 => exact pe_int
                                      case q192 =>
                                        refine' pa_cons ?q195 ?q196
                                        case q195 => exact pv 4
                                        case q196 =>
                                          refine' pa_cons ?q197 ?q198
                                          case q197 => exact pv 2
                                          case q198 =>
                                            refine' pa_cons ?q199 ?q200
                                            case q199 =>
                                              refine' pe_slice (sl_K (K := K) (by rfl)) ?q201 ?q202 ?q203
                                              case q201 => exact pv 6
                                              case q202 => exact po_none
                                              case q203 =>
                                                refine' po_some ?q204
                                                case q204 => exact pv 8
                                            case q200 => exact pa_nil
                                case q188 =>
                                  refine' pss_cons ?q205 ?q206
                                  case q205 =>
                                    refine' ps_if ?q207 ?q208 ?q209
                                    case q207 =>
                                      refine' PW.pt ?q210
                                      case q210 =>
                                        refine' pw_or ?q211 ?q212
                                        case q211 =>
                                          refine' pt_not ?q213
                                          case q213 =>
                                            refine' pt_truK (K := K) (by rfl) ?q214 (fun _ => rfl)
                                            case q214 =>
                                              refine' pe_callB (callK_isinstance (K := K) (by rfl)) (by rfl) T.n_isinstance b_isinstance ?q215
                                              case q215 =>
                                                refine' pa_cons ?q216 ?q217
                                                case q216 => exact pv 11
                                                case q217 =>
                                                  refine' pa_cons ?q218 ?q219
                                                  case q218 => exact pe_tyN rfl T.n_tuple b_tuple
                                                  case q219 => exact pa_nil
                                        case q212 =>
                                          refine' pw_or ?q220 ?q221
                                          case q220 =>
                                            refine' pt_cmpR (op_neK (K := K) (by rfl) (by exact hr.units)) ?q222 ?q223 (nomark _)
                                            case q222 => exact pv 11
                                            case q223 => exact pv 7
                                          case q221 =>
                                            refine' pw_or1 ?q224
                                            case q224 =>
                                              refine' pt_cmpR (op_neK (K := K) (by rfl) (by exact hr.units)) ?q225 ?q226 (nomark _)
                                              case q225 => exact pv 9
                                              case q226 =>
                                                refine' pe_lst ?q227
                                                case q227 =>
                                                  refine' pa_cons ?q228 ?q229
                                                  case q228 => exact pv 1
                                                  case q229 =>
                                                    refine' pa_cons ?q230 ?q231
                                                    case q230 => exact pv 6
                                                    case q231 => exact pa_nil
                                    case q208 =>
                                      refine' pss_one ?q232
                                      case q232 =>
                                        refine' ps_ret ?q233
                                        case q233 => exact pe_bl
                                    case q209 => exact pss_nil
                                  case q206 =>
                                    refine' pss_cons ?q234 ?q235
                                    case q234 =>
                                      refine' ps_if ?q236 ?q237 ?q238
                                      case q236 =>
                                        refine' pt_not ?q239
                                        case q239 =>
                                          refine' pt_truK (K := K) (by rfl) ?q240 (fun _ => rfl)
                                          case q240 =>
                                            refine' pe_callB (callK_all (K := K) (by rfl) (by rfl)) (by rfl) T.n_all b_all ?q241
                                            case q241 =>
                                              refine' pa_cons ?q242 ?q243
                                              case q242 =>
                                                refine' pe_comp rfl (csc_of (sc := defScope s_law) (N := ["_law_script", "_law_train", "_law_many", "_law_moves", "_law_blind", "_law_kept_here", "_law_some", "_law_due", "_law_at", "_law_handed", "_law_again", "_law_found"]) (cap := [none]) (N' := ["_law_one"]) rfl rfl ⟨ rfl, by decide +kernel, by decide +kernel, by decide +kernel, rfl, by decide +kernel ⟩) ?q244 (fun _ _ _ _ => ?q245) (fun _ _ _ _ => ?q246) (fun _ _ _ _ => ?q247)
                                                case q244 =>
                                                  refine' pi_tupK (K := K) (by rfl) ?q248
                                                  case q248 => exact pv 11
                                                case q245 => exact pg_name (i := 0) (show List.Nodup (["_law_one"] : List Str) from by decide +kernel) (by rfl) (by exact Or.inl rfl)
                                                case q246 => exact pif_nil
                                                case q247 =>
                                                  refine' pe_callB (callK_isinstance (K := K) (by rfl)) (by rfl) T.n_isinstance b_isinstance ?q249
                                                  case q249 =>
                                                    refine' pa_cons ?q250 ?q251
                                                    case q250 => exact pv 0
                                                    case q251 =>
                                                      refine' pa_cons ?q252 ?q253
                                                      case q252 => exact pe_tyN rfl T.n_list b_list
                                                      case q253 => exact pa_nil
                                              case q243 => exact pa_nil
                                      case q237 =>
                                        refine' pss_one ?q254
                                        case q254 =>
                                          refine' ps_ret ?q255
                                          case q255 => exact pe_bl
                                      case q238 => exact pss_nil
                                    case q235 =>
                                      refine' pss_cons ?q256 ?q257
                                      case q256 =>
                                        refine' ps_expr ?q258
                                        case q258 =>
                                          refine' pe_bmK (K := K) (by rfl) PySem.F.plainAttrs_list PySem.F.slot_list_append PySem.F.type_list_append mt_append ?q259 ?q260
                                          case q259 =>
                                            refine' pe_ix (ix_K (K := K) (by rfl)) ?q261 ?q262 (fun _ _ => rfl)
                                            case q261 => exact pv 11
                                            case q262 => exact pe_int
                                          case q260 =>
                                            refine' pa_cons ?q263 ?q264
                                            case q263 => exact pe_int
                                            case q264 => exact pa_nil
                                      case q257 =>
                                        refine' pss_cons ?q265 ?q266
                                        case q265 =>
                                          refine' ps_expr ?q267
                                          case q267 =>
                                            refine' pe_bmK0 (K := K) (by rfl) PySem.F.plainAttrs_list PySem.F.slot_list_clear PySem.F.type_list_clear mt_clear ?q268
                                            case q268 =>
                                              refine' pe_ix (ix_K (K := K) (by rfl)) ?q269 ?q270 (fun _ _ => rfl)
                                              case q269 => exact pv 11
                                              case q270 => exact pe_int
                                        case q266 =>
                                          refine' pss_one ?q271
                                          case q271 =>
                                            refine' ps_expr ?q272
                                            case q272 =>
                                              refine' pe_bmK (K := K) (by rfl) PySem.F.plainAttrs_list PySem.F.slot_list_append PySem.F.type_list_append mt_append ?q273 ?q274
                                              case q273 =>
                                                refine' pe_ix (ix_K (K := K) (by rfl)) ?q275 ?q276 (fun _ _ => rfl)
                                                case q275 => exact pv 11
                                                case q276 => exact pe_int
                                              case q274 =>
                                                refine' pa_cons ?q277 ?q278
                                                case q277 => exact pe_int
                                                case q278 => exact pa_nil
            case q45 =>
              refine' pss_one ?q279
              case q279 =>
                refine' ps_ret ?q280
                case q280 => exact pe_bl
    -- the train
    refine ⟨_, rfl, a, ns, rfl, hS, by omega, fun trA ps far H1 s1 f1 h1 hf1 hf2 hperm => ?_⟩
    obtain ⟨tr, etr⟩ : ∃ tr, tr = ps.map (Ins.wag ns far) := ⟨_, rfl⟩
    have htl : tr.length = ns.length := by rw [etr, List.length_map, hperm.length_eq, List.length_range]
    have htn : tr.Nodup := by rw [etr]; exact Ins.train_nodup ns hf1 hperm
    rw [← etr] at h1
    -- many
    refine ⟨_, rfl, a, ns, rfl, s1.seq hS, _, 4, rfl, rfl, (by show (0 : Int) < 4; decide), .inl ⟨1, _, rfl, rfl, ?_⟩⟩
    obtain ⟨n, hn⟩ : ∃ n : Nat, 1 + ns.sum % 4 = (n : Int) := ⟨(1 + ns.sum % 4).toNat, by omega⟩
    have hn1 : 1 ≤ n := by omega
    have hn2 : n ≤ 4 := by omega
    dsimp only
    rw [hn]
    -- moves
    refine ⟨_, rfl, a, rfl, ⟨_, s1.seq hS⟩, fun mA hmA => ?_⟩
    refine turns_list (K := K) (a := a) (xs := ns.map V.int) (fun i σ H3 => (∃ v, σ = [v, some (.int n)]) ∧ Same H1 H3 ∧ ∃ (rs : List Addr) (ms : List Yd.Mv), H3 mA = some (.lst (rs.map V.ref)) ∧ Paired (MvT H3) rs ms ∧ ms.length = i ∧ ∀ m ∈ ms, m.2 < n)
      ⟨⟨_, rfl⟩, Same.upd hmA, [], [], upd_same, .nil, rfl, fun m hm => by cases hm⟩ (fun i σ H3 _ h => (s1.trans h.2.1).seq hS) ?_ ?_
    · rintro i x σ H3 hx ⟨⟨v, rfl⟩, s3, rs, ms, hm, hp, hl, hb⟩
      obtain ⟨c, ec, rfl⟩ := getMap hx
      obtain ⟨d, ed⟩ := deed_at c
      have hi : i < ns.length := (List.getElem?_eq_some_iff.mp ec).1
      refine ⟨(by show 3 ≤ sizeLine; decide), fun tX htX => ⟨_, rfl, _, 3, rfl, rfl, (by show (0 : Int) < 3; decide), .inr ⟨tX, _, _, .str (deed d), rfl, rfl, SqT.of upd_same, ed, ?_⟩⟩⟩
      refine ⟨_, rfl, _, 3, rfl, rfl, ⟨by decide, by decide⟩, _, rfl, _, _, rfl, rfl, (by omega), ?_⟩
      refine ⟨(by show 2 ≤ sizeLine; decide), fun t ht => ?_⟩
      have b0 := Int.emod_nonneg (c / 3) (show (n : Int) ≠ 0 by omega)
      have b1 := Int.emod_lt_of_pos (c / 3) (show (0 : Int) < n by omega)
      obtain ⟨k, ek⟩ : ∃ k : Nat, c / 3 % (n : Int) = (k : Int) := ⟨(c / 3 % (n : Int)).toNat, by omega⟩
      dsimp only
      rw [ek]
      rw [ek] at b1
      have s4 := (Same.upd (o := .tup [.str "in", .str "in", .str "out"]) htX).trans (Same.upd (o := .tup [.str (deed d), .int k]) ht)
      have hm4 := s4 _ _ hm
      refine ⟨_, hm4, ?_, ⟨_, rfl⟩, Same.updN (s3.trans s4) hmA, rs ++ [t], ms ++ [(d, k)], ?_, ?_, by simp [hl], fun m hm' => ?_⟩
      · rw [List.length_map, Paired.length hp, hl]
        exact small1000 (by omega)
      · rw [upd_same, List.map_append]; rfl
      · have np : ∀ (r : Addr) (m : Yd.Mv) (H : Hp), MvT H r m → H mA = some (.lst (rs.map V.ref)) → MvT (upd H mA (.lst (rs.map V.ref ++ [.ref t]))) r m := fun r m H z h => by
          unfold MvT
          rw [upd_ne (ne_of z h (by intro w; cases w))]
          exact z
        exact Paired.snoc' (Paired.imp (fun r m z => np r m _ (z.same s4) hm4) hp) (np t (d, k) _ upd_same hm4)
      · rcases List.mem_append.mp hm' with z | z
        · exact hb m z
        · rw [show m = (d, k) by simpa using z]
          show k < n
          omega
    rintro σ H2 ⟨_, s2, rs, ms, hm, hp, hml, hb⟩
    rw [List.length_map] at hml
    have hM2 : MovesAt H2 mA ms := ⟨rs, hm, hp⟩
    have hT2 := s2 _ _ h1
    -- for blind
    refine ⟨(by show 2 ≤ sizeLine; decide), fun bA hbA => ⟨bA, rfl, ⟨_, SqL.of upd_same⟩, ?_⟩⟩
    have s2b := Same.upd (o := .lst [.bl true, .bl false]) hbA
    refine for_list (K := K) (a := bA) (xs := [.bl true, .bl false]) (fun i σ H3 => (∃ v4 v5 v6 v7 v8 v9 v10 v11, σ = [some (.ref a), some (.ref trA), some (.int n), some (.ref mA), v4, v5, v6, v7, v8, v9, v10, v11]) ∧ Same (upd H2 bA (.lst [.bl true, .bl false])) H3)
      ⟨⟨_, _, _, _, _, _, _, _, rfl⟩, Same.refl _⟩ (fun i σ H3 _ h => SqL.of (h.2 _ _ upd_same)) ?_ ?_
    · rintro i x σ H3 hx ⟨⟨v4, v5, v6, v7, v8, v9, v10, v11, rfl⟩, s3⟩
      obtain ⟨b, rfl⟩ : ∃ b, x = .bl b := by
        cases i with
        | zero => exact ⟨true, (Option.some.inj hx).symm⟩
        | succ i => cases i with
          | zero => exact ⟨false, (Option.some.inj hx).symm⟩
          | succ i => simp at hx
      have s23 := s2b.trans s3
      have hT3 := s23 _ _ hT2
      have hm3 := s23 _ _ hm
      have hp3 : Paired (MvT H3) rs ms := Paired.imp (fun _ _ z => z.same s23) hp
      have hrl : rs.length = ms.length := Paired.length hp
      -- kept
      refine ⟨_, rfl, _, rfl, _, rfl, _, rfl, _, rfl, .inr (.inl ⟨mA, mA, _, _, rfl, rfl, hm3, hm3, ?_, fun mm hmm => ?_⟩)⟩
      · rw [List.length_map]
        exact Nat.le_of_lt (small1000 (by omega))
      have smm := Same.upd (o := .lst (rs.map V.ref ++ rs.map V.ref)) hmm
      refine ⟨trA, mm, b, n, tr, ms ++ ms, rfl, ⟨smm _ _ hT3, by omega, ⟨rs ++ rs, by rw [upd_same, List.map_append], Paired.append (Paired.imp (fun _ _ z => z.same smm) hp3) (Paired.imp (fun _ _ z => z.same smm) hp3)⟩, by rw [List.length_append]; omega, hn1, by omega, fun m hm => ?_⟩, fun kA ks H4 s4 hK hkl hkn => ?_⟩
      · rcases List.mem_append.mp hm with z | z <;> exact hb m z
      rw [List.length_append] at hkl
      have s34 : Same H3 H4 := smm.trans s4
      have hT4 := s34 _ _ hT3
      obtain ⟨ks1, hk1, hk2⟩ := id hK
      have hksl := Paired.length hk2
      -- the four
      refine ⟨_, rfl, _, rfl, _, rfl, (by show 2 ≤ sizeLine; decide), fun i1 hi1 => ⟨(by show 1 ≤ sizeLine; decide), fun i2 hi2 => ?_⟩⟩
      have si := (Same.upd (o := .tup [.str "in", .int 0]) hi1).trans (Same.upd (o := .lst [.ref i1]) hi2)
      refine ⟨_, rfl, _, _, rfl, .inl ⟨_, SqL.of (si _ _ hT4), rfl⟩, .inl ⟨_, 1, rfl, rfl, .inr ⟨i2, _, _, rfl, rfl, upd_same, ?_, ?_, ?_, fun i3 hi3 => ?_⟩⟩⟩
      · rw [List.length_map]; omega
      · rw [List.length_map]; omega
      · rw [List.length_map]
        show 1 * _ ≤ _
        exact Nat.le_of_lt (small1000 (by omega))
      rw [flat_one, List.length_map]
      obtain ⟨c, hc, hc2⟩ : ∃ c : Nat, ((tr.length : Int) + 1).toNat = c ∧ c ≤ 64 := ⟨_, rfl, by omega⟩
      rw [hc]
      have si3 := si.trans (Same.upd (o := .lst (List.replicate c (.ref i1))) hi3)
      refine .inr (.inl ⟨kA, i3, _, _, rfl, rfl, si3 _ _ hk1, upd_same, ?_, fun i4 hi4 => ?_⟩)
      · rw [List.length_map, List.length_replicate]
        exact Nat.le_of_lt (small1000 (by omega))
      have si4 := si3.trans (Same.upd (o := .lst (ks1.map V.ref ++ List.replicate c (.ref i1))) hi4)
      have m1 : MvT (upd (upd (upd (upd H4 i1 (.tup [.str "in", .int 0])) i2 (.lst [.ref i1])) i3 (.lst (List.replicate c (.ref i1)))) i4 (.lst (ks1.map V.ref ++ List.replicate c (.ref i1)))) i1 (true, 0) := upd_get (upd_get (upd_get upd_same hi2) hi3) hi4
      have M4 : MovesAt (upd (upd (upd (upd H4 i1 (.tup [.str "in", .int 0])) i2 (.lst [.ref i1])) i3 (.lst (List.replicate c (.ref i1)))) i4 (.lst (ks1.map V.ref ++ List.replicate c (.ref i1)))) i4 (ks ++ List.replicate c (true, 0)) :=
        ⟨ks1 ++ List.replicate c i1, by rw [upd_same, List.map_append, List.map_replicate], Paired.append (Paired.imp (fun _ _ z => z.same si4) hk2) (Paired.rep m1 c)⟩
      generalize upd (upd (upd (upd H4 i1 (.tup [.str "in", .int 0])) i2 (.lst [.ref i1])) i3 (.lst (List.replicate c (.ref i1)))) i4 (.lst (ks1.map V.ref ++ List.replicate c (.ref i1))) = H5 at si4 M4 m1 ⊢
      refine ⟨_, rfl, (by show 2 ≤ sizeLine; decide), fun o1 ho1 => ⟨(by show 1 ≤ sizeLine; decide), fun o2 ho2 => ?_⟩⟩
      have so := (Same.upd (o := .tup [.str "out", .int 0]) ho1).trans (Same.upd (o := .lst [.ref o1]) ho2)
      refine ⟨_, rfl, _, _, rfl, .inl ⟨_, SqL.of (so _ _ (si4 _ _ hT4)), rfl⟩, .inl ⟨_, 1, rfl, rfl, .inr ⟨o2, _, _, rfl, rfl, upd_same, ?_, ?_, ?_, fun o3 ho3 => ?_⟩⟩⟩
      · rw [List.length_map]; omega
      · rw [List.length_map]; omega
      · rw [List.length_map]
        show 1 * _ ≤ _
        exact Nat.le_of_lt (small1000 (by omega))
      rw [flat_one, List.length_map, hc]
      have so3 := so.trans (Same.upd (o := .lst (List.replicate c (.ref o1))) ho3)
      refine .inr (.inl ⟨kA, o3, _, _, rfl, rfl, so3 _ _ (si4 _ _ hk1), upd_same, ?_, fun o4 ho4 => ?_⟩)
      · rw [List.length_map, List.length_replicate]
        exact Nat.le_of_lt (small1000 (by omega))
      have so4 := so3.trans (Same.upd (o := .lst (ks1.map V.ref ++ List.replicate c (.ref o1))) ho4)
      have m2 : MvT (upd (upd (upd (upd H5 o1 (.tup [.str "out", .int 0])) o2 (.lst [.ref o1])) o3 (.lst (List.replicate c (.ref o1)))) o4 (.lst (ks1.map V.ref ++ List.replicate c (.ref o1)))) o1 (false, 0) := upd_get (upd_get (upd_get upd_same ho2) ho3) ho4
      have M5 : MovesAt (upd (upd (upd (upd H5 o1 (.tup [.str "out", .int 0])) o2 (.lst [.ref o1])) o3 (.lst (List.replicate c (.ref o1)))) o4 (.lst (ks1.map V.ref ++ List.replicate c (.ref o1)))) o4 (ks ++ List.replicate c (false, 0)) :=
        ⟨ks1 ++ List.replicate c o1, by rw [upd_same, List.map_append, List.map_replicate], Paired.append (Paired.imp (fun _ _ z => z.same (si4.trans so4)) hk2) (Paired.rep m2 c)⟩
      generalize upd (upd (upd (upd H5 o1 (.tup [.str "out", .int 0])) o2 (.lst [.ref o1])) o3 (.lst (List.replicate c (.ref o1)))) o4 (.lst (ks1.map V.ref ++ List.replicate c (.ref o1))) = H6 at so4 M5 m2 ⊢
      have s46 := si4.trans so4
      refine ⟨(by show 4 ≤ sizeLine; decide), fun qA hqA => ⟨qA, rfl, ⟨_, SqL.of upd_same⟩, ?_⟩⟩
      have sq := Same.upd (o := .lst [.ref mA, .ref kA, .ref i4, .ref o4]) hqA
      have bd : ∀ (d : Bool) m, m ∈ ks ++ List.replicate c (d, 0) → m.2 < n := fun d m hm => by
        rcases List.mem_append.mp hm with z | z
        · exact hkn m z
        · rw [(List.mem_replicate.mp z).2]
          show 0 < n
          omega
      have good : ∀ (j : Nat) x, ([.ref mA, .ref kA, .ref i4, .ref o4] : List V)[j]? = some x → Some1 (upd H6 qA (.lst [.ref mA, .ref kA, .ref i4, .ref o4])) n x := fun j x e => by
        match j, e with
        | 0, e => cases e; exact ⟨mA, ms, rfl, (hM2.same s23).same ((s34.trans s46).trans sq), by omega, hb⟩
        | 1, e => cases e; exact ⟨kA, ks, rfl, hK.same (s46.trans sq), by omega, hkn⟩
        | 2, e => cases e; exact ⟨i4, _, rfl, M4.same (so4.trans sq), by rw [List.length_append, List.length_replicate]; omega, bd true⟩
        | 3, e => cases e; exact ⟨o4, _, rfl, M5.same sq, by rw [List.length_append, List.length_replicate]; omega, bd false⟩
        | j + 4, e => simp at e
      have hT6 := (s46.trans sq) _ _ hT4
      have sAll : Same (upd H2 bA (.lst [.bl true, .bl false])) (upd H6 qA (.lst [.ref mA, .ref kA, .ref i4, .ref o4])) := (s3.trans s34).trans (s46.trans sq)
      have hqA7 : upd H6 qA (.lst [.ref mA, .ref kA, .ref i4, .ref o4]) qA = some (.lst [.ref mA, .ref kA, .ref i4, .ref o4]) := upd_same
      generalize upd H6 qA (.lst [.ref mA, .ref kA, .ref i4, .ref o4]) = H7 at good hT6 sAll hqA7 ⊢
      refine for_list (K := K) (a := qA) (xs := [.ref mA, .ref kA, .ref i4, .ref o4]) (fun i σ H8 => (∃ v6 v7 v8 v9 v10 v11, σ = [some (.ref a), some (.ref trA), some (.int n), some (.ref mA), some (.bl b), some (.ref kA), v6, v7, v8, v9, v10, v11]) ∧ Same H7 H8)
        ⟨⟨_, _, _, _, _, _, rfl⟩, Same.refl _⟩ (fun i σ H8 _ h => SqL.of (h.2 _ _ hqA7)) ?_ ?_
      · rintro j y σ H8 hy ⟨⟨v6, v7, v8, v9, v10, v11, rfl⟩, s8⟩
        obtain ⟨sA, xs, rfl, hX, hxl, hxn⟩ := (good j y hy).same s8
        have hT8 := s8 _ _ hT6
        obtain ⟨xr, hx1, hx2⟩ := id hX
        have hxrl := Paired.length hx2
        -- due, at
        refine ⟨_, rfl, _, rfl, _, rfl, _, rfl, trA, sA, b, n, tr, xs, rfl, ⟨hT8, by omega, hX, by omega, hn1, by omega, hxn⟩, fun r t3 H9 s9 hr9 hdue => ?_⟩
        refine ⟨r, _, rfl, SqT.of hr9, rfl, _, _, rfl, _, _, rfl, rfl, ?_⟩
        have hat : (Yd.go tr b (Yd.init n) xs).2 ≤ xs.length := Yd.go_le _ _ _ _
        have htake := Yd.go_take tr b (Yd.init n) xs
        obtain ⟨at_, hat_⟩ : ∃ k, k = (Yd.go tr b (Yd.init n) xs).2 := ⟨_, rfl⟩
        obtain ⟨st, hst_⟩ : ∃ st, st = (Yd.go tr b (Yd.init n) xs).1 := ⟨_, rfl⟩
        rw [← hat_, ← hst_] at htake
        rw [← hst_] at hdue
        rw [← hat_] at hat ⊢
        -- handed
        refine ⟨_, rfl, trA, _, rfl, .inl (SqL.of (s9 _ _ hT8)), fun l1 hl1 => ?_⟩
        have sl1 := Same.upd (o := .lst (tr.map V.int)) hl1
        refine ⟨_, rfl, sA, _, rfl, .inl (SqL.of (sl1 _ _ (s9 _ _ hx1))), fun l2 hl2 => ⟨(by show 2 ≤ sizeLine; decide), fun hA hhA => ?_⟩⟩
        have sl2 := sl1.trans (Same.upd (o := .lst (xr.map V.ref)) hl2)
        have sl3 := sl2.trans (Same.upd (o := .lst [.ref l1, .ref l2]) hhA)
        have hl1T : upd (upd (upd H9 l1 (.lst (tr.map V.int))) l2 (.lst (xr.map V.ref))) hA (.lst [.ref l1, .ref l2]) l1 = some (.lst (tr.map V.int)) := upd_get (upd_get upd_same hl2) hhA
        have hl2M : upd (upd (upd H9 l1 (.lst (tr.map V.int))) l2 (.lst (xr.map V.ref))) hA (.lst [.ref l1, .ref l2]) l2 = some (.lst (xr.map V.ref)) := upd_get upd_same hhA
        have hhAT : upd (upd (upd H9 l1 (.lst (tr.map V.int))) l2 (.lst (xr.map V.ref))) hA (.lst [.ref l1, .ref l2]) hA = some (.lst [.ref l1, .ref l2]) := upd_same
        generalize upd (upd (upd H9 l1 (.lst (tr.map V.int))) l2 (.lst (xr.map V.ref))) hA (.lst [.ref l1, .ref l2]) = HB at sl3 hl1T hl2M hhAT ⊢
        have s8B := s9.trans sl3
        have hxB : Paired (MvT HB) xr xs := Paired.imp (fun _ _ z => z.same s8B) hx2
        have hTB := s8B _ _ hT8
        have hX1B := s8B _ _ hx1
        have hdueB : DV K HB (.ref t3) (dY tr st) := hdue.same sl3
        -- at < len(some) and .. != at, then twice
        refine ⟨_, rfl, _, rfl, _, _, rfl, .inl ⟨_, SqL.of hX1B, rfl⟩, _, _, rfl, rfl, _, rfl, ?_⟩
        refine' both (HB := HB) (fun rest => ?hb) (fun HC sC => ?hr)
        case hb =>
          refine iteDB (fun hlt => ?_) (fun _ => iteF (rest HB (Same.refl _)))
          rw [List.length_map, hxrl] at hlt
          refine ⟨_, rfl, .inl ⟨hA, _, 0, .ref l1, rfl, rfl, SqL.of hhAT, rfl, _, rfl, _, rfl, _, rfl, .inl ⟨hA, _, 1, .ref l2, rfl, rfl, SqL.of hhAT, rfl, ?_⟩⟩⟩
          refine ⟨l1, l2, b, n, tr, xs, rfl, ⟨hl1T, by omega, ⟨xr, hl2M, hxB⟩, by omega, hn1, by omega, hxn⟩, htn, fun st' hst' HC sC => ?_, fun i' st' m' hst' em' hs' HC sC => ?_⟩
          · have e := congrArg Prod.snd (Yd.go_all hst')
            rw [← hat_] at e
            have e' : at_ = xs.length := e
            omega
          · have e := congrArg Prod.snd (Yd.go_stuck hst' em' hs')
            rw [← hat_] at e
            have e' : at_ = i' := e
            refine ⟨_, rfl, .inl ⟨rfl, _, rfl, iteNS (by rw [e']) (rest HC sC)⟩⟩
        refine ⟨2, rfl, by decide, by decide, ?_⟩
        have sBC := sC
        refine for_range (lo := 0) (n := 2) (fun i σ HD => (∃ v10 v11, σ = [some (.ref a), some (.ref trA), some (.int n), some (.ref mA), some (.bl b), some (.ref kA), some (.ref sA), some (.ref t3), some (.int (at_ : Int)), some (.ref hA), v10, v11]) ∧ Same HC HD)
          ⟨⟨_, _, rfl⟩, Same.refl _⟩ ?_ ?_
        · rintro i' σ HD hi' ⟨⟨v10, v11, rfl⟩, sD⟩
          have sBD := sC.trans sD
          refine ⟨_, rfl, .inl ⟨hA, _, 0, .ref l1, rfl, rfl, SqL.of (sBD _ _ hhAT), rfl, _, rfl, _, rfl, ?_⟩⟩
          refine ⟨_, rfl, _, rfl, _, rfl, sA, _, rfl, SqL.of (sBD _ _ hX1B), fun q hq => ?_⟩
          rw [cutV_to, ← List.map_take]
          have sq' := Same.upd (o := .lst ((xr.take at_).map V.ref)) hq
          have sBq := sBD.trans sq'
          have htl' : (xs.take at_).length ≤ 1000 := by rw [List.length_take]; omega
          refine ⟨l1, q, b, n, tr, xs.take at_, rfl, sBq _ _ hl1T, by omega, htn, ⟨xr.take at_, upd_same, Paired.take _ (Paired.imp (fun _ _ z => z.same sBq) hxB)⟩, htl', hn1, by omega, fun m hm' => hxn m (List.mem_of_mem_take hm'), fun st' hst' r' lA tA' eA ls HE told => ?_, fun i2 st' m' hst' em' hs' => absurd hs' (no_stuck htake hst' em')⟩
          have est : st = st' := Option.some.inj (htake.symm.trans hst')
          subst est
          have sBE := sBq.trans told.same
          have sDE := sq'.trans told.same
          refine ⟨_, rfl, _, _, _, _, _, rfl, rfl, ty_inj, .tup told.tup, kit_same, _, rfl, iteF ?_⟩
          refine ⟨_, rfl, _, rfl, .inr ⟨dY tr st, dY tr st, told.dv, hdueB.same sBE, ok_dY 6 _ _, ok_dY 6 _ _, _, rfl, iteNSc rfl ?_⟩⟩
          refine ⟨_, rfl, _, rfl, _, rfl, (by show 2 ≤ sizeLine; decide), fun l hl => ?_⟩
          have sl := Same.upd (o := .lst [.ref trA, .ref sA]) hl
          have sBl := sBE.trans sl
          have dvM : ∀ {q : Addr}, HB q = some (.lst (xr.map V.ref)) → DV K (upd HE l (.lst [.ref trA, .ref sA])) (.ref q) (.list (xs.map dM)) := fun {q} h => MovesAt.dv ⟨xr, sBl _ _ h, Paired.imp (fun _ _ z => z.same sBl) hxB⟩
          have okH : PySem.W.kqdOk 9 (.list [dI tr, .list (xs.map dM)]) = true := ok_list fun d hd => by
            simp only [List.mem_cons, List.not_mem_nil, or_false] at hd
            rcases hd with rfl | rfl
            · exact ok_ints _ _
            · exact ok_moves _ _
          refine .inr ⟨.list [dI tr, .list (xs.map dM)], .list [dI tr, .list (xs.map dM)], .lst (SqL.of (sBl _ _ hhAT)) (.cons (.ints (SqL.of (sBl _ _ hl1T))) (.cons (dvM hl2M) .nil)),
            .lst (SqL.of upd_same) (.cons (.ints (SqL.of (sBl _ _ hTB))) (.cons (dvM hX1B) .nil)), okH, okH, _, rfl, iteNSc rfl ?_⟩
          -- all lists
          refine ⟨_, rfl, r', rfl, ⟨_, SqT.of (sl _ _ told.tup)⟩, fun p hp => ?_⟩
          have hfL := sl _ _ told.left
          have hfT := sl _ _ told.trs
          have hfE := sl _ _ told.rest
          have hfR := sl _ _ told.tup
          have lists : ∀ (j : Nat) x, ([.ref lA, .ref tA', .ref eA] : List V)[j]? = some x → ∃ q xs', x = .ref q ∧ (upd HE l (.lst [.ref trA, .ref sA])) q = some (.lst xs') := fun j x e => by
            match j, e with
            | 0, e => cases e; exact ⟨_, _, rfl, hfL⟩
            | 1, e => cases e; exact ⟨_, _, rfl, hfT⟩
            | 2, e => cases e; exact ⟨_, _, rfl, hfE⟩
            | j + 3, e => simp at e
          have sDl := sDE.trans sl
          have nL : HD lA = none := sq'.free told.newL
          have nT : HD tA' = none := sq'.free told.newT
          have nE : HD eA = none := sq'.free told.newE
          have lt := told.l_t
          have le := told.l_e
          have te := told.t_e
          generalize upd HE l (.lst [.ref trA, .ref sA]) = HF at lists hfL hfT hfE hfR sDl hp ⊢
          refine turns_tup (K := K) (a := r') (xs := [.ref lA, .ref tA', .ref eA]) (fun i σ HG => (∃ v, σ = [v]) ∧ Same HF HG ∧ HG p = some (.lst ((List.replicate i true).map V.bl)))
            ⟨⟨_, rfl⟩, Same.upd hp, upd_same⟩ (fun i σ HG _ h => SqT.of (h.2.1 _ _ hfR)) ?_ ?_
          · rintro j x σ HG hx ⟨⟨v, rfl⟩, sG, hG⟩
            obtain ⟨q', xs', rfl, hq'⟩ := lists j x hx
            have hj : j < 3 := (List.getElem?_eq_some_iff.mp hx).1
            refine ⟨_, rfl, _, _, _, _, _, rfl, rfl, ty_inj, .lst (sG _ _ hq'), kit_same, _, hG, ?_, ⟨_, rfl⟩, Same.updN sG hp, ?_⟩
            · rw [List.length_map, List.length_replicate]
              exact small1000 (by omega)
            · rw [upd_same, List.replicate_succ', List.map_append]
              rfl
          · rintro σ HG ⟨_, sG, hG⟩
            refine ⟨p, List.replicate 3 true, rfl, SqL.of hG, _, rfl, iteF ?_⟩
            have gR := sG _ _ hfR
            have gL := sG _ _ hfL
            have gT := sG _ _ hfT
            have gE := sG _ _ hfE
            have nrL : r' ≠ lA := ne_of gR gL (by intro z; cases z)
            have nrT : r' ≠ tA' := ne_of gR gT (by intro z; cases z)
            refine ⟨_, rfl, .inr ⟨r', _, 0, .ref lA, rfl, rfl, SqT.of gR, rfl, .inl ⟨rfl, _, SqL.of gL⟩, lA, _, _, rfl, rfl, gL, ?_, ?_⟩⟩
            · rw [List.length_map]
              have := Yd.steps_left hst'
              exact small1000 (by omega)
            refine ⟨_, rfl, .inr ⟨r', _, 1, .ref tA', rfl, rfl, SqT.of (by rw [upd_ne nrL]; exact gR), rfl, .inl ⟨rfl, _, SqL.of (by rw [upd_ne lt.symm]; exact gT)⟩, tA', _, rfl, rfl, (by rw [upd_ne lt.symm]; exact gT), ?_⟩⟩
            refine ⟨_, rfl, .inr ⟨r', _, 2, .ref eA, rfl, rfl, SqT.of (by rw [upd_ne nrT, upd_ne nrL]; exact gR), rfl, .inl ⟨rfl, _, SqL.of (by rw [upd_ne te.symm, upd_ne le.symm]; exact gE)⟩, eA, _, _, rfl, rfl, (by rw [upd_ne te.symm, upd_ne le.symm]; exact gE), ?_, ?_⟩⟩
            · rw [List.length_map, List.length_drop]
              exact small1000 (by omega)
            exact ⟨⟨_, _, rfl⟩, sD.trans (Same.updN (Same.updN (Same.updN (sDl.trans sG) nL) nT) nE)⟩
        · rintro σ HD ⟨⟨v10, v11, rfl⟩, sD⟩
          exact ⟨⟨_, _, _, _, _, _, rfl⟩, s8.trans ((s8B.trans sC).trans sD)⟩
      · rintro σ H8 ⟨⟨v6, v7, v8, v9, v10, v11, rfl⟩, s8⟩
        exact ⟨⟨_, _, _, _, _, _, _, _, rfl⟩, sAll.trans s8⟩
    · rintro σ H3 ⟨_, _⟩
      exact kQ H3
end
end My
namespace My
open PySem L2
theorem all_mk {l : PySem.W.OpenLaw} {w : World} {K : PySem.W.Frag} {h : Heap} {mg : Str → Option Value} {fa : Addr} (X : K.In h) (G : h.Ns mainGlobals mg) (hfa : mg "law" = some (.ref fa))
    {f0 : Addr} {od0 an0 : Option Addr} {sl0 : Array (Option Value)} {oc0 kV0 dc0 pm0 cd0 ct0 : Value}
    {f1 : Addr} {od1 an1 : Option Addr} {sl1 : Array (Option Value)} {oc1 kV1 dc1 pm1 cd1 ct1 : Value}
    {f2 : Addr} {od2 an2 : Option Addr} {sl2 : Array (Option Value)} {oc2 kV2 dc2 pm2 cd2 ct2 : Value}
    {f3 : Addr} {od3 an3 : Option Addr} {sl3 : Array (Option Value)} {oc3 kV3 dc3 pm3 cd3 ct3 : Value}
    {f4 : Addr} {od4 an4 : Option Addr} {sl4 : Array (Option Value)} {oc4 kV4 dc4 pm4 cd4 ct4 : Value}
    {f5 : Addr} {od5 an5 : Option Addr} {sl5 : Array (Option Value)} {oc5 kV5 dc5 pm5 cd5 ct5 : Value}
    {f6 : Addr} {od6 an6 : Option Addr} {sl6 : Array (Option Value)} {oc6 kV6 dc6 pm6 cd6 ct6 : Value}
    {f7 : Addr} {od7 an7 : Option Addr} {sl7 : Array (Option Value)} {oc7 kV7 dc7 pm7 cd7 ct7 : Value}
    {f8 : Addr} {od8 an8 : Option Addr} {sl8 : Array (Option Value)} {oc8 kV8 dc8 pm8 cd8 ct8 : Value}
    {f9 : Addr} {od9 an9 : Option Addr} {sl9 : Array (Option Value)} {oc9 kV9 dc9 pm9 cd9 ct9 : Value}
    {f10 : Addr} {od10 an10 : Option Addr} {sl10 : Array (Option Value)} {oc10 kV10 dc10 pm10 cd10 ct10 : Value}
    {f11 : Addr} {od11 an11 : Option Addr} {sl11 : Array (Option Value)} {oc11 kV11 dc11 pm11 cd11 ct11 : Value}
    {f12 : Addr} {od12 an12 : Option Addr} {sl12 : Array (Option Value)} {oc12 kV12 dc12 pm12 cd12 ct12 : Value}
    {f13 : Addr} {od13 an13 : Option Addr} {sl13 : Array (Option Value)} {oc13 kV13 dc13 pm13 cd13 ct13 : Value}
    {f14 : Addr} {od14 an14 : Option Addr} {sl14 : Array (Option Value)} {oc14 kV14 dc14 pm14 cd14 ct14 : Value}
    {f15 : Addr} {od15 an15 : Option Addr} {sl15 : Array (Option Value)} {oc15 kV15 dc15 pm15 cd15 ct15 : Value}
    {CYardError : Addr}
    {CBadTrain : Addr}
    {CBadYard : Addr}
    {CBadMoves : Addr}
    {CStuck : Addr}
    {CBadText : Addr}
    {CTrack : Addr}
    {CYard : Addr}
    {fStuck_init : Addr} {odStuck_init anStuck_init : Option Addr} {slStuck_init : Array (Option Value)} {ocStuck_init kVStuck_init dcStuck_init pmStuck_init cdStuck_init ctStuck_init : Value}
    {fTrack_init : Addr} {odTrack_init anTrack_init : Option Addr} {slTrack_init : Array (Option Value)} {ocTrack_init kVTrack_init dcTrack_init pmTrack_init cdTrack_init ctTrack_init : Value}
    {fTrack_is_empty : Addr} {odTrack_is_empty anTrack_is_empty : Option Addr} {slTrack_is_empty : Array (Option Value)} {ocTrack_is_empty kVTrack_is_empty dcTrack_is_empty pmTrack_is_empty cdTrack_is_empty ctTrack_is_empty : Value}
    {fTrack_let_in : Addr} {odTrack_let_in anTrack_let_in : Option Addr} {slTrack_let_in : Array (Option Value)} {ocTrack_let_in kVTrack_let_in dcTrack_let_in pmTrack_let_in cdTrack_let_in ctTrack_let_in : Value}
    {fTrack_let_out : Addr} {odTrack_let_out anTrack_let_out : Option Addr} {slTrack_let_out : Array (Option Value)} {ocTrack_let_out kVTrack_let_out dcTrack_let_out pmTrack_let_out cdTrack_let_out ctTrack_let_out : Value}
    {fTrack_standing : Addr} {odTrack_standing anTrack_standing : Option Addr} {slTrack_standing : Array (Option Value)} {ocTrack_standing kVTrack_standing dcTrack_standing pmTrack_standing cdTrack_standing ctTrack_standing : Value}
    {fYard_init : Addr} {odYard_init anYard_init : Option Addr} {slYard_init : Array (Option Value)} {ocYard_init kVYard_init dcYard_init pmYard_init cdYard_init ctYard_init : Value}
    {fYard_carry_out : Addr} {odYard_carry_out anYard_carry_out : Option Addr} {slYard_carry_out : Array (Option Value)} {ocYard_carry_out kVYard_carry_out dcYard_carry_out pmYard_carry_out cdYard_carry_out ctYard_carry_out : Value}
    {fYard_carry_in : Addr} {odYard_carry_in anYard_carry_in : Option Addr} {slYard_carry_in : Array (Option Value)} {ocYard_carry_in kVYard_carry_in dcYard_carry_in pmYard_carry_in cdYard_carry_in ctYard_carry_in : Value}
    {fYard_carry_away : Addr} {odYard_carry_away anYard_carry_away : Option Addr} {slYard_carry_away : Array (Option Value)} {ocYard_carry_away kVYard_carry_away dcYard_carry_away pmYard_carry_away cdYard_carry_away ctYard_carry_away : Value}
    {fYard_standing_on : Addr} {odYard_standing_on anYard_standing_on : Option Addr} {slYard_standing_on : Array (Option Value)} {ocYard_standing_on kVYard_standing_on dcYard_standing_on pmYard_standing_on cdYard_standing_on ctYard_standing_on : Value}
    {tMOST_TRACKS : Tok}
    {GWORDS : Addr} {tWORDS0 tWORDS1 : Tok} {odWORDS : Option Addr} {nWORDS : Nat} {slWORDS : Array (Option Value)}
    (n_all : PySem.W.nsIn K mainGlobals "all" = some none)
    (n_any : PySem.W.nsIn K mainGlobals "any" = some none)
    (n_bool : PySem.W.nsIn K mainGlobals "bool" = some none)
    (n_enumerate : PySem.W.nsIn K mainGlobals "enumerate" = some none)
    (n_int : PySem.W.nsIn K mainGlobals "int" = some none)
    (n_isinstance : PySem.W.nsIn K mainGlobals "isinstance" = some none)
    (n_len : PySem.W.nsIn K mainGlobals "len" = some none)
    (n_list : PySem.W.nsIn K mainGlobals "list" = some none)
    (n_range : PySem.W.nsIn K mainGlobals "range" = some none)
    (n_sorted : PySem.W.nsIn K mainGlobals "sorted" = some none)
    (n_str : PySem.W.nsIn K mainGlobals "str" = some none)
    (n_sum : PySem.W.nsIn K mainGlobals "sum" = some none)
    (n_tuple : PySem.W.nsIn K mainGlobals "tuple" = some none)
    (n_zip : PySem.W.nsIn K mainGlobals "zip" = some none)
    (a0 : PySem.W.nsIn K mainGlobals "is_number" = some (some (.ref f0)))
    (l0 : K.lookup f0 = some ⟨oc0, od0, .func (PySem.W.fnOf "is_number" "is_number" (defArgs s_is_number) (defBody s_is_number) (defScope s_is_number) .none kV0 dc0 pm0 an0 cd0 ct0), sl0⟩)
    (c0 : PySem.W.codeIn K cd0 "is_number" = true)
    (k0 : PySem.W.keepIn K (.ref f0) = true)
    (a1 : PySem.W.nsIn K mainGlobals "checked_train" = some (some (.ref f1)))
    (l1 : K.lookup f1 = some ⟨oc1, od1, .func (PySem.W.fnOf "checked_train" "checked_train" (defArgs s_checked_train) (defBody s_checked_train) (defScope s_checked_train) .none kV1 dc1 pm1 an1 cd1 ct1), sl1⟩)
    (c1 : PySem.W.codeIn K cd1 "checked_train" = true)
    (k1 : PySem.W.keepIn K (.ref f1) = true)
    (a2 : PySem.W.nsIn K mainGlobals "has_two_alike" = some (some (.ref f2)))
    (l2 : K.lookup f2 = some ⟨oc2, od2, .func (PySem.W.fnOf "has_two_alike" "has_two_alike" (defArgs s_has_two_alike) (defBody s_has_two_alike) (defScope s_has_two_alike) .none kV2 dc2 pm2 an2 cd2 ct2), sl2⟩)
    (c2 : PySem.W.codeIn K cd2 "has_two_alike" = true)
    (k2 : PySem.W.keepIn K (.ref f2) = true)
    (a3 : PySem.W.nsIn K mainGlobals "checked_blind" = some (some (.ref f3)))
    (l3 : K.lookup f3 = some ⟨oc3, od3, .func (PySem.W.fnOf "checked_blind" "checked_blind" (defArgs s_checked_blind) (defBody s_checked_blind) (defScope s_checked_blind) .none kV3 dc3 pm3 an3 cd3 ct3), sl3⟩)
    (c3 : PySem.W.codeIn K cd3 "checked_blind" = true)
    (k3 : PySem.W.keepIn K (.ref f3) = true)
    (a4 : PySem.W.nsIn K mainGlobals "checked_count" = some (some (.ref f4)))
    (l4 : K.lookup f4 = some ⟨oc4, od4, .func (PySem.W.fnOf "checked_count" "checked_count" (defArgs s_checked_count) (defBody s_checked_count) (defScope s_checked_count) .none kV4 dc4 pm4 an4 cd4 ct4), sl4⟩)
    (c4 : PySem.W.codeIn K cd4 "checked_count" = true)
    (k4 : PySem.W.keepIn K (.ref f4) = true)
    (a5 : PySem.W.nsIn K mainGlobals "checked_many" = some (some (.ref f5)))
    (l5 : K.lookup f5 = some ⟨oc5, od5, .func (PySem.W.fnOf "checked_many" "checked_many" (defArgs s_checked_many) (defBody s_checked_many) (defScope s_checked_many) .none kV5 dc5 pm5 an5 cd5 ct5), sl5⟩)
    (c5 : PySem.W.codeIn K cd5 "checked_many" = true)
    (k5 : PySem.W.keepIn K (.ref f5) = true)
    (a6 : PySem.W.nsIn K mainGlobals "checked_moves" = some (some (.ref f6)))
    (l6 : K.lookup f6 = some ⟨oc6, od6, .func (PySem.W.fnOf "checked_moves" "checked_moves" (defArgs s_checked_moves) (defBody s_checked_moves) (defScope s_checked_moves) .none kV6 dc6 pm6 an6 cd6 ct6), sl6⟩)
    (c6 : PySem.W.codeIn K cd6 "checked_moves" = true)
    (k6 : PySem.W.keepIn K (.ref f6) = true)
    (a7 : PySem.W.nsIn K mainGlobals "checked_move" = some (some (.ref f7)))
    (l7 : K.lookup f7 = some ⟨oc7, od7, .func (PySem.W.fnOf "checked_move" "checked_move" (defArgs s_checked_move) (defBody s_checked_move) (defScope s_checked_move) .none kV7 dc7 pm7 an7 cd7 ct7), sl7⟩)
    (c7 : PySem.W.codeIn K cd7 "checked_move" = true)
    (k7 : PySem.W.keepIn K (.ref f7) = true)
    (a8 : PySem.W.nsIn K mainGlobals "checked_word" = some (some (.ref f8)))
    (l8 : K.lookup f8 = some ⟨oc8, od8, .func (PySem.W.fnOf "checked_word" "checked_word" (defArgs s_checked_word) (defBody s_checked_word) (defScope s_checked_word) .none kV8 dc8 pm8 an8 cd8 ct8), sl8⟩)
    (c8 : PySem.W.codeIn K cd8 "checked_word" = true)
    (k8 : PySem.W.keepIn K (.ref f8) = true)
    (a9 : PySem.W.nsIn K mainGlobals "checked_track" = some (some (.ref f9)))
    (l9 : K.lookup f9 = some ⟨oc9, od9, .func (PySem.W.fnOf "checked_track" "checked_track" (defArgs s_checked_track) (defBody s_checked_track) (defScope s_checked_track) .none kV9 dc9 pm9 an9 cd9 ct9), sl9⟩)
    (c9 : PySem.W.codeIn K cd9 "checked_track" = true)
    (k9 : PySem.W.keepIn K (.ref f9) = true)
    (a10 : PySem.W.nsIn K mainGlobals "run" = some (some (.ref f10)))
    (l10 : K.lookup f10 = some ⟨oc10, od10, .func (PySem.W.fnOf "run" "run" (defArgs s_run) (defBody s_run) (defScope s_run) .none kV10 dc10 pm10 an10 cd10 ct10), sl10⟩)
    (c10 : PySem.W.codeIn K cd10 "run" = true)
    (k10 : PySem.W.keepIn K (.ref f10) = true)
    (a11 : PySem.W.nsIn K mainGlobals "_law_inserted" = some (some (.ref f11)))
    (l11 : K.lookup f11 = some ⟨oc11, od11, .func (PySem.W.fnOf "_law_inserted" "_law_inserted" (defArgs s__law_inserted) (defBody s__law_inserted) (defScope s__law_inserted) .none kV11 dc11 pm11 an11 cd11 ct11), sl11⟩)
    (c11 : PySem.W.codeIn K cd11 "_law_inserted" = true)
    (k11 : PySem.W.keepIn K (.ref f11) = true)
    (a12 : PySem.W.nsIn K mainGlobals "_law_yard" = some (some (.ref f12)))
    (l12 : K.lookup f12 = some ⟨oc12, od12, .func (PySem.W.fnOf "_law_yard" "_law_yard" (defArgs s__law_yard) (defBody s__law_yard) (defScope s__law_yard) .none kV12 dc12 pm12 an12 cd12 ct12), sl12⟩)
    (c12 : PySem.W.codeIn K cd12 "_law_yard" = true)
    (k12 : PySem.W.keepIn K (.ref f12) = true)
    (a13 : PySem.W.nsIn K mainGlobals "_law_kept" = some (some (.ref f13)))
    (l13 : K.lookup f13 = some ⟨oc13, od13, .func (PySem.W.fnOf "_law_kept" "_law_kept" (defArgs s__law_kept) (defBody s__law_kept) (defScope s__law_kept) .none kV13 dc13 pm13 an13 cd13 ct13), sl13⟩)
    (c13 : PySem.W.codeIn K cd13 "_law_kept" = true)
    (k13 : PySem.W.keepIn K (.ref f13) = true)
    (a14 : PySem.W.nsIn K mainGlobals "_law_stuck" = some (some (.ref f14)))
    (l14 : K.lookup f14 = some ⟨oc14, od14, .func (PySem.W.fnOf "_law_stuck" "_law_stuck" (defArgs s__law_stuck) (defBody s__law_stuck) (defScope s__law_stuck) .none kV14 dc14 pm14 an14 cd14 ct14), sl14⟩)
    (c14 : PySem.W.codeIn K cd14 "_law_stuck" = true)
    (k14 : PySem.W.keepIn K (.ref f14) = true)
    (a15 : PySem.W.nsIn K mainGlobals "law" = some (some (.ref f15)))
    (l15 : K.lookup f15 = some ⟨oc15, od15, .func (PySem.W.fnOf "law" "law" (defArgs s_law) (defBody s_law) (defScope s_law) .none kV15 dc15 pm15 an15 cd15 ct15), sl15⟩)
    (c15 : PySem.W.codeIn K cd15 "law" = true)
    (k15 : PySem.W.keepIn K (.ref f15) = true)
    (aCYardError : PySem.W.nsIn K mainGlobals "YardError" = some (some (.ref CYardError)))
    (aCBadTrain : PySem.W.nsIn K mainGlobals "BadTrain" = some (some (.ref CBadTrain)))
    (aCBadYard : PySem.W.nsIn K mainGlobals "BadYard" = some (some (.ref CBadYard)))
    (aCBadMoves : PySem.W.nsIn K mainGlobals "BadMoves" = some (some (.ref CBadMoves)))
    (aCStuck : PySem.W.nsIn K mainGlobals "Stuck" = some (some (.ref CStuck)))
    (aCBadText : PySem.W.nsIn K mainGlobals "BadText" = some (some (.ref CBadText)))
    (aCTrack : PySem.W.nsIn K mainGlobals "Track" = some (some (.ref CTrack)))
    (pgTrack : PySem.W.plainGet K CTrack Str.empty = true)
    (hdTrack : PySem.W.hasDictIn K CTrack = true)
    (poTrack : PySem.W.plainOver K CTrack = true)
    (saTrack : PySem.W.findIn K (.ref CTrack) "__setattr__" = some (some (.builtin "object.__setattr__")))
    (yaTrack : PySem.W.findIn K (.ref CTrack) "__class__" = some (some (.builtin "object.__class__")))
    (ynTrack : PySem.W.specialIn K (.builtin "object.__class__") "__get__" = some (some (.builtin "getset_descriptor.__get__")))
    (ytTrack : PySem.W.takesIn K (.builtin "object.__class__") = some true)
    (ymTrack : PySem.W.mroIn K CTrack (.type "object") = some true)
    (naTrack_blind : PySem.W.findIn K (.ref CTrack) "blind" = some none)
    (naTrack_came : PySem.W.findIn K (.ref CTrack) "came" = some none)
    (naTrack_gone_ahead : PySem.W.findIn K (.ref CTrack) "gone_ahead" = some none)
    (aCYard : PySem.W.nsIn K mainGlobals "Yard" = some (some (.ref CYard)))
    (pgYard : PySem.W.plainGet K CYard Str.empty = true)
    (hdYard : PySem.W.hasDictIn K CYard = true)
    (poYard : PySem.W.plainOver K CYard = true)
    (saYard : PySem.W.findIn K (.ref CYard) "__setattr__" = some (some (.builtin "object.__setattr__")))
    (yaYard : PySem.W.findIn K (.ref CYard) "__class__" = some (some (.builtin "object.__class__")))
    (ynYard : PySem.W.specialIn K (.builtin "object.__class__") "__get__" = some (some (.builtin "getset_descriptor.__get__")))
    (ytYard : PySem.W.takesIn K (.builtin "object.__class__") = some true)
    (ymYard : PySem.W.mroIn K CYard (.type "object") = some true)
    (naYard_blind : PySem.W.findIn K (.ref CYard) "blind" = some none)
    (naYard_come : PySem.W.findIn K (.ref CYard) "come" = some none)
    (naYard_left : PySem.W.findIn K (.ref CYard) "left" = some none)
    (naYard_tracks : PySem.W.findIn K (.ref CYard) "tracks" = some none)
    (naYard_wagons : PySem.W.findIn K (.ref CYard) "wagons" = some none)
    (aStuck_init : PySem.W.findIn K (.ref CStuck) "__init__" = some (some (.ref fStuck_init)))
    (lStuck_init : K.lookup fStuck_init = some ⟨ocStuck_init, odStuck_init, .func (PySem.W.fnOf "__init__" "Stuck.__init__" (defArgs s_Stuck_init) (defBody s_Stuck_init) (defScope s_Stuck_init) .none kVStuck_init dcStuck_init pmStuck_init anStuck_init cdStuck_init ctStuck_init), slStuck_init⟩)
    (cStuck_init : PySem.W.codeIn K cdStuck_init "Stuck.__init__" = true)
    (kStuck_init : PySem.W.keepIn K (.ref fStuck_init) = true)
    (xiStuck_init : xIn K CStuck = true)
    (xnStuck_init : ((PySem.W.clsIn K CStuck).bind fun cd => PySem.W.nsIn K cd.ns "__init__") = some (some (.ref fStuck_init)))
    (xfStuck_init : PySem.W.isFn K (.ref fStuck_init) = true)
    (xkStuck_init : PySem.W.keepIn K (.ref CStuck) = true)
    (aTrack_init : PySem.W.findIn K (.ref CTrack) "__init__" = some (some (.ref fTrack_init)))
    (lTrack_init : K.lookup fTrack_init = some ⟨ocTrack_init, odTrack_init, .func (PySem.W.fnOf "__init__" "Track.__init__" (defArgs s_Track_init) (defBody s_Track_init) (defScope s_Track_init) .none kVTrack_init dcTrack_init pmTrack_init anTrack_init cdTrack_init ctTrack_init), slTrack_init⟩)
    (cTrack_init : PySem.W.codeIn K cdTrack_init "Track.__init__" = true)
    (kTrack_init : PySem.W.keepIn K (.ref fTrack_init) = true)
    (mkTrack_init : PySem.W.makesIn K CTrack = true)
    (ifTrack_init : PySem.W.isFn K (.ref fTrack_init) = true)
    (ikTrack_init : PySem.W.keepIn K (.ref CTrack) = true)
    (aTrack_is_empty : PySem.W.findIn K (.ref CTrack) "is_empty" = some (some (.ref fTrack_is_empty)))
    (lTrack_is_empty : K.lookup fTrack_is_empty = some ⟨ocTrack_is_empty, odTrack_is_empty, .func (PySem.W.fnOf "is_empty" "Track.is_empty" (defArgs s_Track_is_empty) (defBody s_Track_is_empty) (defScope s_Track_is_empty) .none kVTrack_is_empty dcTrack_is_empty pmTrack_is_empty anTrack_is_empty cdTrack_is_empty ctTrack_is_empty), slTrack_is_empty⟩)
    (cTrack_is_empty : PySem.W.codeIn K cdTrack_is_empty "Track.is_empty" = true)
    (kTrack_is_empty : PySem.W.keepIn K (.ref fTrack_is_empty) = true)
    (mfTrack_is_empty : PySem.W.isFn K (.ref fTrack_is_empty) = true)
    (aTrack_let_in : PySem.W.findIn K (.ref CTrack) "let_in" = some (some (.ref fTrack_let_in)))
    (lTrack_let_in : K.lookup fTrack_let_in = some ⟨ocTrack_let_in, odTrack_let_in, .func (PySem.W.fnOf "let_in" "Track.let_in" (defArgs s_Track_let_in) (defBody s_Track_let_in) (defScope s_Track_let_in) .none kVTrack_let_in dcTrack_let_in pmTrack_let_in anTrack_let_in cdTrack_let_in ctTrack_let_in), slTrack_let_in⟩)
    (cTrack_let_in : PySem.W.codeIn K cdTrack_let_in "Track.let_in" = true)
    (kTrack_let_in : PySem.W.keepIn K (.ref fTrack_let_in) = true)
    (mfTrack_let_in : PySem.W.isFn K (.ref fTrack_let_in) = true)
    (aTrack_let_out : PySem.W.findIn K (.ref CTrack) "let_out" = some (some (.ref fTrack_let_out)))
    (lTrack_let_out : K.lookup fTrack_let_out = some ⟨ocTrack_let_out, odTrack_let_out, .func (PySem.W.fnOf "let_out" "Track.let_out" (defArgs s_Track_let_out) (defBody s_Track_let_out) (defScope s_Track_let_out) .none kVTrack_let_out dcTrack_let_out pmTrack_let_out anTrack_let_out cdTrack_let_out ctTrack_let_out), slTrack_let_out⟩)
    (cTrack_let_out : PySem.W.codeIn K cdTrack_let_out "Track.let_out" = true)
    (kTrack_let_out : PySem.W.keepIn K (.ref fTrack_let_out) = true)
    (mfTrack_let_out : PySem.W.isFn K (.ref fTrack_let_out) = true)
    (aTrack_standing : PySem.W.findIn K (.ref CTrack) "standing" = some (some (.ref fTrack_standing)))
    (lTrack_standing : K.lookup fTrack_standing = some ⟨ocTrack_standing, odTrack_standing, .func (PySem.W.fnOf "standing" "Track.standing" (defArgs s_Track_standing) (defBody s_Track_standing) (defScope s_Track_standing) .none kVTrack_standing dcTrack_standing pmTrack_standing anTrack_standing cdTrack_standing ctTrack_standing), slTrack_standing⟩)
    (cTrack_standing : PySem.W.codeIn K cdTrack_standing "Track.standing" = true)
    (kTrack_standing : PySem.W.keepIn K (.ref fTrack_standing) = true)
    (mfTrack_standing : PySem.W.isFn K (.ref fTrack_standing) = true)
    (aYard_init : PySem.W.findIn K (.ref CYard) "__init__" = some (some (.ref fYard_init)))
    (lYard_init : K.lookup fYard_init = some ⟨ocYard_init, odYard_init, .func (PySem.W.fnOf "__init__" "Yard.__init__" (defArgs s_Yard_init) (defBody s_Yard_init) (defScope s_Yard_init) .none kVYard_init dcYard_init pmYard_init anYard_init cdYard_init ctYard_init), slYard_init⟩)
    (cYard_init : PySem.W.codeIn K cdYard_init "Yard.__init__" = true)
    (kYard_init : PySem.W.keepIn K (.ref fYard_init) = true)
    (mkYard_init : PySem.W.makesIn K CYard = true)
    (ifYard_init : PySem.W.isFn K (.ref fYard_init) = true)
    (ikYard_init : PySem.W.keepIn K (.ref CYard) = true)
    (aYard_carry_out : PySem.W.findIn K (.ref CYard) "carry_out" = some (some (.ref fYard_carry_out)))
    (lYard_carry_out : K.lookup fYard_carry_out = some ⟨ocYard_carry_out, odYard_carry_out, .func (PySem.W.fnOf "carry_out" "Yard.carry_out" (defArgs s_Yard_carry_out) (defBody s_Yard_carry_out) (defScope s_Yard_carry_out) .none kVYard_carry_out dcYard_carry_out pmYard_carry_out anYard_carry_out cdYard_carry_out ctYard_carry_out), slYard_carry_out⟩)
    (cYard_carry_out : PySem.W.codeIn K cdYard_carry_out "Yard.carry_out" = true)
    (kYard_carry_out : PySem.W.keepIn K (.ref fYard_carry_out) = true)
    (mfYard_carry_out : PySem.W.isFn K (.ref fYard_carry_out) = true)
    (aYard_carry_in : PySem.W.findIn K (.ref CYard) "carry_in" = some (some (.ref fYard_carry_in)))
    (lYard_carry_in : K.lookup fYard_carry_in = some ⟨ocYard_carry_in, odYard_carry_in, .func (PySem.W.fnOf "carry_in" "Yard.carry_in" (defArgs s_Yard_carry_in) (defBody s_Yard_carry_in) (defScope s_Yard_carry_in) .none kVYard_carry_in dcYard_carry_in pmYard_carry_in anYard_carry_in cdYard_carry_in ctYard_carry_in), slYard_carry_in⟩)
    (cYard_carry_in : PySem.W.codeIn K cdYard_carry_in "Yard.carry_in" = true)
    (kYard_carry_in : PySem.W.keepIn K (.ref fYard_carry_in) = true)
    (mfYard_carry_in : PySem.W.isFn K (.ref fYard_carry_in) = true)
    (aYard_carry_away : PySem.W.findIn K (.ref CYard) "carry_away" = some (some (.ref fYard_carry_away)))
    (lYard_carry_away : K.lookup fYard_carry_away = some ⟨ocYard_carry_away, odYard_carry_away, .func (PySem.W.fnOf "carry_away" "Yard.carry_away" (defArgs s_Yard_carry_away) (defBody s_Yard_carry_away) (defScope s_Yard_carry_away) .none kVYard_carry_away dcYard_carry_away pmYard_carry_away anYard_carry_away cdYard_carry_away ctYard_carry_away), slYard_carry_away⟩)
    (cYard_carry_away : PySem.W.codeIn K cdYard_carry_away "Yard.carry_away" = true)
    (kYard_carry_away : PySem.W.keepIn K (.ref fYard_carry_away) = true)
    (mfYard_carry_away : PySem.W.isFn K (.ref fYard_carry_away) = true)
    (aYard_standing_on : PySem.W.findIn K (.ref CYard) "standing_on" = some (some (.ref fYard_standing_on)))
    (lYard_standing_on : K.lookup fYard_standing_on = some ⟨ocYard_standing_on, odYard_standing_on, .func (PySem.W.fnOf "standing_on" "Yard.standing_on" (defArgs s_Yard_standing_on) (defBody s_Yard_standing_on) (defScope s_Yard_standing_on) .none kVYard_standing_on dcYard_standing_on pmYard_standing_on anYard_standing_on cdYard_standing_on ctYard_standing_on), slYard_standing_on⟩)
    (cYard_standing_on : PySem.W.codeIn K cdYard_standing_on "Yard.standing_on" = true)
    (kYard_standing_on : PySem.W.keepIn K (.ref fYard_standing_on) = true)
    (mfYard_standing_on : PySem.W.isFn K (.ref fYard_standing_on) = true)
    (xcmStuck : (PySem.W.clsIn K CStuck).any (fun cd => Xc.overVE cd.mro) = true)
    (xchStuck : PySem.W.hasDictIn K CStuck = true)
    (xcgStuck : PySem.W.findIn K (.ref CStuck) "__getattribute__" = some (some (.builtin "BaseException.__getattribute__")))
    (xcyStuck : PySem.W.findIn K (.ref CStuck) "__getattr__" = some none)
    (xcsStuck : PySem.W.findIn K (.ref CStuck) "__setattr__" = some (some (.builtin "object.__setattr__")))
    (xcaStuck : PySem.W.findIn K (.ref CStuck) "__class__" = some (some (.builtin "object.__class__")))
    (xcdStuck : PySem.W.specialIn K (.builtin "object.__class__") "__get__" = some (some (.builtin "getset_descriptor.__get__")))
    (xctStuck : PySem.W.takesIn K (.builtin "object.__class__") = some true)
    (xtyStuck : PySem.W.typeIn K (.ref CStuck) = some (.type "type"))
    (xcmYardError : (PySem.W.clsIn K CYardError).any (fun cd => Xc.overVE cd.mro) = true)
    (xchYardError : PySem.W.hasDictIn K CYardError = true)
    (xcgYardError : PySem.W.findIn K (.ref CYardError) "__getattribute__" = some (some (.builtin "BaseException.__getattribute__")))
    (xcyYardError : PySem.W.findIn K (.ref CYardError) "__getattr__" = some none)
    (xcsYardError : PySem.W.findIn K (.ref CYardError) "__setattr__" = some (some (.builtin "object.__setattr__")))
    (xcaYardError : PySem.W.findIn K (.ref CYardError) "__class__" = some (some (.builtin "object.__class__")))
    (xcdYardError : PySem.W.specialIn K (.builtin "object.__class__") "__get__" = some (some (.builtin "getset_descriptor.__get__")))
    (xctYardError : PySem.W.takesIn K (.builtin "object.__class__") = some true)
    (xtyYardError : PySem.W.typeIn K (.ref CYardError) = some (.type "type"))
    (xtStuck_at : PySem.W.takerIn K CStuck "at" = some none)
    (xfStuck_at : PySem.W.findIn K (.ref CStuck) "at" = some none)
    (kitStuck_YardError : PySem.W.kitOne K (.ref CStuck) (.ref CYardError) = some true)
    (kitStuck_BadTrain : PySem.W.kitOne K (.ref CStuck) (.ref CBadTrain) = some false)
    (kitStuck_BadYard : PySem.W.kitOne K (.ref CStuck) (.ref CBadYard) = some false)
    (kitStuck_BadMoves : PySem.W.kitOne K (.ref CStuck) (.ref CBadMoves) = some false)
    (kitStuck_BadText : PySem.W.kitOne K (.ref CStuck) (.ref CBadText) = some false)
    (mroStuck_YardError : PySem.W.mroIn K CStuck (.ref CYardError) = some true)
    (yb1YardError : PySem.W.specialIn K (.ref CYardError) "__getattribute__" = some (some (.builtin "type.__getattribute__")))
    (yb2YardError : PySem.W.readsIn K CYardError (.type "type") = true)
    (yb3YardError : PySem.W.findCls K (.ref CYardError) (.type "type") "__init__" = some (.val (.builtin "ValueError.__init__")))
    (gMOST_TRACKS : PySem.W.nsIn K mainGlobals "MOST_TRACKS" = some (some (.int 100000 tMOST_TRACKS)))
    (gWORDS : PySem.W.nsIn K mainGlobals "WORDS" = some (some (.ref GWORDS)))
    (glWORDS : K.lookup GWORDS = some ⟨.type "tuple", odWORDS, .seq #[.str "in" tWORDS0, .str "out" tWORDS1] nWORDS, slWORDS⟩)
    : ∃ fd : FuncData, (∀ (s : Shared) (v : Value), BindsTo s fd ⟨[v], []⟩ [("_law_script", v)]) ∧ ∀ base : Heap, K.In base → base.Ns mainGlobals mg → FnOk l.prog w K mg base CX0 8 fa fd ["_law_script"] (sp_law K) := by
  have e := hfa.symm.trans (PySem.W.mg_of X G a15)
  cases e
  have F0 := fun_mk (st := s_is_number) l0 c0 k0
  have b0 := F0.binds (ps := ["value"]) fun _ _ _ _ _ _ us hl => match us, hl with | [_], _ => rfl
  have F1 := fun_mk (st := s_checked_train) l1 c1 k1
  have b1 := F1.binds (ps := ["train"]) fun _ _ _ _ _ _ us hl => match us, hl with | [_], _ => rfl
  have F2 := fun_mk (st := s_has_two_alike) l2 c2 k2
  have b2 := F2.binds (ps := ["wagons"]) fun _ _ _ _ _ _ us hl => match us, hl with | [_], _ => rfl
  have F3 := fun_mk (st := s_checked_blind) l3 c3 k3
  have b3 := F3.binds (ps := ["blind"]) fun _ _ _ _ _ _ us hl => match us, hl with | [_], _ => rfl
  have F4 := fun_mk (st := s_checked_count) l4 c4 k4
  have b4 := F4.binds (ps := ["many"]) fun _ _ _ _ _ _ us hl => match us, hl with | [_], _ => rfl
  have F5 := fun_mk (st := s_checked_many) l5 c5 k5
  have b5 := F5.binds (ps := ["many"]) fun _ _ _ _ _ _ us hl => match us, hl with | [_], _ => rfl
  have F6 := fun_mk (st := s_checked_moves) l6 c6 k6
  have b6 := F6.binds (ps := ["moves", "many"]) fun _ _ _ _ _ _ us hl => match us, hl with | [_, _], _ => rfl
  have F7 := fun_mk (st := s_checked_move) l7 c7 k7
  have b7 := F7.binds (ps := ["move", "many"]) fun _ _ _ _ _ _ us hl => match us, hl with | [_, _], _ => rfl
  have F8 := fun_mk (st := s_checked_word) l8 c8 k8
  have b8 := F8.binds (ps := ["word"]) fun _ _ _ _ _ _ us hl => match us, hl with | [_], _ => rfl
  have F9 := fun_mk (st := s_checked_track) l9 c9 k9
  have b9 := F9.binds (ps := ["track", "many"]) fun _ _ _ _ _ _ us hl => match us, hl with | [_, _], _ => rfl
  have F10 := fun_mk (st := s_run) l10 c10 k10
  have b10 := F10.binds (ps := ["train", "blind", "many", "moves"]) fun _ _ _ _ _ _ us hl => match us, hl with | [_, _, _, _], _ => rfl
  have F11 := fun_mk (st := s__law_inserted) l11 c11 k11
  have b11 := F11.binds (ps := ["_law_script"]) fun _ _ _ _ _ _ us hl => match us, hl with | [_], _ => rfl
  have F12 := fun_mk (st := s__law_yard) l12 c12 k12
  have b12 := F12.binds (ps := ["_law_train", "_law_blind", "_law_many", "_law_moves"]) fun _ _ _ _ _ _ us hl => match us, hl with | [_, _, _, _], _ => rfl
  have F13 := fun_mk (st := s__law_kept) l13 c13 k13
  have b13 := F13.binds (ps := ["_law_train", "_law_blind", "_law_many", "_law_moves"]) fun _ _ _ _ _ _ us hl => match us, hl with | [_, _, _, _], _ => rfl
  have F14 := fun_mk (st := s__law_stuck) l14 c14 k14
  have b14 := F14.binds (ps := ["_law_train", "_law_blind", "_law_many", "_law_moves"]) fun _ _ _ _ _ _ us hl => match us, hl with | [_, _, _, _], _ => rfl
  have F15 := fun_mk (st := s_law) l15 c15 k15
  have b15 := F15.binds (ps := ["_law_script"]) fun _ _ _ _ _ _ us hl => match us, hl with | [_], _ => rfl
  have FStuck_init := fun_mk (st := s_Stuck_init) lStuck_init cStuck_init kStuck_init
  have bStuck_init := FStuck_init.binds (ps := ["self", "at"]) fun _ _ _ _ _ _ us hl => match us, hl with | [_, _], _ => rfl
  have FTrack_init := fun_mk (st := s_Track_init) lTrack_init cTrack_init kTrack_init
  have bTrack_init := FTrack_init.binds (ps := ["self", "blind"]) fun _ _ _ _ _ _ us hl => match us, hl with | [_, _], _ => rfl
  have FTrack_is_empty := fun_mk (st := s_Track_is_empty) lTrack_is_empty cTrack_is_empty kTrack_is_empty
  have bTrack_is_empty := FTrack_is_empty.binds (ps := ["self"]) fun _ _ _ _ _ _ us hl => match us, hl with | [_], _ => rfl
  have FTrack_let_in := fun_mk (st := s_Track_let_in) lTrack_let_in cTrack_let_in kTrack_let_in
  have bTrack_let_in := FTrack_let_in.binds (ps := ["self", "wagon"]) fun _ _ _ _ _ _ us hl => match us, hl with | [_, _], _ => rfl
  have FTrack_let_out := fun_mk (st := s_Track_let_out) lTrack_let_out cTrack_let_out kTrack_let_out
  have bTrack_let_out := FTrack_let_out.binds (ps := ["self"]) fun _ _ _ _ _ _ us hl => match us, hl with | [_], _ => rfl
  have FTrack_standing := fun_mk (st := s_Track_standing) lTrack_standing cTrack_standing kTrack_standing
  have bTrack_standing := FTrack_standing.binds (ps := ["self"]) fun _ _ _ _ _ _ us hl => match us, hl with | [_], _ => rfl
  have FYard_init := fun_mk (st := s_Yard_init) lYard_init cYard_init kYard_init
  have bYard_init := FYard_init.binds (ps := ["self", "wagons", "blind"]) fun _ _ _ _ _ _ us hl => match us, hl with | [_, _, _], _ => rfl
  have FYard_carry_out := fun_mk (st := s_Yard_carry_out) lYard_carry_out cYard_carry_out kYard_carry_out
  have bYard_carry_out := FYard_carry_out.binds (ps := ["self", "steps"]) fun _ _ _ _ _ _ us hl => match us, hl with | [_, _], _ => rfl
  have FYard_carry_in := fun_mk (st := s_Yard_carry_in) lYard_carry_in cYard_carry_in kYard_carry_in
  have bYard_carry_in := FYard_carry_in.binds (ps := ["self", "at", "place"]) fun _ _ _ _ _ _ us hl => match us, hl with | [_, _, _], _ => rfl
  have FYard_carry_away := fun_mk (st := s_Yard_carry_away) lYard_carry_away cYard_carry_away kYard_carry_away
  have bYard_carry_away := FYard_carry_away.binds (ps := ["self", "at", "place"]) fun _ _ _ _ _ _ us hl => match us, hl with | [_, _, _], _ => rfl
  have FYard_standing_on := fun_mk (st := s_Yard_standing_on) lYard_standing_on cYard_standing_on kYard_standing_on
  have bYard_standing_on := FYard_standing_on.binds (ps := ["self", "place"]) fun _ _ _ _ _ _ us hl => match us, hl with | [_, _], _ => rfl
  have T : Tx K mg ⟨CYardError, CBadTrain, CBadYard, CBadMoves, CStuck, CBadText, CTrack, CYard, GWORDS⟩ := ⟨PySem.W.mg_none_of X G n_all,
    PySem.W.mg_none_of X G n_any,
    PySem.W.mg_none_of X G n_bool,
    PySem.W.mg_none_of X G n_enumerate,
    PySem.W.mg_none_of X G n_int,
    PySem.W.mg_none_of X G n_isinstance,
    PySem.W.mg_none_of X G n_len,
    PySem.W.mg_none_of X G n_list,
    PySem.W.mg_none_of X G n_range,
    PySem.W.mg_none_of X G n_sorted,
    PySem.W.mg_none_of X G n_str,
    PySem.W.mg_none_of X G n_sum,
    PySem.W.mg_none_of X G n_tuple,
    PySem.W.mg_none_of X G n_zip,
    ⟨⟨_, _, F0, PySem.W.mg_of X G a0, b0⟩⟩,
    ⟨⟨_, _, F1, PySem.W.mg_of X G a1, b1⟩⟩,
    ⟨⟨_, _, F2, PySem.W.mg_of X G a2, b2⟩⟩,
    ⟨⟨_, _, F3, PySem.W.mg_of X G a3, b3⟩⟩,
    ⟨⟨_, _, F4, PySem.W.mg_of X G a4, b4⟩⟩,
    ⟨⟨_, _, F5, PySem.W.mg_of X G a5, b5⟩⟩,
    ⟨⟨_, _, F6, PySem.W.mg_of X G a6, b6⟩⟩,
    ⟨⟨_, _, F7, PySem.W.mg_of X G a7, b7⟩⟩,
    ⟨⟨_, _, F8, PySem.W.mg_of X G a8, b8⟩⟩,
    ⟨⟨_, _, F9, PySem.W.mg_of X G a9, b9⟩⟩,
    ⟨⟨_, _, F10, PySem.W.mg_of X G a10, b10⟩⟩,
    ⟨⟨_, _, F11, PySem.W.mg_of X G a11, b11⟩⟩,
    ⟨⟨_, _, F12, PySem.W.mg_of X G a12, b12⟩⟩,
    ⟨⟨_, _, F13, PySem.W.mg_of X G a13, b13⟩⟩,
    ⟨⟨_, _, F14, PySem.W.mg_of X G a14, b14⟩⟩,
    ⟨⟨_, _, F15, PySem.W.mg_of X G a15, b15⟩⟩,
    PySem.W.mg_of X G aCYardError,
    PySem.W.mg_of X G aCBadTrain,
    PySem.W.mg_of X G aCBadYard,
    PySem.W.mg_of X G aCBadMoves,
    PySem.W.mg_of X G aCStuck,
    PySem.W.mg_of X G aCBadText,
    PySem.W.mg_of X G aCTrack,
    ⟨pgTrack, hdTrack, poTrack, saTrack⟩,
    ⟨yaTrack, ynTrack, ytTrack, ymTrack⟩,
    naTrack_blind,
    naTrack_came,
    naTrack_gone_ahead,
    PySem.W.mg_of X G aCYard,
    ⟨pgYard, hdYard, poYard, saYard⟩,
    ⟨yaYard, ynYard, ytYard, ymYard⟩,
    naYard_blind,
    naYard_come,
    naYard_left,
    naYard_tracks,
    naYard_wagons,
    ⟨⟨_, _, FStuck_init, ⟨xiStuck_init, xnStuck_init, xfStuck_init, xkStuck_init⟩, bStuck_init⟩⟩,
    ⟨⟨_, _, FTrack_init, ⟨mkTrack_init, aTrack_init, ifTrack_init, ikTrack_init⟩, bTrack_init⟩⟩,
    ⟨⟨_, _, FTrack_is_empty, ⟨aTrack_is_empty, mfTrack_is_empty, kTrack_is_empty⟩, bTrack_is_empty⟩⟩,
    ⟨⟨_, _, FTrack_let_in, ⟨aTrack_let_in, mfTrack_let_in, kTrack_let_in⟩, bTrack_let_in⟩⟩,
    ⟨⟨_, _, FTrack_let_out, ⟨aTrack_let_out, mfTrack_let_out, kTrack_let_out⟩, bTrack_let_out⟩⟩,
    ⟨⟨_, _, FTrack_standing, ⟨aTrack_standing, mfTrack_standing, kTrack_standing⟩, bTrack_standing⟩⟩,
    ⟨⟨_, _, FYard_init, ⟨mkYard_init, aYard_init, ifYard_init, ikYard_init⟩, bYard_init⟩⟩,
    ⟨⟨_, _, FYard_carry_out, ⟨aYard_carry_out, mfYard_carry_out, kYard_carry_out⟩, bYard_carry_out⟩⟩,
    ⟨⟨_, _, FYard_carry_in, ⟨aYard_carry_in, mfYard_carry_in, kYard_carry_in⟩, bYard_carry_in⟩⟩,
    ⟨⟨_, _, FYard_carry_away, ⟨aYard_carry_away, mfYard_carry_away, kYard_carry_away⟩, bYard_carry_away⟩⟩,
    ⟨⟨_, _, FYard_standing_on, ⟨aYard_standing_on, mfYard_standing_on, kYard_standing_on⟩, bYard_standing_on⟩⟩,
    ⟨xcmStuck, xchStuck, xcgStuck, xcyStuck, xcsStuck, xcaStuck, xcdStuck, xctStuck⟩,
    xtyStuck,
    ⟨xcmYardError, xchYardError, xcgYardError, xcyYardError, xcsYardError, xcaYardError, xcdYardError, xctYardError⟩,
    xtyYardError,
    xtStuck_at,
    xfStuck_at,
    kitStuck_YardError,
    kitStuck_BadTrain,
    kitStuck_BadYard,
    kitStuck_BadMoves,
    kitStuck_BadText,
    mroStuck_YardError,
    ⟨yb1YardError, yb2YardError, yb3YardError⟩,
    ⟨_, PySem.W.mg_of X G gMOST_TRACKS⟩,
    ⟨PySem.W.mg_of X G gWORDS, fun H => .inr ⟨_, _, _, glWORDS, rfl, rfl, (by show 2 ≤ sizeLine; decide), .cons ⟨_, rfl⟩ (.cons ⟨_, rfl⟩ (.nil))⟩⟩⟩
  exact ⟨_, fun s v => .of_eq rfl, fun base _ _ => ok_law T F15⟩
theorem walk {l : PySem.W.OpenLaw} {q : Program} {loose : List Str} {XP : (Str → Option Value) → Heap → Prop} {YP : World → Heap → Prop} {d : DefRec} {K : Params → PySem.W.Frag} (hn : l.most = some 63) (hdf : d.params.defaults = [])
    (hY : ∀ (w : World) (h : Heap), YP w h → (K w.params).In h)
    (F : ∀ (w : World) (mg : Str → Option Value) (fa : Addr) (h : Heap), (K w.params).In h → h.Ns mainGlobals mg → mg d.name = some (.ref fa) →
      ∃ fd : FuncData, (∀ (s : Shared) (u : Value), BindsTo s fd ⟨[u], []⟩ [("_law_script", u)]) ∧ ∀ base : Heap, (K w.params).In base → base.Ns mainGlobals mg → FnOk l.prog w (K w.params) mg base CX0 8 fa fd ["_law_script"] (sp_law (K w.params))) :
    PySem.W.WalkO q loose XP YP l.row.toRowW d [] (fun f vs => PySem.call f vs) :=
  L2.walk_ofT (n := 63) (k := 8) (x := "_law_script") (CX := fun _ => CX0) (sp := fun w => sp_law (K w.params)) [] hn (by decide) hdf ⟨rfl, by decide, by decide⟩ hY (fun e he => absurd he (by simp)) (fun w e he => absurd he (by simp)) F (fun _ _ a ns hl _ hS => ⟨a, ns, rfl, hS, hl, fun _ => rfl⟩) fun _ _ _ _ _ z => z
end My
open PySem PySem.W PyProof.Rows
set_option maxRecDepth 100000 in
set_option maxHeartbeats 0 in
theorem PySem.Challenge.cw_sidings_k01_run_holds : PySem.Challenge.rw_sidings_k01_run.Holds := by
  w_on; o_law; k_head; (case hw => w_witness2)
  k_fill
  refine My.walk (l := PySem.Challenge.rw_sidings_k01_run) rfl rfl (fun w h Y => PySem.W.kIn_of Y) ?F
  case F =>
    intro w mg fa h KX G hmg
    refine' My.all_mk KX G hmg ?n_all ?n_any ?n_bool ?n_enumerate ?n_int ?n_isinstance ?n_len ?n_list ?n_range ?n_sorted ?n_str ?n_sum ?n_tuple ?n_zip ?a0 ?l0 ?c0 ?k0 ?a1 ?l1 ?c1 ?k1 ?a2 ?l2 ?c2 ?k2 ?a3 ?l3 ?c3 ?k3 ?a4 ?l4 ?c4 ?k4 ?a5 ?l5 ?c5 ?k5 ?a6 ?l6 ?c6 ?k6 ?a7 ?l7 ?c7 ?k7 ?a8 ?l8 ?c8 ?k8 ?a9 ?l9 ?c9 ?k9 ?a10 ?l10 ?c10 ?k10 ?a11 ?l11 ?c11 ?k11 ?a12 ?l12 ?c12 ?k12 ?a13 ?l13 ?c13 ?k13 ?a14 ?l14 ?c14 ?k14 ?a15 ?l15 ?c15 ?k15 ?aCYardError ?aCBadTrain ?aCBadYard ?aCBadMoves ?aCStuck ?aCBadText ?aCTrack ?pgTrack ?hdTrack ?poTrack ?saTrack ?yaTrack ?ynTrack ?ytTrack ?ymTrack ?naTrack_blind ?naTrack_came ?naTrack_gone_ahead ?aCYard ?pgYard ?hdYard ?poYard ?saYard ?yaYard ?ynYard ?ytYard ?ymYard ?naYard_blind ?naYard_come ?naYard_left ?naYard_tracks ?naYard_wagons ?aStuck_init ?lStuck_init ?cStuck_init ?kStuck_init ?xiStuck_init ?xnStuck_init ?xfStuck_init ?xkStuck_init ?aTrack_init ?lTrack_init ?cTrack_init ?kTrack_init ?mkTrack_init ?ifTrack_init ?ikTrack_init ?aTrack_is_empty ?lTrack_is_empty ?cTrack_is_empty ?kTrack_is_empty ?mfTrack_is_empty ?aTrack_let_in ?lTrack_let_in ?cTrack_let_in ?kTrack_let_in ?mfTrack_let_in ?aTrack_let_out ?lTrack_let_out ?cTrack_let_out ?kTrack_let_out ?mfTrack_let_out ?aTrack_standing ?lTrack_standing ?cTrack_standing ?kTrack_standing ?mfTrack_standing ?aYard_init ?lYard_init ?cYard_init ?kYard_init ?mkYard_init ?ifYard_init ?ikYard_init ?aYard_carry_out ?lYard_carry_out ?cYard_carry_out ?kYard_carry_out ?mfYard_carry_out ?aYard_carry_in ?lYard_carry_in ?cYard_carry_in ?kYard_carry_in ?mfYard_carry_in ?aYard_carry_away ?lYard_carry_away ?cYard_carry_away ?kYard_carry_away ?mfYard_carry_away ?aYard_standing_on ?lYard_standing_on ?cYard_standing_on ?kYard_standing_on ?mfYard_standing_on ?xcmStuck ?xchStuck ?xcgStuck ?xcyStuck ?xcsStuck ?xcaStuck ?xcdStuck ?xctStuck ?xtyStuck ?xcmYardError ?xchYardError ?xcgYardError ?xcyYardError ?xcsYardError ?xcaYardError ?xcdYardError ?xctYardError ?xtyYardError ?xtStuck_at ?xfStuck_at ?kitStuck_YardError ?kitStuck_BadTrain ?kitStuck_BadYard ?kitStuck_BadMoves ?kitStuck_BadText ?mroStuck_YardError ?yb1YardError ?yb2YardError ?yb3YardError ?gMOST_TRACKS ?gWORDS ?glWORDS
    (case n_all => first | k_is | kernel_rfl!)
    (case n_any => first | k_is | kernel_rfl!)
    (case n_bool => first | k_is | kernel_rfl!)
    (case n_enumerate => first | k_is | kernel_rfl!)
    (case n_int => first | k_is | kernel_rfl!)
    (case n_isinstance => first | k_is | kernel_rfl!)
    (case n_len => first | k_is | kernel_rfl!)
    (case n_list => first | k_is | kernel_rfl!)
    (case n_range => first | k_is | kernel_rfl!)
    (case n_sorted => first | k_is | kernel_rfl!)
    (case n_str => first | k_is | kernel_rfl!)
    (case n_sum => first | k_is | kernel_rfl!)
    (case n_tuple => first | k_is | kernel_rfl!)
    (case n_zip => first | k_is | kernel_rfl!)
    (case a0 => first | k_is | kernel_rfl!)
    (case l0 => first | k_is | kernel_rfl!)
    (case c0 => first | k_is | kernel_rfl!)
    (case k0 => first | k_is | kernel_rfl!)
    (case a1 => first | k_is | kernel_rfl!)
    (case l1 => first | k_is | kernel_rfl!)
    (case c1 => first | k_is | kernel_rfl!)
    (case k1 => first | k_is | kernel_rfl!)
    (case a2 => first | k_is | kernel_rfl!)
    (case l2 => first | k_is | kernel_rfl!)
    (case c2 => first | k_is | kernel_rfl!)
    (case k2 => first | k_is | kernel_rfl!)
    (case a3 => first | k_is | kernel_rfl!)
    (case l3 => first | k_is | kernel_rfl!)
    (case c3 => first | k_is | kernel_rfl!)
    (case k3 => first | k_is | kernel_rfl!)
    (case a4 => first | k_is | kernel_rfl!)
    (case l4 => first | k_is | kernel_rfl!)
    (case c4 => first | k_is | kernel_rfl!)
    (case k4 => first | k_is | kernel_rfl!)
    (case a5 => first | k_is | kernel_rfl!)
    (case l5 => first | k_is | kernel_rfl!)
    (case c5 => first | k_is | kernel_rfl!)
    (case k5 => first | k_is | kernel_rfl!)
    (case a6 => first | k_is | kernel_rfl!)
    (case l6 => first | k_is | kernel_rfl!)
    (case c6 => first | k_is | kernel_rfl!)
    (case k6 => first | k_is | kernel_rfl!)
    (case a7 => first | k_is | kernel_rfl!)
    (case l7 => first | k_is | kernel_rfl!)
    (case c7 => first | k_is | kernel_rfl!)
    (case k7 => first | k_is | kernel_rfl!)
    (case a8 => first | k_is | kernel_rfl!)
    (case l8 => first | k_is | kernel_rfl!)
    (case c8 => first | k_is | kernel_rfl!)
    (case k8 => first | k_is | kernel_rfl!)
    (case a9 => first | k_is | kernel_rfl!)
    (case l9 => first | k_is | kernel_rfl!)
    (case c9 => first | k_is | kernel_rfl!)
    (case k9 => first | k_is | kernel_rfl!)
    (case a10 => first | k_is | kernel_rfl!)
    (case l10 => first | k_is | kernel_rfl!)
    (case c10 => first | k_is | kernel_rfl!)
    (case k10 => first | k_is | kernel_rfl!)
    (case a11 => first | k_is | kernel_rfl!)
    (case l11 => first | k_is | kernel_rfl!)
    (case c11 => first | k_is | kernel_rfl!)
    (case k11 => first | k_is | kernel_rfl!)
    (case a12 => first | k_is | kernel_rfl!)
    (case l12 => first | k_is | kernel_rfl!)
    (case c12 => first | k_is | kernel_rfl!)
    (case k12 => first | k_is | kernel_rfl!)
    (case a13 => first | k_is | kernel_rfl!)
    (case l13 => first | k_is | kernel_rfl!)
    (case c13 => first | k_is | kernel_rfl!)
    (case k13 => first | k_is | kernel_rfl!)
    (case a14 => first | k_is | kernel_rfl!)
    (case l14 => first | k_is | kernel_rfl!)
    (case c14 => first | k_is | kernel_rfl!)
    (case k14 => first | k_is | kernel_rfl!)
    (case a15 => first | k_is | kernel_rfl!)
    (case l15 => first | k_is | kernel_rfl!)
    (case c15 => first | k_is | kernel_rfl!)
    (case k15 => first | k_is | kernel_rfl!)
    (case aCYardError => first | k_is | kernel_rfl!)
    (case aCBadTrain => first | k_is | kernel_rfl!)
    (case aCBadYard => first | k_is | kernel_rfl!)
    (case aCBadMoves => first | k_is | kernel_rfl!)
    (case aCStuck => first | k_is | kernel_rfl!)
    (case aCBadText => first | k_is | kernel_rfl!)
    (case aCTrack => first | k_is | kernel_rfl!)
    (case pgTrack => first | k_is | kernel_rfl!)
    (case hdTrack => first | k_is | kernel_rfl!)
    (case poTrack => first | k_is | kernel_rfl!)
    (case saTrack => first | k_is | kernel_rfl!)
    (case yaTrack => first | k_is | kernel_rfl!)
    (case ynTrack => first | k_is | kernel_rfl!)
    (case ytTrack => first | k_is | kernel_rfl!)
    (case ymTrack => first | k_is | kernel_rfl!)
    (case naTrack_blind => first | k_is | kernel_rfl!)
    (case naTrack_came => first | k_is | kernel_rfl!)
    (case naTrack_gone_ahead => first | k_is | kernel_rfl!)
    (case aCYard => first | k_is | kernel_rfl!)
    (case pgYard => first | k_is | kernel_rfl!)
    (case hdYard => first | k_is | kernel_rfl!)
    (case poYard => first | k_is | kernel_rfl!)
    (case saYard => first | k_is | kernel_rfl!)
    (case yaYard => first | k_is | kernel_rfl!)
    (case ynYard => first | k_is | kernel_rfl!)
    (case ytYard => first | k_is | kernel_rfl!)
    (case ymYard => first | k_is | kernel_rfl!)
    (case naYard_blind => first | k_is | kernel_rfl!)
    (case naYard_come => first | k_is | kernel_rfl!)
    (case naYard_left => first | k_is | kernel_rfl!)
    (case naYard_tracks => first | k_is | kernel_rfl!)
    (case naYard_wagons => first | k_is | kernel_rfl!)
    (case aStuck_init => first | k_is | kernel_rfl!)
    (case lStuck_init => first | k_is | kernel_rfl!)
    (case cStuck_init => first | k_is | kernel_rfl!)
    (case kStuck_init => first | k_is | kernel_rfl!)
    (case xiStuck_init => first | k_is | kernel_rfl!)
    (case xnStuck_init => first | k_is | kernel_rfl!)
    (case xfStuck_init => first | k_is | kernel_rfl!)
    (case xkStuck_init => first | k_is | kernel_rfl!)
    (case aTrack_init => first | k_is | kernel_rfl!)
    (case lTrack_init => first | k_is | kernel_rfl!)
    (case cTrack_init => first | k_is | kernel_rfl!)
    (case kTrack_init => first | k_is | kernel_rfl!)
    (case mkTrack_init => first | k_is | kernel_rfl!)
    (case ifTrack_init => first | k_is | kernel_rfl!)
    (case ikTrack_init => first | k_is | kernel_rfl!)
    (case aTrack_is_empty => first | k_is | kernel_rfl!)
    (case lTrack_is_empty => first | k_is | kernel_rfl!)
    (case cTrack_is_empty => first | k_is | kernel_rfl!)
    (case kTrack_is_empty => first | k_is | kernel_rfl!)
    (case mfTrack_is_empty => first | k_is | kernel_rfl!)
    (case aTrack_let_in => first | k_is | kernel_rfl!)
    (case lTrack_let_in => first | k_is | kernel_rfl!)
    (case cTrack_let_in => first | k_is | kernel_rfl!)
    (case kTrack_let_in => first | k_is | kernel_rfl!)
    (case mfTrack_let_in => first | k_is | kernel_rfl!)
    (case aTrack_let_out => first | k_is | kernel_rfl!)
    (case lTrack_let_out => first | k_is | kernel_rfl!)
    (case cTrack_let_out => first | k_is | kernel_rfl!)
    (case kTrack_let_out => first | k_is | kernel_rfl!)
    (case mfTrack_let_out => first | k_is | kernel_rfl!)
    (case aTrack_standing => first | k_is | kernel_rfl!)
    (case lTrack_standing => first | k_is | kernel_rfl!)
    (case cTrack_standing => first | k_is | kernel_rfl!)
    (case kTrack_standing => first | k_is | kernel_rfl!)
    (case mfTrack_standing => first | k_is | kernel_rfl!)
    (case aYard_init => first | k_is | kernel_rfl!)
    (case lYard_init => first | k_is | kernel_rfl!)
    (case cYard_init => first | k_is | kernel_rfl!)
    (case kYard_init => first | k_is | kernel_rfl!)
    (case mkYard_init => first | k_is | kernel_rfl!)
    (case ifYard_init => first | k_is | kernel_rfl!)
    (case ikYard_init => first | k_is | kernel_rfl!)
    (case aYard_carry_out => first | k_is | kernel_rfl!)
    (case lYard_carry_out => first | k_is | kernel_rfl!)
    (case cYard_carry_out => first | k_is | kernel_rfl!)
    (case kYard_carry_out => first | k_is | kernel_rfl!)
    (case mfYard_carry_out => first | k_is | kernel_rfl!)
    (case aYard_carry_in => first | k_is | kernel_rfl!)
    (case lYard_carry_in => first | k_is | kernel_rfl!)
    (case cYard_carry_in => first | k_is | kernel_rfl!)
    (case kYard_carry_in => first | k_is | kernel_rfl!)
    (case mfYard_carry_in => first | k_is | kernel_rfl!)
    (case aYard_carry_away => first | k_is | kernel_rfl!)
    (case lYard_carry_away => first | k_is | kernel_rfl!)
    (case cYard_carry_away => first | k_is | kernel_rfl!)
    (case kYard_carry_away => first | k_is | kernel_rfl!)
    (case mfYard_carry_away => first | k_is | kernel_rfl!)
    (case aYard_standing_on => first | k_is | kernel_rfl!)
    (case lYard_standing_on => first | k_is | kernel_rfl!)
    (case cYard_standing_on => first | k_is | kernel_rfl!)
    (case kYard_standing_on => first | k_is | kernel_rfl!)
    (case mfYard_standing_on => first | k_is | kernel_rfl!)
    (case xcmStuck => first | k_is | kernel_rfl!)
    (case xchStuck => first | k_is | kernel_rfl!)
    (case xcgStuck => first | k_is | kernel_rfl!)
    (case xcyStuck => first | k_is | kernel_rfl!)
    (case xcsStuck => first | k_is | kernel_rfl!)
    (case xcaStuck => first | k_is | kernel_rfl!)
    (case xcdStuck => first | k_is | kernel_rfl!)
    (case xctStuck => first | k_is | kernel_rfl!)
    (case xtyStuck => first | k_is | kernel_rfl!)
    (case xcmYardError => first | k_is | kernel_rfl!)
    (case xchYardError => first | k_is | kernel_rfl!)
    (case xcgYardError => first | k_is | kernel_rfl!)
    (case xcyYardError => first | k_is | kernel_rfl!)
    (case xcsYardError => first | k_is | kernel_rfl!)
    (case xcaYardError => first | k_is | kernel_rfl!)
    (case xcdYardError => first | k_is | kernel_rfl!)
    (case xctYardError => first | k_is | kernel_rfl!)
    (case xtyYardError => first | k_is | kernel_rfl!)
    (case xtStuck_at => first | k_is | kernel_rfl!)
    (case xfStuck_at => first | k_is | kernel_rfl!)
    (case kitStuck_YardError => first | k_is | kernel_rfl!)
    (case kitStuck_BadTrain => first | k_is | kernel_rfl!)
    (case kitStuck_BadYard => first | k_is | kernel_rfl!)
    (case kitStuck_BadMoves => first | k_is | kernel_rfl!)
    (case kitStuck_BadText => first | k_is | kernel_rfl!)
    (case mroStuck_YardError => first | k_is | kernel_rfl!)
    (case yb1YardError => first | k_is | kernel_rfl!)
    (case yb2YardError => first | k_is | kernel_rfl!)
    (case yb3YardError => first | k_is | kernel_rfl!)
    (case gMOST_TRACKS => first | k_is | kernel_rfl!)
    (case gWORDS => first | k_is | kernel_rfl!)
    (case glWORDS => first | k_is | kernel_rfl!)
#print axioms PySem.Challenge.cw_sidings_k01_run_holds
