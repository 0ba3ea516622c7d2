import PyProof.Rows.All
import Wide.All
import OpenK.AllK
import Wide.FinOn
import Lean
import PyProof.EqAt
import PyProof.EqKinds
import PyProof.TupleCall
import PyProof.StationsW
import PyProof.ExcInit
import PyProof.ExcClass2
import PyProof.NsDelKeeps
import PyProof.RulesAs
import PyProof.ListRange
import PyProof.Rows.SortShell
import KE.KSortKey
import KE.KLam
import KE.KNestM
import KE.KRevIter
import PyProof.Rows.Range3
import PyProof.Rows.CallKwBuiltin
import PyProof.WalkInts
import PyProof.Rows.SetFrom
import KE.KIntText
import PyProof.StrLawsIn
import PyProof.StrLawsTight
import PyProof.StrLawsChain
import PyProof.Rows.CatFin
import PyProof.Rows.StrClose5
import PyProof.Rows.StrItems
import KE.IntTextLaws
import PySem.Challenge.RW_sidings_k09_texts
set_option Elab.async false
set_option linter.all false
set_option maxRecDepth 100000
set_option maxHeartbeats 4000000
/-! A head in one piece: the top's run by the tree of its heap, looked at once behind it. -/
namespace L2
open PySem PySem.W
def runBy (st : SharedT → Thread → Option (SharedT × Thread)) (n₀ : Nat) (ann : Option Value) : Nat → SharedT → Thread → Option SharedT
  | 0, _, _ => none
  | n + 1, s, t => match through t with
    | true => some s
    | false => match stepOk n₀ ann t with
      | false => none
      | true => match st s t with
        | some (s', t') => runBy st n₀ ann n s' t'
        | none => none
theorem runBy_top {tb : String → Option Builtin} {p : Program} {w : World} {n₀ : Nat} {ann : Option Value} : ∀ (n : Nat) (s r : SharedT) (t : Thread), runBy (stepT (denote tb) p w) n₀ ann n s t = some r → topRun tb p w n₀ ann n s.abs t = some r.abs
  | 0, _, _, _, h => by cases h
  | n + 1, s, r, t, h => by
    unfold runBy at h
    unfold topRun
    cases ht : through t with
    | true => rw [ht] at h; cases h; rfl
    | false =>
      rw [ht] at h
      cases hk : stepOk n₀ ann t with
      | false => rw [hk] at h; cases h
      | true =>
        rw [hk] at h
        cases hs : stepT (denote tb) p w s t with
        | none => rw [hs] at h; cases h
        | some x =>
          obtain ⟨s', t'⟩ := x
          rw [hs] at h
          rw [stepT_spec hs]
          exact runBy_top n s' r t' h
theorem left_of_T {p q : Program} {loose : List Str} {Xt : Shared → Bool} {α : Type} {Yf : Shared → α} {Ya : World → α} {N : Nat} {g0 : Bool} {H₀ : Params → Heap} {T₀ : Params → BT} {life : Life} {d₀ : Drawn} {k₀ m₀ : Nat} {ann : Option Value}
    (open_ : ∀ w : World, (fencedOpening treeTable p w N).map (fun s => (s.heap, s.gens, s.drawn, s.toks)) = some (H₀ w.params, Array.mk [], d₀, k₀))
    (tree : ∀ P, absHeap (T₀ P) m₀ life = H₀ P)
    (size : ∀ w : World, ((H₀ w.params).isNs mainGlobals && (Array.mk [] : Array GenState).size == 0, (H₀ w.params).objs.size, (H₀ w.params).nsMap mainGlobals "__annotations__") = (true, m₀, ann))
    (obs : ∀ (w : World) (os : OsState), (runBy (stepT (denote treeTable) p w) m₀ ann N ⟨T₀ w.params, m₀, life, Array.mk [], d₀, k₀, os⟩ (topStub p)).map (fun r => ((staticsOk (importedModules p.main.body) (H₀ w.params) r.abs.heap && namesBound p r.abs.heap && gensDone r.abs && laidKept (H₀ w.params) r.abs.heap),
        openSeen q loose (importedModules p.main.body) Xt g0 r.abs, Yf r.abs)) = some (true, openGood q loose, Ya w)) : LeftO p q loose Xt Yf Ya N g0 := fun w => by
  obtain ⟨⟨h, gs, d, k, os⟩, e, e'⟩ := Option.map_eq_some_iff.mp (open_ w)
  obtain ⟨rfl, rfl, rfl, rfl⟩ : h = H₀ w.params ∧ gs = Array.mk [] ∧ d = d₀ ∧ k = k₀ := by simpa using e'
  obtain ⟨z1, z2, z3⟩ : _ ∧ _ ∧ _ := by simpa only [Prod.mk.injEq] using size w
  obtain ⟨r, er, lk⟩ := Option.map_eq_some_iff.mp (obs w os)
  obtain ⟨l1, l2, l3⟩ : _ ∧ _ ∧ _ := by simpa only [Prod.mk.injEq] using lk
  have rr := runBy_top _ _ _ _ er
  unfold SharedT.abs at rr
  dsimp only at rr
  rw [tree] at rr
  have t : topFrom treeTable p w N ⟨H₀ w.params, Array.mk [], d, k, os⟩ = some r.abs := by
    unfold topFrom
    dsimp only
    rw [z1, z2, z3]
    show Option.bind _ _ = _
    rw [rr]
    show (match staticsOk (importedModules p.main.body) (H₀ w.params) r.abs.heap && namesBound p r.abs.heap && gensDone r.abs && laidKept (H₀ w.params) r.abs.heap with | true => _ | false => _) = _
    rw [l1]
    rfl
  unfold openEnds
  rw [e]
  show (topFrom treeTable p w N _).map _ = _
  rw [t]
  exact congrArg some (Prod.ext l2 l3)
/-- the same, looked at in three goes -/
theorem left_of_T3 {p q : Program} {loose : List Str} {Xt : Shared → Bool} {α : Type} {Yf : Shared → α} {Ya : World → α} {N : Nat} {g0 : Bool} {H₀ : Params → Heap} {T₀ : Params → BT} {life : Life} {d₀ : Drawn} {k₀ m₀ : Nat} {ann : Option Value}
    (open_ : ∀ w : World, (fencedOpening treeTable p w N).map (fun s => (s.heap, s.gens, s.drawn, s.toks)) = some (H₀ w.params, Array.mk [], d₀, k₀))
    (tree : ∀ P, absHeap (T₀ P) m₀ life = H₀ P)
    (size : ∀ w : World, ((H₀ w.params).isNs mainGlobals && (Array.mk [] : Array GenState).size == 0, (H₀ w.params).objs.size, (H₀ w.params).nsMap mainGlobals "__annotations__") = (true, m₀, ann))
    (oa : ∀ (w : World) (os : OsState), (runBy (stepT (denote treeTable) p w) m₀ ann N ⟨T₀ w.params, m₀, life, Array.mk [], d₀, k₀, os⟩ (topStub p)).map (fun r => (staticsOk (importedModules p.main.body) (H₀ w.params) r.abs.heap && namesBound p r.abs.heap && gensDone r.abs && laidKept (H₀ w.params) r.abs.heap)) = some true)
    (ob : ∀ (w : World) (os : OsState), (runBy (stepT (denote treeTable) p w) m₀ ann N ⟨T₀ w.params, m₀, life, Array.mk [], d₀, k₀, os⟩ (topStub p)).map (fun r => openSeen q loose (importedModules p.main.body) Xt g0 r.abs) = some (openGood q loose))
    (obs : ∀ (w : World) (os : OsState), (runBy (stepT (denote treeTable) p w) m₀ ann N ⟨T₀ w.params, m₀, life, Array.mk [], d₀, k₀, os⟩ (topStub p)).map (fun r => Yf r.abs) = some (Ya w)) : LeftO p q loose Xt Yf Ya N g0 := by
  refine left_of_T open_ tree size fun w os => ?_
  obtain ⟨r, e, h1⟩ := Option.map_eq_some_iff.mp (oa w os)
  have h2 := ob w os
  have h3 := obs w os
  rw [e] at h2 h3 ⊢
  rw [Option.map_some] at h2 h3 ⊢
  rw [h1, Option.some.inj h2, Option.some.inj h3]
/-- the tree of a short heap -/
def treeOf (l : List Obj) : BT := ((l.zip (List.range l.length)).foldl (fun t x => t.ins x.2 x.1) .nil)
end L2
namespace My
open PySem PySem.W
def pwv : Program := view PySem.Challenge.pw_sidings_k09_texts [1, 2, 3, 4, 5, 6, 8, 9, 10, 11, 13, 14, 15, 16, 17, 18, 20, 21, 22, 23, 24, 25, 26, 27, 28, 29]
open PyProof.Rows
set_option maxRecDepth 100000 in
set_option maxHeartbeats 0 in
theorem seen_a (w : World) (os : OsState) : (L2.runBy (stepT (denote treeTable) PySem.Challenge.pw_sidings_k09_texts w) 11 (some (.ref 6)) 20000 ⟨L2.treeOf (boot_heap w.params).objs.toList, 11, (boot_heap (aWorld 1).params).life, Array.mk [], boot_drawn, boot_toks, os⟩ (topStub PySem.Challenge.pw_sidings_k09_texts)).map (fun r => (staticsOk (importedModules PySem.Challenge.pw_sidings_k09_texts.main.body) (boot_heap w.params) r.abs.heap && namesBound PySem.Challenge.pw_sidings_k09_texts r.abs.heap && gensDone r.abs && laidKept (boot_heap w.params) r.abs.heap)) = some true := by
  rewrite [PySem.W.Fast.te10156331382660048174, PySem.W.Fast.te11892475500146522536, PySem.W.Fast.te14364793385576792824]
  kernel_rfl
set_option maxRecDepth 100000 in
set_option maxHeartbeats 0 in
theorem seen_b (w : World) (os : OsState) : (L2.runBy (stepT (denote treeTable) PySem.Challenge.pw_sidings_k09_texts w) 11 (some (.ref 6)) 20000 ⟨L2.treeOf (boot_heap w.params).objs.toList, 11, (boot_heap (aWorld 1).params).life, Array.mk [], boot_drawn, boot_toks, os⟩ (topStub PySem.Challenge.pw_sidings_k09_texts)).map (fun r => openSeen My.pwv [] (importedModules PySem.Challenge.pw_sidings_k09_texts.main.body) (fun s => xlAt My.pwv [] s && recOk PySem.Challenge.rw_sidings_k09_texts.row.records s) true r.abs) = some (openGood My.pwv []) := by
  rewrite [PySem.W.Fast.te10156331382660048174, PySem.W.Fast.te11892475500146522536, PySem.W.Fast.te14364793385576792824, PySem.W.Fast.te4187177175401517315]
  kernel_rfl
end My
/-! THE HAND LAYER, for ints, bools, texts, own classes, LISTS and tuples (index, slices, in, append, pop ..), calls, loops. Paste it whole ahead of your own text; what your proof does not reach may be deleted. -/
namespace L2
open PySem PySem.Spec PyProof.Rows

/-- a key: an int or a str -/
abbrev Key := Sum Int Str
def keyIs : Key → Value → Bool
  | .inl k, v => Value.isInt k v
  | .inr x, v => Value.isStrOf x v
def keyH (w : World) : Key → Int
  | .inl k => hashInt k
  | .inr x => hashStr w x
theorem keyIs_shape : ∀ {k : Key} {v : Value}, keyIs k v = true → (∃ i t, k = Sum.inl i ∧ v = Value.int i t) ∨ (∃ x t, k = Sum.inr x ∧ v = Value.str x t)
  | .inl i, v, h => by
    obtain ⟨t, e⟩ := Value.isInt_shape (k := i) (v := v) h
    exact .inl ⟨i, t, rfl, e⟩
  | .inr x, v, h => by
    obtain ⟨t, e⟩ := Value.isStrOf_shape (x := x) (v := v) h
    exact .inr ⟨x, t, rfl, e⟩
theorem key_ll (a b : Int) : decide ((Sum.inl a : Key) = Sum.inl b) = (a == b) := by
  by_cases e : a = b
  · subst e; simp
  · have h : ¬ (Sum.inl a : Key) = Sum.inl b := fun q => e (Sum.inl.inj q)
    rw [decide_eq_false h]
    exact (beq_eq_false_iff_ne.mpr e).symm
theorem key_rr (a b : Str) : decide ((Sum.inr a : Key) = Sum.inr b) = decide (a = b) := by
  by_cases e : a = b
  · subst e; simp
  · have h : ¬ (Sum.inr a : Key) = Sum.inr b := fun q => e (Sum.inr.inj q)
    rw [decide_eq_false h, decide_eq_false e]
theorem key_lr (a : Int) (b : Str) : decide ((Sum.inl a : Key) = Sum.inr b) = false := decide_eq_false (fun q => nomatch q)
theorem key_rl (a : Str) (b : Int) : decide ((Sum.inr a : Key) = Sum.inl b) = false := decide_eq_false (fun q => nomatch q)

def mixKind (prog : Program) (w : World) : PySem.KeyKind prog w Key where
  is := keyIs
  hash := keyH w
  inj := fun v a b ha hb => by
    rcases keyIs_shape ha with ⟨i, t, rfl, rfl⟩ | ⟨x, t, rfl, rfl⟩
    · rcases keyIs_shape hb with ⟨j, u, rfl, e⟩ | ⟨y, u, rfl, e⟩
      · injection e with e1 _; rw [e1]
      · exact nomatch e
    · rcases keyIs_shape hb with ⟨j, u, rfl, e⟩ | ⟨y, u, rfl, e⟩
      · exact nomatch e
      · injection e with e1 _; rw [e1]
  byValue := fun k v h => by
    rcases keyIs_shape h with ⟨i, t, rfl, rfl⟩ | ⟨x, t, rfl, rfl⟩ <;> rfl
  pyHash := fun hv h => by
    rcases keyIs_shape hv with ⟨i, t, rfl, rfl⟩ | ⟨x, t, rfl, rfl⟩
    · exact wpAny_pyHash_int h
    · exact wpAny_pyHash_str h
  eqBool := fun hu hv h => by
    rcases keyIs_shape hu with ⟨i, t, rfl, rfl⟩ | ⟨x, t, rfl, rfl⟩
    · rcases keyIs_shape hv with ⟨j, u, rfl, rfl⟩ | ⟨y, u, rfl, rfl⟩
      · rw [key_ll] at h; exact wpAny_eqBool_int h
      · rw [key_lr] at h; exact SeqAt.EqAt.int_str i t y u _ _ _ _ h
    · rcases keyIs_shape hv with ⟨j, u, rfl, rfl⟩ | ⟨y, u, rfl, rfl⟩
      · rw [key_rl] at h; exact SeqAt.EqAt.str_int x t j u _ _ _ _ h
      · rw [key_rr] at h; exact wpAny_eqBool_str h
  «strs» := fun k x t v h => by
    rcases keyIs_shape h with ⟨i, u, rfl, e⟩ | ⟨y, u, rfl, e⟩
    · exact nomatch e
    · injection e with e1 _
      subst e1
      cases v <;> rfl

end L2

namespace L2
open PySem PySem.Spec PyProof.Rows

/-- a value, without the heap -/
inductive V where
  | non | bl (b : Bool) | int (i : Int) | str (x : Str) | byt (b : Array UInt8) | flt (b : UInt64) | ref (a : Addr) | ty (n : String)
  deriving DecidableEq

def RelV : V → Value → Prop
  | .non, u => u = Value.none
  | .bl b, u => u = Value.bool b
  | .int i, u => ∃ t, u = Value.int i t
  | .str x, u => ∃ t, u = Value.str x t
  | .byt b, u => ∃ t, u = Value.bytes b t
  | .flt b, u => ∃ t, u = Value.float b t
  | .ref a, u => u = Value.ref a
  | .ty n, u => u = Value.type n

abbrev Vals : List V → List Value → Prop := Paired RelV
theorem Vals.length {xs : List V} {us : List Value} (r : Vals xs us) : xs.length = us.length := Paired.length r
theorem Vals.get : ∀ {xs : List V} {us : List Value} {i : Nat} {x : V}, Vals xs us → xs[i]? = some x → ∃ u, us[i]? = some u ∧ RelV x u
  | _, _, _, _, .nil, e => by simp at e
  | _, _, 0, _, .cons r _, e => by simp at e; subst e; exact ⟨_, rfl, r⟩
  | _, _, i + 1, x, .cons _ t, e => by
    obtain ⟨u, h1, h2⟩ := Vals.get (i := i) (x := x) t (by simpa using e)
    exact ⟨u, by simpa using h1, h2⟩
theorem Vals.append : ∀ {xs ys : List V} {us ws : List Value}, Vals xs us → Vals ys ws → Vals (xs ++ ys) (us ++ ws)
  | _, _, _, _, .nil, s => s
  | _, _, _, _, .cons r t, s => .cons r (Vals.append t s)
theorem Vals.take : ∀ {xs : List V} {us : List Value} (n : Nat), Vals xs us → Vals (xs.take n) (us.take n)
  | _, _, 0, _ => .nil
  | _, _, _ + 1, .nil => .nil
  | _, _, n + 1, .cons r t => .cons r (Vals.take n t)
theorem Vals.drop : ∀ {xs : List V} {us : List Value} (n : Nat), Vals xs us → Vals (xs.drop n) (us.drop n)
  | _, _, 0, r => r
  | _, _, _ + 1, .nil => .nil
  | _, _, n + 1, .cons _ t => Vals.drop n t

def RelO : Option V → Option Value → Prop
  | some v, some u => RelV v u
  | none, none => True
  | _, _ => False
def KV {κ : Type} : List (κ × V) → List (κ × Value) → Prop := Paired fun (p : κ × V) (q : κ × Value) => p.1 = q.1 ∧ RelV p.2 q.2

/-- a key of a dict (00_mix): an int or a text -/
def kV : Key → V
  | .inl i => .int i
  | .inr x => .str x

/-- what stands at a tracked address -/
inductive HO where
  /-- a list -/
  | lst (xs : List V)
  /-- a tuple (never changes) -/
  | tup (xs : List V)
  /-- a dict whose keys are ints and texts; one whose keys are tuples of ints and texts (the empty one is both) -/
  | dK (kvs : List (Key × V)) | dT (kvs : List (List Key × V))
  /-- a set of ints: its members, its size -/
  | set (S : Int → Bool) (n : Nat)
  /-- an instance of the class at C, its dict at dx, its attributes -/
  | ins (C dx : Addr) (fs : List (Str × V))
  /-- the dict of the instance at x -/
  | own (x : Addr)
  /-- the dict of an exception -/
  | xd (fs : List (Str × V))
  /-- a bound method, f of x -/
  | met (f x : Addr)
  /-- a range object lo, lo + 1, .. below hi -/
  | rng (lo hi : Int)
  /-- a thing that is known to the object (the script; a dict while a loop walks it): read, never written while it is so -/
  | frz (o : Obj) (u : HO)
  /-- a code object's table -/
  | tbl (pl : Pos) (q : Str)
  /-- any other thing, by what is true of its one object (a def of one's own: SetO a S n := HO.ext fun h => ..) -/
  | ext (φ : Heap → Prop)

abbrev Hp := Addr → Option HO
def upd (H : Hp) (a : Addr) (o : HO) : Hp := fun b => if b = a then some o else H b
theorem upd_same {H : Hp} {a : Addr} {o : HO} : upd H a o a = some o := by unfold upd; rw [if_pos rfl]
theorem upd_ne {H : Hp} {a b : Addr} {o : HO} (h : b ≠ a) : upd H a o b = H b := by unfold upd; rw [if_neg h]
theorem ne_of_none {H : Hp} {a b : Addr} {o : HO} (h : H a = some o) (h' : H b = none) : a ≠ b := by
  intro e; subst e; rw [h] at h'; cases h'

section
variable (P : Program) (w : World)
def ObjOk (H : Hp) (h : Heap) (a : Addr) : HO → Prop
  | .lst xs => xs.length ≤ sizeLine ∧ ∃ (its : List Value) (n : Nat), Vals xs its ∧ h.get? a = some { cls := .type "list", data := .seq its.toArray n }
  | .tup xs => xs.length ≤ sizeLine ∧ ∃ its : List Value, Vals xs its ∧ IsTup h a its.toArray
  | .dK kvs => kvs.length ≤ sizeLine ∧ (a == sysModules) = false ∧ ∃ vs, KV kvs vs ∧ h.DictOf (mixKind P w) a vs
  | .dT kvs => kvs.length ≤ sizeLine ∧ (a == sysModules) = false ∧ ∃ xs : List (List Key × Addr × Value),
      Paired (fun (p : List Key × V) (q : List Key × Addr × Value) => p.1 = q.1 ∧ H q.2.1 = some (.tup (p.1.map kV)) ∧ RelV p.2 q.2.2) kvs xs ∧
      ∃ o es ep, h.get? a = some o ∧ o.ExactDict ∧ o.data = .dict es ep ∧ es.toList = xs.map (entryOfKey (tupleKind (mixKind P w))) ∧ (xs.map (·.1)).Nodup
  | .set S n => h.SetOf (intKind P w) a S n
  | .ins C dx fs => H dx = some (.own a) ∧ fs.length ≤ 1000 ∧ dx ≠ a ∧ h.get? a = some (PySem.W.instObj C dx) ∧
      ∃ mA, h.Ns1 dx mA ∧ (∀ f, RelO (fs.lookup f) (mA f)) ∧ PySem.Within mA (fs.map (·.1))
  | .own _ => ∃ o, h.get? a = some o
  | .xd fs => ∃ mA, h.Ns1 a mA ∧ ∀ f, RelO (fs.lookup f) (mA f)
  | .rng lo hi => ∃ t u v, h.get? a = some { cls := .type "range", data := .fields #[.int lo t, .int hi u, .int 1 v] }
  | .frz o u => h.get? a = some o ∧ ObjOk H h a u
  | .tbl pl q => ∃ ps, h.get? a = some (PySem.W.tabObj ps) ∧ TriplesOk ps.toList ∧
      ∀ cv, codeAmong pl ps.toList = some cv → ∃ c oc vs t, cv = .ref c ∧ H c = some (.frz oc (.own a)) ∧ oc.data = .fields vs ∧ vs[1]? = some (.str q t)
  | .met f x => h.get? a = some (PySem.W.methodObj (.ref f) (.ref x))
  | .ext φ => φ h ∧ (∃ o, h.get? a = some o) ∧ ∀ h1 h2 : Heap, φ h1 → (∀ o, h1.get? a = some o → h2.get? a = some o) → φ h2
/-- the abstract heap is held -/
def HOk (H : Hp) (h : Heap) : Prop := ∀ a o, H a = some o → ObjOk P w H h a o
end

section
variable {P : Program} {w : World} {H H' : Hp} {h h' : Heap} {a : Addr} {o : HO}
theorem ObjOk.lt (x : ObjOk P w H h a o) : a < h.objs.size := by
  cases o with
  | lst xs => obtain ⟨_, _, _, _, e⟩ := x; exact Heap.lt_size e
  | tup xs => obtain ⟨_, _, _, p⟩ := x; exact p.lt
  | dK kvs => obtain ⟨_, _, _, _, o, _, _, e, _⟩ := x; exact Heap.lt_size e
  | dT kvs => obtain ⟨_, _, _, _, o, _, _, e, _⟩ := x; exact Heap.lt_size e
  | set S n => obtain ⟨o, _, _, _, e, _⟩ := x; exact Heap.lt_size e
  | ins C dx fs => obtain ⟨_, _, _, e, _⟩ := x; exact Heap.lt_size e
  | own y => obtain ⟨_, e⟩ := x; exact Heap.lt_size e
  | xd fs => obtain ⟨_, ⟨_, _, _, e, _⟩, _⟩ := x; exact Heap.lt_size e
  | rng lo hi => obtain ⟨_, _, _, e⟩ := x; exact Heap.lt_size e
  | frz ob u => obtain ⟨e, _⟩ := x; exact Heap.lt_size e
  | tbl pl q => obtain ⟨_, e, _⟩ := x; exact Heap.lt_size e
  | met f y => exact Heap.lt_size (show h.get? a = some _ from x)
  | ext φ => obtain ⟨_, ⟨_, e⟩, _⟩ := x; exact Heap.lt_size e
theorem Paired.mapP {α β : Type} {F G : α → β → Prop} : ∀ {l₁ : List α} {l₂ : List β}, Paired F l₁ l₂ → (∀ a b, F a b → G a b) → Paired G l₁ l₂
  | _, _, .nil, _ => .nil
  | _, _, .cons r t, f => .cons (f _ _ r) (Paired.mapP t f)
/-- what an object's description leans on: its own object, its own dict, the tuples -/
theorem ObjOk.stay (x : ObjOk P w H h a o) (k : ∀ b u, (b = a ∨ H b = some (.own a)) → h.get? b = some u → h'.get? b = some u)
    (ho : ∀ b, H b = some (.own a) → H' b = some (.own a)) (ht : ∀ b xs, H b = some (.tup xs) → H' b = some (.tup xs)) (hf : ∀ b ob u, H b = some (.frz ob u) → H' b = some (.frz ob u)) : ObjOk P w H' h' a o := by
  induction o with
  | lst xs => obtain ⟨z, its, n, r, e⟩ := x; exact ⟨z, its, n, r, k _ _ (.inl rfl) e⟩
  | tup xs => obtain ⟨z, its, r, ob, e, c⟩ := x; exact ⟨z, its, r, ob, k _ _ (.inl rfl) e, c⟩
  | dK kvs => obtain ⟨z, y, vs, r, ob, es, ep, e, c⟩ := x; exact ⟨z, y, vs, r, ob, es, ep, k _ _ (.inl rfl) e, c⟩
  | dT kvs =>
    obtain ⟨z, y, xs, r, ob, es, ep, e, c⟩ := x
    exact ⟨z, y, xs, Paired.mapP r fun p q z => ⟨z.1, ht _ _ z.2.1, z.2.2⟩, ob, es, ep, k _ _ (.inl rfl) e, c⟩
  | set S n => obtain ⟨ob, es, ep, t, e, c⟩ := x; exact ⟨ob, es, ep, t, k _ _ (.inl rfl) e, c⟩
  | ins C dx fs =>
    obtain ⟨d, z, ne, e, mA, ⟨od, es, ep, e2, c⟩, r⟩ := x
    exact ⟨ho _ d, z, ne, k _ _ (.inl rfl) e, mA, ⟨od, es, ep, k _ _ (.inr d) e2, c⟩, r⟩
  | own y => obtain ⟨ob, e⟩ := x; exact ⟨ob, k _ _ (.inl rfl) e⟩
  | xd fs => obtain ⟨mA, ⟨od, es, ep, e, c⟩, r⟩ := x; exact ⟨mA, ⟨od, es, ep, k _ _ (.inl rfl) e, c⟩, r⟩
  | rng lo hi => obtain ⟨t, u, v, e⟩ := x; exact ⟨t, u, v, k _ _ (.inl rfl) e⟩
  | frz ob u ih => obtain ⟨e, q⟩ := x; exact ⟨k _ _ (.inl rfl) e, ih q⟩
  | tbl pl q =>
    obtain ⟨ps, e, tr, hc⟩ := x
    refine ⟨ps, k a _ (.inl rfl) e, tr, fun cv ecv => ?_⟩
    obtain ⟨c, oc, vs, t, e1, e2, e3⟩ := hc cv ecv
    exact ⟨c, oc, vs, t, e1, hf _ _ _ e2, e3⟩
  | met f y =>
    have e : h.get? a = some (PySem.W.methodObj (.ref f) (.ref y)) := x
    show h'.get? a = some (PySem.W.methodObj (.ref f) (.ref y))
    exact k a _ (.inl rfl) e
  | ext φ => obtain ⟨p, ⟨o, e⟩, st⟩ := x; exact ⟨st _ _ p fun o q => k _ _ (.inl rfl) q, ⟨o, k _ _ (.inl rfl) e⟩, st⟩
theorem HOk.lt (x : HOk P w H h) (e : H a = some o) : a < h.objs.size := (x a o e).lt
theorem HOk.fresh (x : HOk P w H h) (e : h.objs.size ≤ a) : H a = none := by
  cases q : H a with
  | none => rfl
  | some u => exact absurd (Nat.lt_of_lt_of_le (x.lt q) e) (Nat.lt_irrefl _)
/-- every object of the heap is kept -/
theorem HOk.kept (x : HOk P w H h) (k : ∀ b u, h.get? b = some u → h'.get? b = some u) : HOk P w H h' := fun a o e =>
  (x a o e).stay (fun b u _ q => k b u q) (fun _ q => q) (fun _ _ q => q) fun _ _ _ q => q
/-- a new object is laid and tracked -/
theorem HOk.laid (x : HOk P w H h) (k : ∀ b u, h.get? b = some u → h'.get? b = some u) (hp : h.objs.size ≤ a) (new : ObjOk P w (upd H a o) h' a o) : HOk P w (upd H a o) h' := fun b u e => by
  have hn := x.fresh hp
  by_cases hb : b = a
  · subst hb; rw [upd_same] at e; cases e; exact new
  · rw [upd_ne hb] at e
    exact (x b u e).stay (fun c v _ q => k c v q) (fun c q => by rw [upd_ne (ne_of_none q hn)]; exact q) (fun c xs q => by rw [upd_ne (ne_of_none q hn)]; exact q) fun c ob y q => by rw [upd_ne (ne_of_none q hn)]; exact q
end

/-- what may be read as u: it is u, or a known u -/
def Rd (H : Hp) (a : Addr) (u : HO) : Prop := H a = some u ∨ ∃ o, H a = some (.frz o u)
theorem Rd.ok {P : Program} {w : World} {H : Hp} {h : Heap} {a : Addr} {u : HO} (r : Rd H a u) (x : HOk P w H h) : ObjOk P w H h a u := by
  rcases r with r | ⟨o, r⟩
  · exact x a u r
  · obtain ⟨_, q⟩ := x a _ r
    exact q
/-- what may be written -/
def Mut : Option HO → Prop
  | some (.lst _) => True
  | some (.dK _) => True
  | some (.dT _) => True
  | some (.set _ _) => True
  | some (.ins _ _ _) => True
  | some (.ext _) => True
  | _ => False
section
variable {P : Program} {w : World} {H : Hp} {h h' : Heap} {x e : Addr} {o' : HO}
/-- the object at e is changed: x itself, or the dict of the instance x -/
theorem HOk.write (ok : HOk P w H h) (mu : Mut (H x)) (he : e = x ∨ H e = some (.own x)) (k : ∀ b u, b ≠ e → h.get? b = some u → h'.get? b = some u) (heo : ∃ u, h'.get? e = some u)
    (new : ObjOk P w (upd H x o') h' x o') : HOk P w (upd H x o') h' := fun b u q => by
  have nown : ∀ c y, H c = some (.own y) → c ≠ x := fun c y r z => by subst z; rw [r] at mu; exact mu
  have ntup : ∀ c xs, H c = some (.tup xs) → c ≠ x := fun c xs r z => by subst z; rw [r] at mu; exact mu
  have nfrz : ∀ c ob y, H c = some (.frz ob y) → c ≠ x := fun c ob y r z => by subst z; rw [r] at mu; exact mu
  by_cases hb : b = x
  · subst hb; rw [upd_same] at q; cases q; exact new
  · rw [upd_ne hb] at q
    by_cases hbe : b = e
    · have q' : H b = some (.own x) := by
        rcases he with z | z
        · exact absurd (hbe.trans z) hb
        · rw [hbe]; exact z
      rw [q] at q'; cases q'
      obtain ⟨v, hv⟩ := heo
      exact ⟨v, by rw [hbe]; exact hv⟩
    · refine (ok b u q).stay (fun c v hc r => k c v ?_ r) (fun c r => by rw [upd_ne (nown c b r)]; exact r) (fun c xs r => by rw [upd_ne (ntup c xs r)]; exact r) fun c ob y r => by rw [upd_ne (nfrz c ob y r)]; exact r
      rcases hc with rfl | hc
      · exact hbe
      · rintro rfl
        rcases he with z | z
        · exact nown c b hc z
        · rw [hc] at z; cases z; exact hb rfl
end

/-! ### kept unless tracked; of the frames at fs (the callers') the slots may change (an exception that passes writes there); of the records at ex (iterators) nothing is said -/
structure Un (fs ex : List Addr) (H H' : Hp) (h h' : Heap) : Prop where
  keep : ∀ b o, h.get? b = some o → H b = none → b ∉ fs → b ∉ ex → h'.get? b = some o
  slot : ∀ b o, h.get? b = some o → H b = none → b ∈ fs → b ∉ ex → ∃ sl, h'.get? b = some { o with slots := sl }
  free : ∀ b o, h.get? b = some o → H b = none → b ∉ ex → H' b = none
  there : ∀ b o, h.get? b = some o → b ∉ ex → ∃ o', h'.get? b = some o'
  tups : ∀ b xs, H b = some (.tup xs) → H' b = some (.tup xs)
  frzs : ∀ b o u, H b = some (.frz o u) → H' b = some (.frz o u)
  tbls : ∀ b pl q, H b = some (.tbl pl q) → H' b = some (.tbl pl q)
section
variable {fs fs' ex ex' : List Addr} {H H1 H2 : Hp} {h h1 h2 h' : Heap} {a x e : Addr} {o : HO}
theorem Un.any (u : Un fs ex H H1 h h1) {b : Addr} {ob : Obj} (q : h.get? b = some ob) (n : H b = none) (hx : b ∉ ex) : ∃ sl, h1.get? b = some { ob with slots := sl } := by
  by_cases hb : b ∈ fs
  · exact u.slot b ob q n hb hx
  · exact ⟨ob.slots, u.keep b ob q n hb hx⟩
theorem Un.kept (k : ∀ b u, h.get? b = some u → h'.get? b = some u) : Un fs ex H H h h' :=
  ⟨fun b ob q _ _ _ => k b ob q, fun b ob q _ _ _ => ⟨ob.slots, k b ob q⟩, fun _ _ _ n _ => n, fun b ob q _ => ⟨ob, k b ob q⟩, fun _ _ q => q, fun _ _ _ q => q, fun _ _ _ q => q⟩
theorem Un.refl : Un fs ex H H h h := Un.kept fun _ _ q => q
theorem Un.laid (k : ∀ b u, h.get? b = some u → h'.get? b = some u) (hp : h.objs.size ≤ a) (hn : H a = none) : Un fs ex H (upd H a o) h h' where
  keep := fun b u q _ _ _ => k b u q
  slot := fun b u q _ _ _ => ⟨u.slots, k b u q⟩
  free := fun b u q n _ => by rw [upd_ne (Nat.ne_of_lt (Nat.lt_of_lt_of_le (Heap.lt_size q) hp))]; exact n
  there := fun b u q _ => ⟨u, k b u q⟩
  tups := fun b xs q => by rw [upd_ne (ne_of_none q hn)]; exact q
  frzs := fun b u xs q => by rw [upd_ne (ne_of_none q hn)]; exact q
  tbls := fun b pl y q => by rw [upd_ne (ne_of_none q hn)]; exact q
theorem Un.write (mu : Mut (H x)) (he : e = x ∨ H e = some (.own x)) (k : ∀ b u, b ≠ e → h.get? b = some u → h'.get? b = some u) (heo : ∃ u, h'.get? e = some u) : Un fs ex H (upd H x o) h h' := by
  have hx : ∀ b, H b = none → b ≠ x := fun b n z => by subst z; rw [n] at mu; exact mu
  have hb : ∀ b, H b = none → b ≠ e := fun b n z => by
    subst z
    rcases he with r | r
    · exact hx b n r
    · rw [n] at r; cases r
  have hm : ∀ b u, H b = some u → ¬ Mut (some u) → b ≠ x := fun b u q nm z => by subst z; rw [q] at mu; exact nm mu
  refine ⟨fun b u q n _ _ => k b u (hb b n) q, fun b u q n _ _ => ⟨u.slots, k b u (hb b n) q⟩, fun b u q n _ => by rw [upd_ne (hx b n)]; exact n, fun b u q _ => ?_,
    fun b xs q => by rw [upd_ne (hm b _ q fun z => z)]; exact q, fun b u xs q => by rw [upd_ne (hm b _ q fun z => z)]; exact q, fun b pl y q => by rw [upd_ne (hm b _ q fun z => z)]; exact q⟩
  by_cases hbe : b = e
  · subst hbe; exact heo
  · exact ⟨u, k b u hbe q⟩
end

/-! ### the heap without what is tracked -/
def trk (h : Heap) (H : Hp) : List Addr := (List.range h.objs.size).filter fun a => (H a).isSome
def hidT (h : Heap) (H : Hp) : Heap := PySem.W.hideAll h (trk h H)
theorem hidT_size (h : Heap) (H : Hp) : (hidT h H).objs.size = h.objs.size := PySem.W.hideAll_size _ _
theorem hidT_get {h : Heap} {H : Hp} {b : Addr} {o : Obj} (e : h.get? b = some o) (n : H b = none) : (hidT h H).get? b = some o :=
  PySem.W.hideAll_get _ e fun hm => by
    have q : (H b).isSome = true := (List.mem_filter.mp hm).2
    rw [n] at q; simp at q
theorem of_hidT {h : Heap} {H : Hp} {b : Addr} {o : Obj} (e : (hidT h H).get? b = some o) : h.get? b = some o ∧ H b = none := by
  have e' : h.get? b = some o := PySem.W.of_hideAll (trk h H) e
  refine ⟨e', ?_⟩
  cases q : H b with
  | none => rfl
  | some x =>
    have hm : b ∈ trk h H := List.mem_filter.mpr ⟨List.mem_range.mpr (Heap.lt_size e'), by simp [q]⟩
    have z : (hidT h H).get? b = none := PySem.W.hideAll_none (trk h H) hm
    rw [z] at e; cases e

/-! ### OpenK's ledger, filled with every new object but one -/
end L2

namespace L2
open PySem PySem.Spec PyProof.Rows

/-- the module's facts, over the base: the heap at the law's entry without what is tracked there -/
structure Mod (K : PySem.W.Frag) (mg : Str → Option Value) (base : Heap) : Prop where
  kin : K.In base
  glob : base.Ns mainGlobals mg
  blt : ∃ mb, base.Ns builtinsNs mb ∧ ∀ x : Str, x ≠ "__name__" → mb x = bootBuiltins x
  nolimit : base.NoLimit
  bm : ∃ bm ob, mg "__builtins__" = some (.ref bm) ∧ bm ≠ builtinsNs ∧ base.get? bm = some ob ∧ ob.cls = .type "module" ∧ ob.dict = some builtinsNs ∧ ob.data = .plain

/-- the context: a def's body (or a comprehension's block) running. base: fixed through the whole law; s₀, H₀: the entry; outer: the frames whose slots others may change (a def's callers); stack: all frames that run;
   ex: iterators that were made ahead of the entry and are walked here (a comprehension's); fn: the names whose cells were made at the entry (a def: all; a comprehension's block: its own); calm: not within an except suite; pn: pins that every state bears; xe: what is wanted of an exception that leaves the code -/
structure Cx where
  prog : Program
  w : World
  K : PySem.W.Frag
  mg : Str → Option Value
  base : Heap
  A : Around
  N : List Str
  s₀ : Shared
  H₀ : Hp
  env : Env
  outer : List Env
  stack : List Env
  ex : List Addr
  fn : Str → Bool
  calm : Bool
  pn : List (Addr × Obj)
  xe : Value → Shared → Prop
/-- the callers' frames -/
def frs (l : List Env) : List Addr := l.filterMap (·.frame)
abbrev Cx.fs (X : Cx) : List Addr := frs X.outer

def Vis (sc : Scope) (x : Str) : Prop := sc.names.lookup x = some .local ∨ sc.names.lookup x = some .cell ∨ sc.names.lookup x = some .free
def Loc (sc : Scope) (x : Str) : Prop := sc.names.lookup x = some .local ∨ sc.names.lookup x = some .cell
def Look (env : Env) (h : Heap) (m : Str → Option Value) (x : Str) (u : Value) : Prop :=
  (env.kindOf x = some .local ∧ m x = some u) ∨ ((env.kindOf x = some .cell ∨ env.kindOf x = some .free) ∧ ∃ c, env.cells.lookup x = some c ∧ h.IsCell c (some u))

structure Cx.Ok (X : Cx) : Prop where
  mod : Mod X.K X.mg X.base
  kind : X.env.scope.kind = .function
  glob : X.env.globals = mainGlobals
  blt : X.env.builtins = builtinsNs
  above : X.s₀.heap.objs.size ≤ X.env.locals
  inj : ∀ x y c, X.env.cells.lookup x = some c → X.env.cells.lookup y = some c → x = y
  has : ∀ x, (X.env.kindOf x = some .cell ∨ X.env.kindOf x = some .free) → ∃ c, X.env.cells.lookup x = some c
  cab : ∀ x c, X.fn x = true → X.env.cells.lookup x = some c → X.s₀.heap.objs.size ≤ c
  hd : X.calm = true → X.A.handled = none
  frames : X.A.frames = some X.stack
  stk : X.stack = X.outer ∨ (X.stack = X.env :: X.outer ∧ X.env.frame = some X.env.locals)
  exf : ∀ b ∈ X.ex, b ≠ X.env.locals ∧ ∀ x c, X.env.cells.lookup x = some c → c ≠ b
  bs : ∀ b o, X.base.get? b = some o → X.s₀.heap.get? b = some o ∧ X.H₀ b = none
  bsz : X.base.objs.size ≤ X.s₀.heap.objs.size
  noex : ∀ b o, X.base.get? b = some o → b ∉ X.ex
  exfs : ∀ b ∈ X.ex, b ∉ X.fs
  funs : X.s₀.heap.FunFrames X.base X.outer
  frf : ∀ b ∈ X.fs, X.H₀ b = none

structure Inv (X : Cx) (pins : List (Addr × Obj)) (σ : List (Option V)) (H : Hp) (s : Shared) : Prop where
  ok : X.Ok
  os : s.os = X.s₀.os
  bare : AllBare s.gens
  base : Un X.fs X.ex X.H₀ H X.s₀.heap s.heap
  loc : ∃ m, s.heap.Ns X.env.locals m ∧ ∀ (i : Nat) (x : Str) (v : V), X.N[i]? = some x → σ[i]? = some (some v) → Vis X.env.scope x → ∃ u, RelV v u ∧ Look X.env s.heap m x u
  cell : ∀ x c, X.env.cells.lookup x = some c → ∃ v, s.heap.IsCell c v
  free : H X.env.locals = none
  freeC : ∀ x c, X.env.cells.lookup x = some c → H c = none
  pin : ∀ p ∈ X.pn ++ pins, s.heap.get? p.1 = some p.2 ∧ H p.1 = none ∧ p.1 ≠ X.env.locals ∧ p.1 ∉ X.fs ∧ ∀ v, p.2.data ≠ .cell v
  hok : HOk X.prog X.w H s.heap
  len : σ.length = X.N.length

section
variable {X : Cx} {pins : List (Addr × Obj)} {σ : List (Option V)} {H H' : Hp} {s : Shared} {h' : Heap}

theorem Cx.Ok.nofr (ok : X.Ok) {b : Addr} {o : Obj} (e : X.base.get? b = some o) : b ∉ X.fs := fun hb => by
  have := (ok.funs.mem hb).1
  rw [e] at this; cases this
theorem Inv.bs (I : Inv X pins σ H s) : ∀ b o, X.base.get? b = some o → s.heap.get? b = some o ∧ H b = none := fun b o e =>
  ⟨I.base.keep b o (I.ok.bs b o e).1 (I.ok.bs b o e).2 (I.ok.nofr e) (I.ok.noex b o e), I.base.free b o (I.ok.bs b o e).1 (I.ok.bs b o e).2 (I.ok.noex b o e)⟩
theorem Inv.bk (I : Inv X pins σ H s) : ∀ b o, X.base.get? b = some o → s.heap.get? b = some o := fun b o e => (I.bs b o e).1
theorem Inv.mod (I : Inv X pins σ H s) : Mod X.K X.mg X.base := I.ok.mod
theorem Inv.kIn (I : Inv X pins σ H s) : X.K.In s.heap := I.ok.mod.kin.keeps I.bk
/-- the frame over the base: for OpenK's rules (K.In X.base is I.mod.kin) -/
theorem Inv.fr (I : Inv X pins σ H s) : ∃ m, Fr X.base X.env.locals s.heap m :=
  let ⟨m, hn, _⟩ := I.loc
  ⟨m, hn, I.bk, Nat.le_trans I.ok.bsz I.ok.above⟩
theorem Inv.lt (I : Inv X pins σ H s) : X.env.locals < s.heap.objs.size := let ⟨_, hn, _⟩ := I.loc; hn.lt
theorem Inv.sz (I : Inv X pins σ H s) : X.s₀.heap.objs.size ≤ s.heap.objs.size := Nat.le_trans I.ok.above (Nat.le_of_lt I.lt)
theorem Inv.nofs (I : Inv X pins σ H s) {a : Addr} (h : s.heap.objs.size ≤ a) : a ∉ X.fs := fun hb => by
  obtain ⟨_, o, ho, _⟩ := I.ok.funs.mem hb
  exact absurd (Nat.lt_of_lt_of_le (Heap.lt_size ho) (Nat.le_trans I.sz h)) (Nat.lt_irrefl _)
theorem Inv.cne (I : Inv X pins σ H s) : ∀ x c, X.env.cells.lookup x = some c → c ≠ X.env.locals := fun x c e z => by
  obtain ⟨v, o, ho, hd⟩ := I.cell x c e
  obtain ⟨m, ⟨o', es, ep, ho', hd', _⟩, _⟩ := I.loc
  rw [z, ho'] at ho; cases ho; rw [hd'] at hd; cases hd
theorem Inv.funs (I : Inv X pins σ H s) : s.heap.FunFrames X.base X.outer := by
  have all : ∀ (l : List Env), (∀ b ∈ frs l, b ∈ X.fs) → X.s₀.heap.FunFrames X.base l → s.heap.FunFrames X.base l := by
    intro l
    induction l with
    | nil => intro _ _; trivial
    | cons env r ih =>
      intro hs hl
      obtain ⟨hk, ⟨L, o, hf, hn, ho, hd⟩, hr⟩ := hl
      have hL : L ∈ X.fs := hs L (by unfold frs; rw [List.filterMap_cons, hf]; exact List.mem_cons_self)
      obtain ⟨sl, e⟩ := I.base.slot L o ho (I.ok.frf L hL) hL fun z => I.ok.exfs L z hL
      exact ⟨hk, ⟨L, _, hf, hn, e, hd⟩, ih (fun b hb => hs b (by unfold frs; rw [List.filterMap_cons, hf]; exact List.mem_cons_of_mem _ hb)) hr⟩
  exact all X.outer (fun _ hb => hb) I.ok.funs

/-- the frames that run, for a call -/
theorem Inv.stack (I : Inv X pins σ H s) : s.heap.FunFrames X.base X.stack := by
  rcases I.ok.stk with e | ⟨e, hf⟩
  · rw [e]; exact I.funs
  · rw [e]
    obtain ⟨m, hn, _⟩ := I.loc
    refine .cons (by rw [I.ok.kind]; decide) hf hn ?_ I.funs
    exact Heap.get?_none_of_le (Nat.le_trans I.ok.bsz I.ok.above)
theorem Inv.stkSub (I : Inv X pins σ H s) : ∀ b ∈ frs X.stack, b ∈ X.env.locals :: X.fs := fun b hb => by
  rcases I.ok.stk with e | ⟨e, hf⟩
  · rw [e] at hb; exact List.mem_cons_of_mem _ hb
  · rw [e] at hb
    unfold frs at hb
    rw [List.filterMap_cons, hf] at hb
    exact hb
theorem Inv.stkFree (I : Inv X pins σ H s) : ∀ b ∈ frs X.stack, H b = none := fun b hb => by
  rcases List.mem_cons.mp (I.stkSub b hb) with e | hb
  · rw [e]; exact I.free
  · obtain ⟨_, o, ho, _⟩ := I.ok.funs.mem hb
    exact I.base.free b o ho (I.ok.frf b hb) fun z => I.ok.exfs b z hb

/-- THE STEP: the untracked objects but the frame and the records at ch are kept (the callers' frames up to slots), the frame's map is kept, the new abstract heap is held -/
theorem Inv.step {g' : Array GenState} {t' : Nat} {d' : Drawn} {ch : List Addr} (I : Inv X pins σ H s)
    (hch : ∀ b ∈ ch, (b ∈ X.ex ∨ X.s₀.heap.objs.size ≤ b) ∧ b ≠ X.env.locals ∧ (∀ x c, X.env.cells.lookup x = some c → c ≠ b) ∧ ∀ p ∈ X.pn ++ pins, p.1 ≠ b)
    (keep : ∀ b o, b ≠ X.env.locals → b ∉ X.fs → b ∉ ch → s.heap.get? b = some o → H b = none → h'.get? b = some o)
    (slot : ∀ b o, b ≠ X.env.locals → b ∈ X.fs → b ∉ ch → s.heap.get? b = some o → H b = none → ∃ sl, h'.get? b = some { o with slots := sl }) (free : ∀ b o, b ∉ ch → s.heap.get? b = some o → H b = none → H' b = none)
    (there : ∀ b o, b ∉ ch → s.heap.get? b = some o → ∃ o', h'.get? b = some o')
    (tups : ∀ b xs, H b = some (.tup xs) → H' b = some (.tup xs)) (frzs : ∀ b o u, H b = some (.frz o u) → H' b = some (.frz o u)) (tbls : ∀ b pl q, H b = some (.tbl pl q) → H' b = some (.tbl pl q))
    (ns : ∀ m, s.heap.Ns X.env.locals m → h'.Ns X.env.locals m) (hok : HOk X.prog X.w H' h') (hg : AllBare g') :
    Inv X pins σ H' { s with heap := h', gens := g', drawn := d', toks := t' } := by
  have neL : ∀ b o, X.s₀.heap.get? b = some o → b ≠ X.env.locals := fun b o e => Nat.ne_of_lt (Nat.lt_of_lt_of_le (Heap.lt_size e) I.ok.above)
  have neC : ∀ b o, X.s₀.heap.get? b = some o → b ∉ X.ex → b ∉ ch := fun b o e hx hb => by
    rcases (hch b hb).1 with z | z
    · exact hx z
    · exact absurd (Nat.lt_of_lt_of_le (Heap.lt_size e) z) (Nat.lt_irrefl _)
  have cellK : ∀ x c, X.env.cells.lookup x = some c → ∀ v, s.heap.IsCell c v → h'.IsCell c v := fun x c e v ⟨o, ho, hd⟩ => by
    have nch : c ∉ ch := fun z => (hch c z).2.2.1 x c e rfl
    by_cases hc : c ∈ X.fs
    · obtain ⟨sl, q⟩ := slot c o (I.cne x c e) hc nch ho (I.freeC x c e)
      exact ⟨_, q, hd⟩
    · exact ⟨o, keep c o (I.cne x c e) hc nch ho (I.freeC x c e), hd⟩
  refine ⟨I.ok, I.os, hg, ⟨fun b o e n hb hx => ?_, fun b o e n hb hx => ?_, fun b o e n hx => ?_, fun b o e hx => ?_, fun b xs e => tups b xs (I.base.tups b xs e), fun b o xs e => frzs b o xs (I.base.frzs b o xs e), fun b pl y e => tbls b pl y (I.base.tbls b pl y e)⟩, ?_, fun x c e => ?_, ?_, fun x c e => ?_, fun p hp => ?_, hok, I.len⟩
  · exact keep b o (neL b o e) hb (neC b o e hx) (I.base.keep b o e n hb hx) (I.base.free b o e n hx)
  · obtain ⟨sl, e1⟩ := I.base.slot b o e n hb hx
    obtain ⟨sl', e2⟩ := slot b _ (neL b o e) hb (neC b o e hx) e1 (I.base.free b o e n hx)
    exact ⟨sl', e2⟩
  · obtain ⟨o', e1⟩ := I.base.there b o e hx
    exact free b o' (neC b o e hx) e1 (I.base.free b o e n hx)
  · obtain ⟨o', e1⟩ := I.base.there b o e hx
    exact there b o' (neC b o e hx) e1
  · obtain ⟨m, hn, hl⟩ := I.loc
    refine ⟨m, ns m hn, fun i x v e1 e2 e3 => ?_⟩
    obtain ⟨u, r, l⟩ := hl i x v e1 e2 e3
    refine ⟨u, r, ?_⟩
    rcases l with l | ⟨k, c, e, z⟩
    · exact .inl l
    · exact .inr ⟨k, c, e, cellK x c e _ z⟩
  · obtain ⟨v, z⟩ := I.cell x c e
    exact ⟨v, cellK x c e v z⟩
  · obtain ⟨m, ⟨o, _, _, ho, _⟩, _⟩ := I.loc
    exact free _ o (fun z => (hch _ z).2.1 rfl) ho I.free
  · obtain ⟨v, o, ho, hd⟩ := I.cell x c e
    exact free c o (fun z => (hch c z).2.2.1 x c e rfl) ho (I.freeC x c e)
  · obtain ⟨e, n, ne, nf, d⟩ := I.pin p hp
    have nch : p.1 ∉ ch := fun z => (hch p.1 z).2.2.2 p hp rfl
    exact ⟨keep p.1 p.2 ne nf nch e n, free p.1 p.2 nch e n, ne, nf, d⟩
/-- .. where the frame's own object is kept too -/
theorem Inv.un {t' : Nat} (I : Inv X pins σ H s) (u : Un X.fs [] H H' s.heap h') (hok : HOk X.prog X.w H' h') : Inv X pins σ H' { s with heap := h', toks := t' } := by
  obtain ⟨m, ⟨o, es, ep, ho, r⟩, _⟩ := id I.loc
  obtain ⟨sl, hL⟩ := u.any ho I.free (by simp)
  exact I.step (g' := s.gens) (d' := s.drawn) (ch := []) (fun _ z => nomatch z) (fun b o _ hb _ e n => u.keep b o e n hb (by simp)) (fun b o _ hb _ e n => u.slot b o e n hb (by simp)) (fun b o _ e n => u.free b o e n (by simp)) (fun b o _ e => u.there b o e (by simp)) u.tups u.frzs u.tbls (fun m' hm => by
    obtain ⟨o', es', ep', ho', r'⟩ := hm
    rw [ho] at ho'; cases ho'
    exact ⟨_, es', ep', hL, r'⟩) hok I.bare
/-- behind a call (or a comprehension's block): the slots of this frame may have changed too, the records at ch may have turned -/
theorem Inv.call {g' : Array GenState} {t' : Nat} {d' : Drawn} {ch : List Addr} (I : Inv X pins σ H s) (u : Un (frs X.stack) ch H H' s.heap h') (hok : HOk X.prog X.w H' h') (hg : AllBare g')
    (hch : ∀ b ∈ ch, (b ∈ X.ex ∨ X.s₀.heap.objs.size ≤ b) ∧ b ≠ X.env.locals ∧ (∀ x c, X.env.cells.lookup x = some c → c ≠ b) ∧ ∀ p ∈ X.pn ++ pins, p.1 ≠ b) :
    Inv X pins σ H' { s with heap := h', gens := g', drawn := d', toks := t' } := by
  obtain ⟨m, ⟨o, es, ep, ho, r⟩, _⟩ := id I.loc
  obtain ⟨sl, hL⟩ := u.any ho I.free fun z => (hch _ z).2.1 rfl
  exact I.step (ch := ch) hch (fun b o hL hb hc e n => u.keep b o e n (fun z => (List.mem_cons.mp (I.stkSub b z)).elim hL hb) hc) (fun b o _ _ hc e n => u.any e n hc) (fun b o hc e n => u.free b o e n hc) (fun b o hc e => u.there b o e hc) u.tups u.frzs u.tbls (fun m' hm => by
    obtain ⟨o', es', ep', ho', r'⟩ := hm
    rw [ho] at ho'; cases ho'
    exact ⟨_, es', ep', hL, r'⟩) hok hg
/-- an untracked record of ours (an iterator) has turned -/
theorem Inv.turned {t' : Nat} {it : Addr} (I : Inv X pins σ H s) (k : ∀ b o, b ≠ it → s.heap.get? b = some o → h'.get? b = some o) (hn : H it = none) (hL : it ≠ X.env.locals)
    (h1 : it ∈ X.ex ∨ X.s₀.heap.objs.size ≤ it) (h2 : ∀ x c, X.env.cells.lookup x = some c → c ≠ it) (h3 : ∀ p ∈ X.pn ++ pins, p.1 ≠ it) : Inv X pins σ H { s with heap := h', toks := t' } := by
  have nit : ∀ b u, H b = some u → b ≠ it := fun b u e z => by rw [z, hn] at e; cases e
  refine I.step (g' := s.gens) (d' := s.drawn) (ch := [it]) (fun b hb => ?_) (fun b o _ _ hc e _ => k b o (fun z => hc (by simp [z])) e) (fun b o _ _ hc e _ => ⟨o.slots, k b o (fun z => hc (by simp [z])) e⟩) (fun _ _ _ _ n => n)
    (fun b o hc e => ⟨o, k b o (fun z => hc (by simp [z])) e⟩) (fun _ _ e => e) (fun _ _ _ e => e) (fun _ _ _ e => e) (fun m hm => ?_) (fun b u e => ?_) I.bare
  · have e : b = it := by simpa using hb
    subst e
    exact ⟨h1, hL, h2, h3⟩
  · obtain ⟨o, es, ep, ho, r⟩ := hm
    exact ⟨o, es, ep, k _ o (Ne.symm hL) ho, r⟩
  · refine (I.hok b u e).stay (fun c v hc q => k c v ?_ q) (fun _ q => q) (fun _ _ q => q) fun _ _ _ q => q
    rcases hc with z | z
    · rw [z]; exact nit b u e
    · exact nit c _ z
theorem Inv.tok (I : Inv X pins σ H s) (t : Nat) : Inv X pins σ H { s with toks := t } := I.un (h' := s.heap) (t' := t) Un.refl I.hok
/-- all objects kept -/
theorem Inv.kept {t' : Nat} (I : Inv X pins σ H s) (k : ∀ b u, s.heap.get? b = some u → h'.get? b = some u) : Inv X pins σ H { s with heap := h', toks := t' } := I.un (Un.kept k) (I.hok.kept k)
/-- a new object laid and tracked -/
theorem Inv.laid {a : Addr} {o : HO} {t' : Nat} (I : Inv X pins σ H s) (k : ∀ b u, s.heap.get? b = some u → h'.get? b = some u) (hp : s.heap.objs.size ≤ a) (new : ObjOk X.prog X.w (upd H a o) h' a o) :
    Inv X pins σ (upd H a o) { s with heap := h', toks := t' } := I.un (Un.laid k hp (I.hok.fresh hp)) (I.hok.laid k hp new)
/-- an object written -/
theorem Inv.write {x e : Addr} {o : HO} {t' : Nat} (I : Inv X pins σ H s) (mu : Mut (H x)) (he : e = x ∨ H e = some (.own x)) (k : ∀ b u, b ≠ e → s.heap.get? b = some u → h'.get? b = some u) (heo : ∃ u, h'.get? e = some u)
    (new : ObjOk X.prog X.w (upd H x o) h' x o) : Inv X pins σ (upd H x o) { s with heap := h', toks := t' } := I.un (Un.write mu he k heo) (I.hok.write mu he k heo new)
theorem Inv.pins_of {pins' : List (Addr × Obj)} (I : Inv X pins σ H s) (h : ∀ p ∈ pins', s.heap.get? p.1 = some p.2 ∧ H p.1 = none ∧ p.1 ≠ X.env.locals ∧ p.1 ∉ X.fs ∧ ∀ v, p.2.data ≠ .cell v) : Inv X pins' σ H s :=
  ⟨I.ok, I.os, I.bare, I.base, I.loc, I.cell, I.free, I.freeC, fun p hp => (List.mem_append.mp hp).elim (fun z => I.pin p (List.mem_append_left _ z)) (h p), I.hok, I.len⟩

theorem nodup_ix {N : List Str} (hN : N.Nodup) {i j : Nat} {x : Str} (a : N[i]? = some x) (b : N[j]? = some x) : i = j := by
  obtain ⟨h1, e1⟩ := List.getElem?_eq_some_iff.mp a
  obtain ⟨h2, e2⟩ := List.getElem?_eq_some_iff.mp b
  exact (List.getElem_inj hN).mp (e1.trans e2.symm)

/-- a name is stored; what changed -/
theorem store_ok2 {M : Model} {A : Around} {E : Value → Shared → Prop} {i : Nat} {x : Str} {v : V} {u : Value} {Q : Unit → Shared → Prop} (I : Inv X pins σ H s) (hN : X.N.Nodup) (hi : X.N[i]? = some x) (hx : Loc X.env.scope x) (r : RelV v u)
    (h : ∀ s', Inv X pins (σ.set i (some v)) H s' → (∃ a, Heap.SameBut a s.heap s'.heap ∧ (a = X.env.locals ∨ X.env.cells.lookup x = some a)) → Q () s') (hf : X.fn x = true ∨ X.env.scope.names.lookup x = some .local := by first | exact .inl rfl | exact .inr rfl | assumption) : wpAny M A (storeName X.env x u) Q E s := by
  obtain ⟨m, hn, hl⟩ := id I.loc
  have hcls : (X.env.scope.kind == .class || (X.env.scope.kind == .module && X.env.locals != X.env.globals)) = false := by rw [I.ok.kind]; rfl
  have hiσ : i < σ.length := by rw [I.len]; exact (List.getElem?_eq_some_iff.mp hi).1
  have cne := I.cne
  have tracked : ∀ {a : Addr} {h' : Heap}, (∃ o, s.heap.get? a = some o ∧ H a = none) → Heap.SameBut a s.heap h' → HOk X.prog X.w H h' := fun {a h'} ha hs b ob e => by
    obtain ⟨_, _, hfree⟩ := ha
    refine (I.hok b ob e).stay (fun c w' hc q => (hs.2 c ?_).trans q) (fun _ q => q) (fun _ _ q => q) fun _ _ _ q => q
    rintro rfl
    rcases hc with rfl | hc
    · rw [hfree] at e; cases e
    · rw [hfree] at hc; cases hc
  rcases hx with hk | hk
  · refine wpAny_storeName_local hk hn (fun h' hn' hs => ?_) hcls
    obtain ⟨oL, _, _, hoL, _⟩ := id hn
    refine h _ ⟨I.ok, I.os, I.bare, ⟨fun b o e n hb hx => ?_, fun b o e n hb hx => ?_, I.base.free, fun b o e hx => ?_, I.base.tups, I.base.frzs, I.base.tbls⟩, ⟨_, hn', fun j y v' e1 e2 e3 => ?_⟩, fun y c e => ?_, I.free, I.freeC, fun p hp => ?_, tracked ⟨oL, hoL, I.free⟩ hs, by simpa using I.len⟩ ⟨_, hs, .inl rfl⟩
    · exact (hs.2 b (Nat.ne_of_lt (Nat.lt_of_lt_of_le (Heap.lt_size e) I.ok.above))).trans (I.base.keep b o e n hb hx)
    · obtain ⟨sl, e1⟩ := I.base.slot b o e n hb hx
      exact ⟨sl, (hs.2 b (Nat.ne_of_lt (Nat.lt_of_lt_of_le (Heap.lt_size e) I.ok.above))).trans e1⟩
    · obtain ⟨o', e1⟩ := I.base.there b o e hx
      exact ⟨o', (hs.2 b (Nat.ne_of_lt (Nat.lt_of_lt_of_le (Heap.lt_size e) I.ok.above))).trans e1⟩
    · by_cases hj : j = i
      · subst hj
        rw [hi] at e1; cases e1
        rw [List.getElem?_set_self hiσ] at e2
        cases e2
        exact ⟨u, r, .inl ⟨hk, by simp⟩⟩
      · rw [List.getElem?_set_ne (Ne.symm hj)] at e2
        obtain ⟨u', r', q⟩ := hl j y v' e1 e2 e3
        refine ⟨u', r', ?_⟩
        rcases q with ⟨k, e⟩ | ⟨k, c, e, z⟩
        · refine .inl ⟨k, ?_⟩
          have : y ≠ x := fun e => hj (nodup_ix hN e1 (e ▸ hi))
          simp [this, e]
        · exact .inr ⟨k, c, e, z.sameBut hs (cne y c e)⟩
    · obtain ⟨w', z⟩ := I.cell y c e
      exact ⟨w', z.sameBut hs (cne y c e)⟩
    · obtain ⟨e, n, ne, nf, d⟩ := I.pin p hp
      exact ⟨(hs.2 p.1 ne).trans e, n, ne, nf, d⟩
  · have hfn : X.fn x = true := by
      rcases hf with z | z
      · exact z
      · rw [z] at hk; cases hk
    obtain ⟨c, hc⟩ := I.ok.has x (.inl hk)
    obtain ⟨w', z⟩ := I.cell x c hc
    refine wpAny_storeName_cell I.ok.kind hk hc z (fun h' hc' hs => ?_)
    obtain ⟨oc, hoc, hocd⟩ := id z
    refine h { s with heap := h' } ⟨I.ok, I.os, I.bare, ⟨fun b o e n hb hx => ?_, fun b o e n hb hx => ?_, I.base.free, fun b o e hx => ?_, I.base.tups, I.base.frzs, I.base.tbls⟩, ⟨m, hn.sameBut hs (Ne.symm (cne x c hc)), fun j y v' e1 e2 e3 => ?_⟩, fun y c' e => ?_, I.free, I.freeC, fun p hp => ?_, tracked ⟨oc, hoc, I.freeC x c hc⟩ hs, by simpa using I.len⟩ ⟨c, hs, .inr hc⟩
    · exact (hs.2 b (Nat.ne_of_lt (Nat.lt_of_lt_of_le (Heap.lt_size e) (I.ok.cab x c hfn hc)))).trans (I.base.keep b o e n hb hx)
    · obtain ⟨sl, e1⟩ := I.base.slot b o e n hb hx
      exact ⟨sl, (hs.2 b (Nat.ne_of_lt (Nat.lt_of_lt_of_le (Heap.lt_size e) (I.ok.cab x c hfn hc)))).trans e1⟩
    · obtain ⟨o', e1⟩ := I.base.there b o e hx
      exact ⟨o', (hs.2 b (Nat.ne_of_lt (Nat.lt_of_lt_of_le (Heap.lt_size e) (I.ok.cab x c hfn hc)))).trans e1⟩
    · by_cases hj : j = i
      · subst hj
        rw [hi] at e1; cases e1
        rw [List.getElem?_set_self hiσ] at e2
        cases e2
        exact ⟨u, r, .inr ⟨.inl hk, c, hc, hc'⟩⟩
      · rw [List.getElem?_set_ne (Ne.symm hj)] at e2
        obtain ⟨u', r', q⟩ := hl j y v' e1 e2 e3
        refine ⟨u', r', ?_⟩
        rcases q with q | ⟨k, c', e, z'⟩
        · exact .inl q
        · refine .inr ⟨k, c', e, z'.sameBut hs ?_⟩
          rintro rfl
          exact hj (nodup_ix hN e1 (I.ok.inj _ _ _ e hc ▸ hi))
    · by_cases hcc : c' = c
      · subst hcc; exact ⟨_, hc'⟩
      · obtain ⟨w2, z2⟩ := I.cell y c' e
        exact ⟨w2, z2.sameBut hs hcc⟩
    · obtain ⟨e, n, ne, nf, d⟩ := I.pin p hp
      refine ⟨(hs.2 p.1 ?_).trans e, n, ne, nf, d⟩
      intro q
      rw [q, hoc] at e
      have q' : oc = p.2 := Option.some.inj e
      exact d w' (by rw [← q']; exact hocd)
theorem store_ok {M : Model} {A : Around} {E : Value → Shared → Prop} {i : Nat} {x : Str} {v : V} {u : Value} {Q : Unit → Shared → Prop} (I : Inv X pins σ H s) (hN : X.N.Nodup) (hi : X.N[i]? = some x) (hx : Loc X.env.scope x) (r : RelV v u)
    (h : ∀ s', Inv X pins (σ.set i (some v)) H s' → Q () s') (hf : X.fn x = true ∨ X.env.scope.names.lookup x = some .local := by first | exact .inl rfl | exact .inr rfl | assumption) : wpAny M A (storeName X.env x u) Q E s :=
  store_ok2 I hN hi hx r (fun s' I' _ => h s' I') hf
/-- behind a call or a block, the state as it is -/
theorem Inv.call' {s' : Shared} {ch : List Addr} (I : Inv X pins σ H s) (ho : s'.os = s.os) (u : Un (frs X.stack) ch H H' s.heap s'.heap) (hok : HOk X.prog X.w H' s'.heap) (hg : AllBare s'.gens)
    (hch : ∀ b ∈ ch, (b ∈ X.ex ∨ X.s₀.heap.objs.size ≤ b) ∧ b ≠ X.env.locals ∧ (∀ x c, X.env.cells.lookup x = some c → c ≠ b) ∧ ∀ p ∈ X.pn ++ pins, p.1 ≠ b) : Inv X pins σ H' s' := by
  obtain ⟨h', g', d', t', o'⟩ := s'
  have e : o' = s.os := ho
  subst e
  exact I.call (g' := g') (t' := t') (d' := d') u hok hg hch
end

/-! ### the judgements -/
/-- an exception: its class, its own dict's address (where it has one), the abstract heap behind it -/
abbrev XK := Value → Option Addr → Hp → Prop
abbrev St := List (Option V)
abbrev VK := V → Hp → Prop
/-- an expression's reading; a test's; an argument list's -/
abbrev TE := St → Hp → VK → Prop
abbrev TT := St → Hp → (Bool → Hp → Prop) → Prop
abbrev TA := St → Hp → (List V → Hp → Prop) → Prop
/-- what is wanted behind a statement -/
structure Ends where
  nx : St → Hp → Prop
  rt : VK
  bk : St → Hp → Prop := fun _ _ => False
  ct : St → Hp → Prop := fun _ _ => False
abbrev TS := Ends → St → Hp → Prop

def EP (X : Cx) (pins : List (Addr × Obj)) (σ : St) (Q : VK) (u : Value) (s' : Shared) : Prop := ∃ v H', Inv X pins σ H' s' ∧ RelV v u ∧ Q v H'
def TP (X : Cx) (pins : List (Addr × Obj)) (σ : St) (Q : Bool → Hp → Prop) (b : Bool) (s' : Shared) : Prop := ∃ H', Inv X pins σ H' s' ∧ Q b H'
def AP (X : Cx) (pins : List (Addr × Obj)) (σ : St) (Q : List V → Hp → Prop) (us : List Value) (s' : Shared) : Prop := ∃ vs H', Inv X pins σ H' s' ∧ Vals vs us ∧ Q vs H'
def SP (X : Cx) (pins : List (Addr × Obj)) (D : Ends) (f : Flow) (s' : Shared) : Prop :=
  match f with
  | .next => ∃ σ' H', Inv X pins σ' H' s' ∧ D.nx σ' H'
  | .brk => ∃ σ' H', Inv X pins σ' H' s' ∧ D.bk σ' H'
  | .cont => ∃ σ' H', Inv X pins σ' H' s' ∧ D.ct σ' H'
  | .ret u => ∃ v σ' H', Inv X pins σ' H' s' ∧ RelV v u ∧ D.rt v H'

def PE (X : Cx) (e : Expr) (t : TE) : Prop :=
  ∀ (pins : List (Addr × Obj)) (s : Shared) (σ : St) (H : Hp) (Q : VK), Inv X pins σ H s → t σ H Q → wpAny (model X.prog X.w) X.A (eval e X.env) (EP X pins σ Q) X.xe s
def PT (X : Cx) (e : Expr) (t : TT) : Prop :=
  ∀ (pins : List (Addr × Obj)) (s : Shared) (σ : St) (H : Hp) (Q : Bool → Hp → Prop), Inv X pins σ H s → t σ H Q → wpAny (model X.prog X.w) X.A (isTrue e X.env (eval e X.env)) (TP X pins σ Q) X.xe s
/-- a test whatever its 'whole' is (and, or) -/
def PW (X : Cx) (e : Expr) (t : TT) : Prop :=
  ∀ (whole : Sem Value) (pins : List (Addr × Obj)) (s : Shared) (σ : St) (H : Hp) (Q : Bool → Hp → Prop), Inv X pins σ H s → t σ H Q → wpAny (model X.prog X.w) X.A (isTrue e X.env whole) (TP X pins σ Q) X.xe s
theorem PW.pt {X : Cx} {e : Expr} {t : TT} (h : PW X e t) : PT X e t := h _
/-- an argument list (no star), from the left -/
def PA (X : Cx) (es : List Expr) (t : TA) : Prop :=
  ∀ (pos : Pos) (pins : List (Addr × Obj)) (s : Shared) (σ : St) (H : Hp) (Q : List V → Hp → Prop), Inv X pins σ H s → t σ H Q → wpAny (model X.prog X.w) X.A (spliced (backTo pos (starEach es X.env))) (AP X pins σ Q) X.xe s
def PS (X : Cx) (st : Stmt) (t : TS) : Prop :=
  ∀ (pins : List (Addr × Obj)) (s : Shared) (σ : St) (H : Hp) (D : Ends), Inv X pins σ H s → t D σ H → wpAny (model X.prog X.w) X.A (exec st X.env) (SP X pins D) X.xe s
def PSs (X : Cx) (st : List Stmt) (t : TS) : Prop :=
  ∀ (pins : List (Addr × Obj)) (s : Shared) (σ : St) (H : Hp) (D : Ends), Inv X pins σ H s → t D σ H → wpAny (model X.prog X.w) X.A (execs st X.env) (SP X pins D) X.xe s
/-- weaken the end -/
theorem thn {α : Type} {t : Sem α} {Q Q' : α → Shared → Prop} {M : Model} {A : Around} {E : Value → Shared → Prop} {s : Shared} (h : wpAny M A t Q E s) (hQ : ∀ a s, Q a s → Q' a s) : wpAny M A t Q' E s := wpAny_mono h hQ fun _ _ x => x
end L2

namespace L2
open PySem PySem.Spec PyProof.Rows
section
variable {X : Cx}


/-! ### names and constants -/
def tVar (i : Nat) : TE := fun σ H Q => ∃ v, σ[i]? = some (some v) ∧ Q v H
def tC (v : V) : TE := fun _ H Q => Q v H
theorem pe_var {i : Nat} {x : Str} {pos : Pos} (hN : X.N[i]? = some x) (hv : Vis X.env.scope x) (hd : (x == ("__debug__" : Str)) = false := by decide) (hcd : (x == ("__classdict__" : Str)) = false := by decide) : PE X (.Name x pos) (tVar i) := by
  intro pins s σ H Q I h
  obtain ⟨v, e, h⟩ := h
  obtain ⟨m, hn, hl⟩ := I.loc
  obtain ⟨u, r, l⟩ := hl i x v hN e hv
  have fin : EP X pins σ Q u s := ⟨v, H, I, r, h⟩
  rcases l with ⟨hk, hm⟩ | ⟨hk, c, hc, hcell⟩
  · exact wpAny_Name (wpAny_loadName_local I.ok.kind hk hn hm fin) hd
  · rcases hk with hk | hk
    · exact wpAny_Name (wpAny_loadName_cell I.ok.kind hk hc hcell fin) hd
    · exact wpAny_Name (wpAny_loadName_free I.ok.kind hk hc hcell fin hcd) hd
theorem pe_int {i j pos} : PE X (.Constant (.int i) j pos) (tC (.int i)) := fun _ _ _ H _ I h => wpAny_Constant_int ⟨.int i, H, I.tok _, ⟨_, rfl⟩, h⟩
theorem pe_bl {b j pos} : PE X (.Constant (.bool b) j pos) (tC (.bl b)) := fun _ _ _ H _ I h => Constant_bool ⟨.bl b, H, I, rfl, h⟩
theorem pe_non {j pos} : PE X (.Constant .none j pos) (tC .non) := fun _ _ _ H _ I h => Constant_none ⟨.non, H, I, rfl, h⟩
theorem pe_str {x j pos} : PE X (.Constant (.str x) j pos) (tC (.str x)) := fun _ _ _ H _ I h => Calls.Constant_str ⟨.str x, H, I.tok _, ⟨_, rfl⟩, h⟩

/-- a global name of the def -/
def Gl (X : Cx) (x : Str) : Prop := X.env.kindOf x = some .globalImplicit
theorem ld_glob {E : Value → Shared → Prop} {pins : List (Addr × Obj)} {s : Shared} {σ : St} {H : Hp} {x : Str} {u : Value} {pos : Pos} {Q : Value → Shared → Prop} (I : Inv X pins σ H s) (hg : Gl X x) (hm : X.mg x = some u) (h : Q u s)
    (hd : (x == ("__debug__" : Str)) = false := by decide) : wpAny (model X.prog X.w) X.A (eval (.Name x pos) X.env) Q E s :=
  Calls.Name_function_global I.ok.kind hg (Calls.loadGlobal_global (by rw [I.ok.glob]; exact I.mod.glob.keeps I.bk) hm h) hd
theorem ld_blt {E : Value → Shared → Prop} {pins : List (Addr × Obj)} {s : Shared} {σ : St} {H : Hp} {x : Str} {u : Value} {pos : Pos} {Q : Value → Shared → Prop} (I : Inv X pins σ H s) (hg : Gl X x) (hm : X.mg x = none) (hv : bootBuiltins x = some u) (h : Q u s)
    (hn : x ≠ "__name__" := by decide) (hd : (x == ("__debug__" : Str)) = false := by decide) : wpAny (model X.prog X.w) X.A (eval (.Name x pos) X.env) Q E s := by
  obtain ⟨mb, h1, h2⟩ := I.mod.blt
  exact Calls.Name_function_global I.ok.kind hg (Calls.loadGlobal_builtin (by rw [I.ok.glob]; exact I.mod.glob.keeps I.bk) hm (by rw [I.ok.blt]; exact h1.keeps I.bk) ((h2 x hn).trans hv) h) hd
/-- a module's constant, a class, a function, as a value -/
theorem pe_glob {x : Str} {v : V} {u : Value} {pos : Pos} (hg : Gl X x) (hm : X.mg x = some u) (r : RelV v u) (hd : (x == ("__debug__" : Str)) = false := by decide) : PE X (.Name x pos) (tC v) :=
  fun _ _ _ H _ I h => ld_glob I hg hm ⟨v, H, I, r, h⟩ hd
theorem pe_bltn {x : Str} {v : V} {u : Value} {pos : Pos} (hg : Gl X x) (hm : X.mg x = none) (hv : bootBuiltins x = some u) (r : RelV v u) (hn : x ≠ "__name__" := by decide) (hd : (x == ("__debug__" : Str)) = false := by decide) : PE X (.Name x pos) (tC v) :=
  fun _ _ _ H _ I h => ld_blt I hg hm hv ⟨v, H, I, r, h⟩ hn hd

/-! ### arithmetic -/
variable {a b : Expr} {ta tb : TE} {pos : Pos}

/-! ### comparisons -/

/-! ### and, or, not -/
variable {tA tB' : TT} {rest : List Expr}
def tAnd (t u : TT) : TT := fun σ H Q => t σ H fun c H1 => if c = true then u σ H1 Q else Q false H1
def tOr (t u : TT) : TT := fun σ H Q => t σ H fun c H1 => if c = true then Q true H1 else u σ H1 Q
def tNot (t : TT) : TT := fun σ H Q => t σ H fun c H1 => Q (!c) H1
theorem pw_and1 (ha : PT X a tA) : PW X (.BoolOp .And [a] pos) tA := by
  intro wh pins s σ H Q I h
  refine isTrue_and (thn (ha pins s σ H Q I h) fun c s1 e => ?_)
  cases c with
  | true => exact isTrue_and_nil e
  | false => exact e
theorem pw_or1 (ha : PT X a tA) : PW X (.BoolOp .Or [a] pos) tA := by
  intro wh pins s σ H Q I h
  refine isTrue_or (thn (ha pins s σ H Q I h) fun c s1 e => ?_)
  cases c with
  | false => exact isTrue_or_nil e
  | true => exact e
theorem pw_and (ha : PT X a tA) (hb : PW X (.BoolOp .And (b :: rest) pos) tB') : PW X (.BoolOp .And (a :: b :: rest) pos) (tAnd tA tB') := by
  intro wh pins s σ H Q I h
  refine isTrue_and (thn (ha pins s σ H _ I h) fun c s1 ⟨H1, I1, q1⟩ => ?_)
  cases c with
  | true => exact hb wh pins s1 σ H1 Q I1 q1
  | false => exact ⟨H1, I1, q1⟩
theorem pw_or (ha : PT X a tA) (hb : PW X (.BoolOp .Or (b :: rest) pos) tB') : PW X (.BoolOp .Or (a :: b :: rest) pos) (tOr tA tB') := by
  intro wh pins s σ H Q I h
  refine isTrue_or (thn (ha pins s σ H _ I h) fun c s1 ⟨H1, I1, q1⟩ => ?_)
  cases c with
  | true => exact ⟨H1, I1, q1⟩
  | false => exact hb wh pins s1 σ H1 Q I1 q1
theorem pt_not (ha : PT X a tA) : PT X (.UnaryOp .Not a pos) (tNot tA) := by
  intro pins s σ H Q I h
  exact isTrue_not (ha pins s σ H (fun c H1 => Q (!c) H1) I h)
/-- .. as values (bools) -/
def tAndV (ta tb : TE) : TE := fun σ H Q => ta σ H fun x H1 => ∃ c, x = .bl c ∧ if c = true then tb σ H1 Q else Q (.bl false) H1
def tNotV (ta : TE) : TE := fun σ H Q => ta σ H fun x H1 => ∃ c, x = .bl c ∧ Q (.bl (!c)) H1
theorem pe_one {op} {t : TE} (h : PE X a t) : PE X (.BoolOp op [a] pos) t := fun pins s σ H Q I hw => BoolOp_one (h pins s σ H Q I hw)
theorem pe_and (ha : PE X a ta) (hb : PE X (.BoolOp .And (b :: rest) pos) tb) : PE X (.BoolOp .And (a :: b :: rest) pos) (tAndV ta tb) := by
  intro pins s σ H Q I h
  refine BoolOp_and (thn (ha pins s σ H _ I h) fun v s1 ⟨x, H1, I1, r1, q1⟩ => ?_)
  obtain ⟨c, rfl, q1⟩ := q1
  cases r1
  refine wpAny_truthy_bool ?_
  cases c with
  | true => exact hb pins s1 σ H1 Q I1 q1
  | false => exact ⟨.bl false, H1, I1, rfl, q1⟩
theorem pe_not (ha : PE X a ta) : PE X (.UnaryOp .Not a pos) (tNotV ta) := by
  intro pins s σ H Q I h
  refine UnaryOp_ (thn (ha pins s σ H _ I h) fun v s1 ⟨x, H1, I1, r1, q1⟩ => ?_)
  obtain ⟨c, rfl, q1⟩ := q1
  cases r1
  exact not_of (wpAny_truthy_bool ⟨.bl (!c), H1, I1, rfl, q1⟩)
/-- a if t else b -/
def tIf (t : TT) (ta tb : TE) : TE := fun σ H Q => t σ H fun c H1 => if c = true then ta σ H1 Q else tb σ H1 Q
theorem pe_ifExp {c : Expr} (hc : PT X c tA) (ha : PE X a ta) (hb : PE X b tb) : PE X (.IfExp c a b pos) (tIf tA ta tb) := by
  intro pins s σ H Q I h
  refine wpAny_IfExp (thn (hc pins s σ H _ I h) fun d s1 ⟨H1, I1, q1⟩ => ?_)
  cases d with
  | true => exact ha pins s1 σ H1 Q I1 q1
  | false => exact hb pins s1 σ H1 Q I1 q1
end
end L2

namespace L2
open PySem PySem.Spec PyProof.Rows

/-! ### a list, a tuple that is read: tracked, frozen, or an object of the module -/
def SqL (K : PySem.W.Frag) (H : Hp) (a : Addr) (xs : List V) : Prop :=
  Rd H a (.lst xs) ∨
    ∃ (o : Obj) (its : Array Value) (n : Nat), K.lookup a = some o ∧ o.cls = .type "list" ∧ o.dict = none ∧ o.data = .seq its n ∧ its.size ≤ sizeLine ∧ Vals xs its.toList
def SqT (K : PySem.W.Frag) (H : Hp) (a : Addr) (xs : List V) : Prop :=
  Rd H a (.tup xs) ∨
    ∃ (o : Obj) (its : Array Value) (n : Nat), K.lookup a = some o ∧ o.cls = .type "tuple" ∧ o.data = .seq its n ∧ its.size ≤ sizeLine ∧ Vals xs its.toList
def absV : Value → Option V
  | .none => some .non
  | .bool b => some (.bl b)
  | .int i _ => some (.int i)
  | .str x _ => some (.str x)
  | .bytes b _ => some (.byt b)
  | .float b _ => some (.flt b)
  | .ref a => some (.ref a)
  | .type n => some (.ty n)
  | _ => none
theorem RelV.abs {x : V} {u : Value} (r : RelV x u) : absV u = some x := by
  cases x with
  | non => cases r; rfl
  | bl _ => cases r; rfl
  | int _ => obtain ⟨t, rfl⟩ := r; rfl
  | str _ => obtain ⟨t, rfl⟩ := r; rfl
  | byt _ => obtain ⟨t, rfl⟩ := r; rfl
  | flt _ => obtain ⟨t, rfl⟩ := r; rfl
  | ref _ => cases r; rfl
  | ty _ => cases r; rfl
theorem RelV.inj {x y : V} {u : Value} (r : RelV x u) (q : RelV y u) : x = y := Option.some.inj (r.abs.symm.trans q.abs)
theorem Vals.inj : ∀ {xs ys : List V} {us : List Value}, Vals xs us → Vals ys us → xs = ys
  | _, _, _, .nil, .nil => rfl
  | _, _, _, .cons r t, .cons r' t' => by rw [r.inj r', Vals.inj t t']
section
variable {X : Cx} {pins : List (Addr × Obj)} {σ : St} {H : Hp} {s : Shared} {a : Addr} {xs ys : List V}
theorem SqL.of {K : PySem.W.Frag} (h : H a = some (.lst xs)) : SqL K H a xs := .inl (.inl h)
theorem SqT.of {K : PySem.W.Frag} (h : H a = some (.tup xs)) : SqT K H a xs := .inl (.inl h)
theorem Inv.list (I : Inv X pins σ H s) (h : SqL X.K H a xs) : ∃ its : List Value, Vals xs its ∧ PlainL s.heap a its.toArray ∧ xs.length ≤ sizeLine := by
  rcases h with h | ⟨o, its, n, hk, hc, hd, hs, hz, r⟩
  · obtain ⟨z, its, n, r, e⟩ := h.ok I.hok
    exact ⟨its, r, ⟨_, n, e, rfl, rfl, rfl⟩, z⟩
  · refine ⟨its.toList, r, ⟨o, n, I.kIn a o hk, hc, hd, by simpa using hs⟩, ?_⟩
    have e := r.length
    simp only [Array.length_toList] at e
    omega
theorem Inv.tuple (I : Inv X pins σ H s) (h : SqT X.K H a xs) : ∃ its : List Value, Vals xs its ∧ IsTup s.heap a its.toArray ∧ xs.length ≤ sizeLine := by
  rcases h with h | ⟨o, its, n, hk, hc, hs, hz, r⟩
  · obtain ⟨z, its, r, p⟩ := h.ok I.hok
    exact ⟨its, r, p, z⟩
  · refine ⟨its.toList, r, ⟨o, I.kIn a o hk, hc, n, by simpa using hs⟩, ?_⟩
    have e := r.length
    simp only [Array.length_toList] at e
    omega
theorem Inv.list_inj (I : Inv X pins σ H s) (h : SqL X.K H a xs) (h' : SqL X.K H a ys) : xs = ys := by
  obtain ⟨its, r, ⟨o, n, e, _, _, d⟩, _⟩ := I.list h
  obtain ⟨its', r', ⟨o', n', e', _, _, d'⟩, _⟩ := I.list h'
  rw [e] at e'; cases e'
  rw [d] at d'
  injection d' with d1 _
  have : its = its' := by simpa using congrArg Array.toList d1
  subst this
  exact r.inj r'
end

/-! ### another wish about exceptions -/
abbrev Cx.wish (X : Cx) (E : Value → Shared → Prop) : Cx := { X with xe := E }
/-- no exception leaves -/
abbrev Cx.nox (X : Cx) : Cx := X.wish fun _ _ => False
theorem Cx.Ok.wish {X : Cx} (ok : X.Ok) (E : Value → Shared → Prop) : (X.wish E).Ok :=
  ⟨ok.mod, ok.kind, ok.glob, ok.blt, ok.above, ok.inj, ok.has, ok.cab, ok.hd, ok.frames, ok.stk, ok.exf, ok.bs, ok.bsz, ok.noex, ok.exfs, ok.funs, ok.frf⟩
theorem Cx.Ok.unwish {X : Cx} {E : Value → Shared → Prop} (ok : (X.wish E).Ok) : X.Ok :=
  ⟨ok.mod, ok.kind, ok.glob, ok.blt, ok.above, ok.inj, ok.has, ok.cab, ok.hd, ok.frames, ok.stk, ok.exf, ok.bs, ok.bsz, ok.noex, ok.exfs, ok.funs, ok.frf⟩
section
variable {X : Cx} {pins : List (Addr × Obj)} {σ : St} {H : Hp} {s : Shared} {E : Value → Shared → Prop}
theorem Inv.wish (I : Inv X pins σ H s) (E : Value → Shared → Prop) : Inv (X.wish E) pins σ H s := ⟨I.ok.wish E, I.os, I.bare, I.base, I.loc, I.cell, I.free, I.freeC, I.pin, I.hok, I.len⟩
theorem Inv.unwish (I : Inv (X.wish E) pins σ H s) : Inv X pins σ H s := ⟨I.ok.unwish, I.os, I.bare, I.base, I.loc, I.cell, I.free, I.freeC, I.pin, I.hok, I.len⟩
theorem SP.unwish {D : Ends} {f : Flow} {s' : Shared} (h : SP (X.wish E) pins D f s') : SP X pins D f s' := by
  cases f with
  | next => obtain ⟨σ', H', I, q⟩ := h; exact ⟨σ', H', I.unwish, q⟩
  | brk => obtain ⟨σ', H', I, q⟩ := h; exact ⟨σ', H', I.unwish, q⟩
  | cont => obtain ⟨σ', H', I, q⟩ := h; exact ⟨σ', H', I.unwish, q⟩
  | ret u => obtain ⟨v, σ', H', I, r, q⟩ := h; exact ⟨v, σ', H', I.unwish, r, q⟩
theorem PSs.nox {st : List Stmt} {t : TS} (h : PSs X.nox st t) : PSs X st t := fun pins s σ H D I hw =>
  wpAny_mono (h pins s σ H D (I.wish _) hw) (fun _ _ q => q.unwish) fun _ _ z => False.elim z
end

/-! ### blocks and small statements -/
section
variable {X : Cx} {st : Stmt} {rest : List Stmt} {t u : TS} {e : Expr} {te : TE} {pos : Pos}
def tNext : TS := fun D σ H => D.nx σ H
def tSeq (t u : TS) : TS := fun D σ H => t { D with nx := u D } σ H
theorem pss_nil : PSs X [] tNext := fun _ _ σ H _ I h => wpAny_execs_nil ⟨σ, H, I, h⟩
theorem pss_cons (h1 : PS X st t) (h2 : PSs X rest u) : PSs X (st :: rest) (tSeq t u) := by
  intro pins s σ H D I h
  refine wpAny_execs_cons (thn (h1 pins s σ H { D with nx := u D } I h) fun f s1 q => ?_)
  cases f with
  | next =>
    obtain ⟨σ', H', I', q⟩ := q
    exact h2 pins s1 σ' H' D I' q
  | ret v => exact q
  | brk => exact q
  | cont => exact q
theorem pss_one (h1 : PS X st t) : PSs X [st] t := by
  intro pins s σ H D I h
  refine wpAny_execs_cons (thn (h1 pins s σ H D I h) fun f s1 q => ?_)
  cases f with
  | next => exact wpAny_execs_nil q
  | ret v => exact q
  | brk => exact q
  | cont => exact q
/-- in a def's body nothing is shown -/
theorem Inv.quiet {pins : List (Addr × Obj)} {σ : St} {H : Hp} {s : Shared} (I : Inv X pins σ H s) : interactive X.env = false := by simp [interactive, I.ok.kind]
/-- an expression whose value is dropped -/
def tDrop (te : TE) : TS := fun D σ H => te σ H fun _ H1 => D.nx σ H1
theorem ps_expr (he : PE X e te) (hs : swapsWith e none pos.line X.env = pure false := by rfl) : PS X (.Expr e pos) (tDrop te) := by
  intro pins s σ H D I h
  exact wpAny_Expr_any (thn (he pins s σ H _ I h) fun v s1 ⟨x, H1, I1, r1, q1⟩ => ⟨σ, H1, I1, q1⟩) I.quiet hs
def tRet (te : TE) : TS := fun D σ H => te σ H D.rt
theorem ps_ret (he : PE X e te) : PS X (.Return (some e) pos) (tRet te) := by
  intro pins s σ H D I h
  exact wpAny_Return_some (thn (he pins s σ H _ I h) fun v s1 ⟨x, H1, I1, r1, q1⟩ => ⟨x, σ, H1, I1, r1, q1⟩)
def tIfS (c : TT) (t u : TS) : TS := fun D σ H => c σ H fun b H1 => if b = true then t D σ H1 else u D σ H1
theorem ps_if {c : Expr} {a b : List Stmt} {tc : TT} (hc : PT X c tc) (ha : PSs X a t) (hb : PSs X b u) : PS X (.If c a b pos) (tIfS tc t u) := by
  intro pins s σ H D I h
  refine wpAny_If (thn (hc pins s σ H _ I h) fun d s1 ⟨H1, I1, q1⟩ => ?_)
  cases d with
  | true => exact ha pins s1 σ H1 D I1 q1
  | false => exact hb pins s1 σ H1 D I1 q1
/-- code that the proof never comes to -/
def tNever : TS := fun _ _ _ => False
theorem ps_never : PS X st tNever := fun _ _ _ _ _ _ h => h.elim
end

/-! ### targets -/
abbrev TG := V → St → Hp → (St → Hp → Prop) → Prop
abbrev TGs := List V → St → Hp → (St → Hp → Prop) → Prop
def PG (X : Cx) (target : Expr) (t : TG) : Prop :=
  ∀ (pins : List (Addr × Obj)) (s : Shared) (σ : St) (H : Hp) (v : V) (u : Value) (Q : St → Hp → Prop), Inv X pins σ H s → RelV v u → t v σ H Q →
    wpAny (model X.prog X.w) X.A (assign target X.env u) (fun _ s' => ∃ σ' H', Inv X pins σ' H' s' ∧ Q σ' H') X.xe s
/-- several targets, one after another -/
def PGs (X : Cx) (ts : List Expr) (t : TGs) : Prop :=
  ∀ (pins : List (Addr × Obj)) (s : Shared) (σ : St) (H : Hp) (vs : List V) (us : List Value) (Q : St → Hp → Prop), Inv X pins σ H s → Vals vs us → t vs σ H Q →
    wpAny (model X.prog X.w) X.A (assignInOrder ((assignEach ts X.env).map (·.2)) us) (fun _ s' => ∃ σ' H', Inv X pins σ' H' s' ∧ Q σ' H') X.xe s
section
variable {X : Cx} {pos : Pos}
def gName (i : Nat) : TG := fun v σ H Q => Q (σ.set i (some v)) H
theorem pg_name {i : Nat} {x : Str} (hN : X.N.Nodup) (hi : X.N[i]? = some x) (hx : Loc X.env.scope x) (hf : X.fn x = true ∨ X.env.scope.names.lookup x = some .local := by first | exact .inl rfl | exact .inr rfl | assumption) : PG X (.Name x pos) (gName i) := by
  intro pins s σ H v u Q I r h
  exact wpAny_assign_Name (store_ok I hN hi hx r (fun s' I' => ⟨_, H, I', h⟩) hf)
def gNil : TGs := fun vs σ H Q => vs = [] ∧ Q σ H
def gCons (t : TG) (u : TGs) : TGs := fun vs σ H Q => ∃ v r, vs = v :: r ∧ t v σ H fun σ' H' => u r σ' H' Q
theorem pgs_nil : PGs X [] gNil := by
  intro pins s σ H vs us Q I r h
  obtain ⟨e, h⟩ := h
  subst e
  cases r
  exact assignInOrder_nil ⟨σ, H, I, h⟩
theorem pgs_cons {e : Expr} {es : List Expr} {t : TG} {u : TGs} (h1 : PG X e t) (h2 : PGs X es u)
    (hs : (assignEach (e :: es) X.env).map (·.2) = assign e X.env :: (assignEach es X.env).map (·.2) := by rfl) : PGs X (e :: es) (gCons t u) := by
  intro pins s σ H vs us Q I r h
  obtain ⟨v, vr, e1, h⟩ := h
  subst e1
  cases r with
  | cons r rr =>
    rw [hs]
    refine assignInOrder_cons (thn (h1 pins s σ H _ _ _ I r h) fun _ s1 ⟨σ1, H1, I1, q1⟩ => ?_)
    exact h2 pins s1 σ1 H1 _ _ Q I1 rr q1
/-- (a, b, ..) = a tuple of that length -/
def gTup (K : PySem.W.Frag) (n : Nat) (t : TGs) : TG := fun v σ H Q => ∃ a xs, v = .ref a ∧ SqT K H a xs ∧ xs.length = n ∧ t xs σ H Q
theorem pg_tup {es : List Expr} {k : Nat} {t : TGs} {n : Nat} (hc : X.calm = true) (h : PGs X es t)
    (hn : (assignEach es X.env).length = n := by rfl) (hst : (assignEach es X.env).findIdx? (·.1) = none := by rfl) : PG X (.Tuple es k pos) (gTup X.K n t) := by
  intro pins s σ H v u Q I r hw
  obtain ⟨a, xs, e1, hq, hl, hw⟩ := hw
  subst e1
  cases r
  obtain ⟨its, rv, ht, hz⟩ := I.tuple hq
  refine assign_Tuple_tuple (I.ok.hd hc) ht (by simp [hn, ← hl, rv.length]) hst fun h' hx => ?_
  have I1 : Inv X pins σ H { s with heap := h' } := I.kept (t' := s.toks) fun b o e => hx b o (Nat.ne_of_lt (Heap.lt_size e)) e
  exact h pins _ σ H xs _ Q I1 (by simpa using rv) hw
/-- target = value -/
def tAsg (te : TE) (g : TG) : TS := fun D σ H => te σ H fun x H1 => g x σ H1 D.nx
theorem ps_asg {tg e : Expr} {te : TE} {g : TG} (he : PE X e te) (hg : PG X tg g) (hs : swapsWithSole [tg] e pos.line X.env = pure false := by rfl) (hw : swappedStores [tg] e X.env = pure none := by rfl)
    (h1 : (assignEach [tg] X.env).map (·.2) = [assign tg X.env] := by rfl) : PS X (.Assign [tg] e pos) (tAsg te g) := by
  intro pins s σ H D I h
  refine wpAny_Assign_stores (thn (he pins s σ H _ I h) fun v s1 ⟨x, H1, I1, r1, q1⟩ => ?_) hs hw
  rw [h1]
  exact thn (hg pins s1 σ H1 x v _ I1 r1 q1) fun _ s2 q => q
/-- name = value -/
theorem ps_set {i : Nat} {x : Str} {e : Expr} {te : TE} {pos' : Pos} (hN : X.N.Nodup) (hi : X.N[i]? = some x) (hx : Loc X.env.scope x) (he : PE X e te) (hs : swapsWith e (some (.Name x pos')) pos.line X.env = pure false := by rfl) (hf : X.fn x = true ∨ X.env.scope.names.lookup x = some .local := by first | exact .inl rfl | exact .inr rfl | assumption) :
    PS X (.Assign [.Name x pos'] e pos) (tAsg te (gName i)) := by
  intro pins s σ H D I h
  refine wpAny_Assign_Name (thn (he pins s σ H _ I h) fun v s1 ⟨y, H1, I1, r1, q1⟩ => ?_) hs
  exact store_ok I1 hN hi hx r1 (fun s2 I2 => ⟨_, H1, I2, q1⟩) hf
/-- a, b = x, y with plain local names: stored from the right; the pair itself is not tracked (the opening rows as in PyProof/Rows/TupAssign.lean:23) -/
def tPar (i j : Nat) (ta : TA) : TS := fun D σ H => ta σ H fun vs H1 => ∃ v w, vs = [v, w] ∧ D.nx ((σ.set i (some v)).set j (some w)) H1
theorem ps_par {i j : Nat} {x y : Str} {a b : Expr} {ta : TA} {px py pt : Pos} {kt k2 pt2} (hc : X.calm = true) (hN : X.N.Nodup) (hi : X.N[i]? = some x) (hj : X.N[j]? = some y) (hij : i ≠ j)
    (hx : X.env.scope.names.lookup x = some .local) (hy : X.env.scope.names.lookup y = some .local) (ha : PA X [a, b] ta)
    (hw : swappedStores [.Tuple [.Name x px, .Name y py] kt pt] (.Tuple [a, b] k2 pt2) X.env = pure (some [x, y]))
    (hs : swapsWithSole [.Tuple [.Name x px, .Name y py] kt pt] (.Tuple [a, b] k2 pt2) pos.line X.env = pure false := by rfl) :
    PS X (.Assign [.Tuple [.Name x px, .Name y py] kt pt] (.Tuple [a, b] k2 pt2) pos) (tPar i j ta) := by
  intro pins s σ H D I h
  rw [exec_Assign_arm]
  refine wpAny_bind (wpAny_standAt ?_)
  rw [hs]
  refine wpAny_bind (wpAny_pure ?_)
  rw [if_neg (by decide)]
  refine wpAny_bind (Tuple_ (thn (ha _ pins s σ H _ I h) fun us s1 ⟨vs, H1, I1, r1, q1⟩ => ?_))
  obtain ⟨v, w, e1, q1⟩ := q1
  subst e1
  obtain ⟨u1, u2, rfl, rv, rw'⟩ : ∃ u1 u2, us = [u1, u2] ∧ RelV v u1 ∧ RelV w u2 := by
    cases r1 with
    | cons p q =>
      cases q with
      | cons p' q' =>
        cases q'
        exact ⟨_, _, rfl, p, p'⟩
  refine wpAny_newObj_type ?_ (by show 2 ≤ sizeLine; decide)
  have I2 : Inv X pins σ H1 { s1 with heap := s1.heap.push { cls := .type "tuple", data := .seq [u1, u2].toArray } } := I1.kept (t' := s1.toks) fun b o e => Heap.get?_push_of_some _ e
  rw [hw]
  refine wpAny_bind (wpAny_pure ?_)
  show wpAny (model X.prog X.w) X.A (do rule "assign.swapped-stores"; let items ← unpackItems (.ref s1.heap.objs.size) 2 none; assignInOrder [fun v => bindName X.env y v, fun v => bindName X.env x v] items.reverse; pure Flow.next) _ _ _
  refine wpAny_bind (wpAny_rule (wpAny_bind (unpackItems_tuple (items := #[u1, u2]) (I.ok.hd hc) (IsTup.new s1.heap _) fun h' hx' => ?_)))
  have I3 := I2.kept (h' := h') (t' := s1.toks) fun b o e => hx' b o (Nat.ne_of_lt (Heap.lt_size e)) e
  show wpAny _ _ (assignInOrder [fun v => bindName X.env y v, fun v => bindName X.env x v] [u2, u1] >>= fun _ => pure Flow.next) _ _ _
  refine wpAny_bind (assignInOrder_cons (wpAny_bindName (store_ok I3 hN hj (.inl hy) rw' (fun s2 I4 => ?_) (.inr hy))))
  refine assignInOrder_cons (wpAny_bindName (store_ok I4 hN hi (.inl hx) rv (fun s3 I5 => assignInOrder_nil (wpAny_pure ?_)) (.inr hx)))
  rw [List.set_comm _ _ (Ne.symm hij)] at I5
  exact ⟨_, H1, I5, q1⟩
end

/-! ### while -/
section
variable {X : Cx} {pos : Pos}
end

/-! ### what a loop or a comprehension walks -/
/-- at turn i: it yields x (the heap may grow), or it stops -/
structure It where
  go : Nat → Hp → Prop
  yld : Nat → Hp → V → Hp → Prop
  stop : Nat → Hp → Prop
/-- the iterator's own objects may turn: they are not the frame's, not pinned, younger than the entry (or a comprehension's own) -/
def FpOk (X : Cx) (pins : List (Addr × Obj)) (H : Hp) (b : Addr) : Prop :=
  H b = none ∧ b ≠ X.env.locals ∧ b ∉ X.fs ∧ (b ∈ X.ex ∨ X.s₀.heap.objs.size ≤ b) ∧ (∀ x c, X.env.cells.lookup x = some c → c ≠ b) ∧ ∀ p ∈ X.pn ++ pins, p.1 ≠ b
theorem Inv.fpOk {X : Cx} {pins : List (Addr × Obj)} {σ : St} {H H' : Hp} {s : Shared} {b : Addr} (I : Inv X pins σ H s) (hb : s.heap.objs.size ≤ b) (hn : H' b = none) : FpOk X pins H' b := by
  refine ⟨hn, Nat.ne_of_gt (Nat.lt_of_lt_of_le I.lt hb), I.nofs hb, .inr (Nat.le_trans I.sz hb), fun x c e z => ?_, fun p hp z => ?_⟩
  · obtain ⟨v, q⟩ := I.cell x c e
    exact absurd (Nat.lt_of_lt_of_le q.lt (by rw [z]; exact hb)) (Nat.lt_irrefl _)
  · exact absurd (Nat.lt_of_lt_of_le (Heap.lt_size (I.pin p hp).1) (by rw [z]; exact hb)) (Nat.lt_irrefl _)
structure Turn (P : Program) (w : World) (K : PySem.W.Frag) (tg : Expr) (J : It) (fp : List Addr) (it : Addr) (tn : Nat → Heap → Prop) : Prop where
  mem : it ∈ fp
  obj : ∀ i h, tn i h → ∀ b ∈ fp, ∃ o, h.get? b = some o ∧ ∀ v, o.data ≠ .cell v
  keep : ∀ i h h', tn i h → (∀ b ∈ fp, ∀ o, h.get? b = some o → h'.get? b = some o) → tn i h'
  item : ∀ (X : Cx), X.prog = P → X.w = w → X.K = K → X.calm = true → ∀ (i : Nat) (pins : List (Addr × Obj)) (s : Shared) (σ : St) (H : Hp) (E : Value → Shared → Prop), Inv X pins σ H s → (∀ b ∈ fp, FpOk X pins H b) → tn i s.heap → J.go i H →
    wpAny (model P w) X.A (pyNext (.ref it)) (fun r s1 => ∃ u, r = some u ∧
      wpAny (model P w) X.A (letOwnedTupleGo tg (.ref it) u) (fun _ s2 => ∃ x H', Inv X pins σ H' s2 ∧ RelV x u ∧ J.yld i H x H' ∧ tn (i + 1) s2.heap ∧ ∀ b ∈ fp, H' b = none) E s1) E s
  done : ∀ (X : Cx), X.prog = P → X.w = w → X.K = K → X.calm = true → ∀ (i : Nat) (pins : List (Addr × Obj)) (s : Shared) (σ : St) (H : Hp) (E : Value → Shared → Prop), Inv X pins σ H s → (∀ b ∈ fp, FpOk X pins H b) → tn i s.heap → J.stop i H →
    wpAny (model P w) X.A (pyNext (.ref it)) (fun r s1 => r = none ∧ Inv X pins σ H s1) E s
  self : ∀ (A : Around) (i : Nat) (s : Shared) (Q : Value → Shared → Prop) (E : Value → Shared → Prop), tn i s.heap → Q (.ref it) s → wpAny (model P w) A (pyIter (.ref it)) Q E s
abbrev TI := St → Hp → (It → Hp → Prop) → Prop
/-- an iterator has come -/
def PIE (X : Cx) (pins : List (Addr × Obj)) (σ : St) (tg : Expr) (R : It → Hp → Prop) (itv : Value) (s2 : Shared) : Prop :=
  ∃ (it : Addr) (fp : List Addr) (tn : Nat → Heap → Prop) (J : It) (H' : Hp), itv = .ref it ∧ Inv X pins σ H' s2 ∧ Turn X.prog X.w X.K tg J fp it tn ∧ tn 0 s2.heap ∧ (∀ b ∈ fp, FpOk X pins H' b) ∧ R J H'
def PI (X : Cx) (tg iter : Expr) (wi : TI) : Prop :=
  ∀ (pins : List (Addr × Obj)) (s : Shared) (σ : St) (H : Hp) (R : It → Hp → Prop), Inv X pins σ H s → wi σ H R →
    wpAny (model X.prog X.w) X.A (eval iter X.env) (fun v s1 => wpAny (model X.prog X.w) X.A (pyIter v) (PIE X pins σ tg R) X.xe s1) X.xe s

/-- the step ahead of the store is nothing for an iterator that keeps no tuple -/
theorem go_of {M : Model} {A : Around} {E : Value → Shared → Prop} {s : Shared} {tg : Expr} {it : Addr} {u : Value} {o : Obj} {n : String} {vs : Array Value} {Q : Unit → Shared → Prop} (ho : s.heap.get? it = some o) (hc : o.cls = .type n) (hd : o.data = .fields vs)
    (hn : ["enumerate", "zip", "dict_itemiterator", "dict_reverseitemiterator", "odict_iterator", "itertools.zip_longest", "itertools.pairwise"].contains n = false) (hQ : Q () s) : wpAny M A (letOwnedTupleGo tg (.ref it) u) Q E s := by
  unfold letOwnedTupleGo
  cases tg <;> first
    | exact wpAny_pure hQ
    | (cases u <;> first
        | exact wpAny_pure hQ
        | (refine wpAny_bind (wpAny_load ho ?_)
           rw [hc, hd]
           show wpAny M A (if (["enumerate", "zip", "dict_itemiterator", "dict_reverseitemiterator", "odict_iterator", "itertools.zip_longest", "itertools.pairwise"].contains n && vs[0]? == some (rawInt _)) = true then _ else _) Q E s
           rw [if_neg (by intro h; rw [hn, Bool.false_and] at h; cases h)]
           exact wpAny_pure hQ))

/-- the list at a, as it stands at each turn (a loop may append to it) -/
def Itl (K : PySem.W.Frag) (a : Addr) : It :=
  ⟨fun i H => ∃ xs x, SqL K H a xs ∧ xs[i]? = some x, fun i H x H' => H' = H ∧ ∀ xs, SqL K H a xs → xs[i]? = some x, fun i H => ∃ xs, SqL K H a xs ∧ xs.length ≤ i⟩
/-- lo, lo + 1, .. (n of them) -/
def Itr (lo : Int) (n : Nat) : It := ⟨fun i _ => i < n, fun i H x H' => H' = H ∧ x = .int (lo + i), fun i _ => n ≤ i⟩
theorem turn_list {P : Program} {w : World} {K : PySem.W.Frag} {tg : Expr} (a it : Addr) : Turn P w K tg (Itl K a) [it] it (fun i h => h.IsListIter it a i) where
  mem := by simp
  obj := fun i h st b hb => by
    have e : b = it := by simpa using hb
    subst e
    obtain ⟨o, e, c, d⟩ := st
    exact ⟨o, e, fun v z => by rw [d] at z; cases z⟩
  keep := fun i h h' st k => st.at fun o e => k it (by simp) o e
  item := by
    intro X hP hw hK hc i pins s σ H E I hf st hg
    subst hP hw hK
    obtain ⟨xs, x, hq, hx⟩ := hg
    obtain ⟨its, rv, p, hz⟩ := I.list hq
    obtain ⟨u, hu, ru⟩ := rv.get hx
    obtain ⟨f0, f1, f2, f3, f4, f5⟩ := hf it (by simp)
    refine wpAny_pyNext_list_item st p.isList (x := u) (by simpa using hu) fun h' st' sb => ?_
    have I1 : Inv X pins σ H { s with heap := h' } := I.turned (t' := s.toks) (fun b o hb e => (sb.2 b hb).trans e) f0 f1 f3 f4 f5
    obtain ⟨o, e, c, d⟩ := id st'
    exact ⟨u, rfl, go_of (s := { s with heap := h' }) e c d (by decide) ⟨x, H, I1, ru, ⟨rfl, fun ys hy => by rw [I.list_inj hy hq]; exact hx⟩, st', fun b hb => (hf b hb).1⟩⟩
  done := by
    intro X hP hw hK hc i pins s σ H E I hf st hg
    subst hP hw hK
    obtain ⟨xs, hq, hx⟩ := hg
    obtain ⟨its, rv, p, hz⟩ := I.list hq
    obtain ⟨f0, f1, f2, f3, f4, f5⟩ := hf it (by simp)
    have hl := rv.length
    exact wpAny_pyNext_list_end (I.ok.hd hc) st p.isList (by simp; omega) fun h' eb => ⟨rfl, I.turned (t' := s.toks) (fun b o hb e => eb b o hb e) f0 f1 f3 f4 f5⟩
  self := fun _ _ _ _ _ st h => wpAny_pyIter_listiter st h
theorem turn_range {P : Program} {w : World} {K : PySem.W.Frag} {tg : Expr} (it : Addr) (lo : Int) (n : Nat) : Turn P w K tg (Itr lo n) [it] it (fun i h => IsRangeIter h it (lo + (i : Nat) * 1) ((n : Int) - (i : Nat)) 1) where
  mem := by simp
  obj := fun i h st b hb => by
    have e : b = it := by simpa using hb
    subst e
    exact ⟨_, st, fun v z => by
      have z' : Data.fields _ = Data.cell v := z
      cases z'⟩
  keep := fun i h h' st k => k it (by simp) _ st
  item := by
    intro X hP hw hK hc i pins s σ H E I hf st hg
    subst hP hw hK
    obtain ⟨f0, f1, f2, f3, f4, f5⟩ := hf it (by simp)
    have W := Walks.range (prog := X.prog) (w := X.w) (I.ok.hd hc) it lo 1 n
    refine W.item i s _ _ hg st fun v h' tk hv st' kk => ?_
    obtain ⟨t, rfl⟩ := hv
    have I1 : Inv X pins σ H { s with heap := h', toks := tk } := I.turned (fun b o hb e => kk b o (by simpa using hb) e) f0 f1 f3 f4 f5
    refine ⟨_, rfl, go_of (s := { s with heap := h', toks := tk }) (n := "range_iterator") st' rfl rfl (by decide) ⟨.int (lo + i), H, I1, ⟨t, ?_⟩, ⟨rfl, rfl⟩, st', fun b hb => (hf b hb).1⟩⟩
    rw [Int.mul_one]
  done := by
    intro X hP hw hK hc i pins s σ H E I hf st hg
    subst hP hw hK
    obtain ⟨f0, f1, f2, f3, f4, f5⟩ := hf it (by simp)
    exact wpAny_pyNext_range_end (I.ok.hd hc) st (by have : n ≤ i := hg; omega) fun h' eb => ⟨rfl, I.turned (t' := s.toks) (fun b o hb e => eb b o hb e) f0 f1 f3 f4 f5⟩
  self := fun _ _ _ _ _ st h => wpAny_pyIter_rangeiter st h
end L2

namespace L2
open PySem PySem.Spec PyProof.Rows
section
variable {X : Cx} {tg : Expr}
def iList (K : PySem.W.Frag) (tl : TE) : TI := fun σ H R => tl σ H fun x H1 => ∃ a, x = .ref a ∧ (∃ xs, SqL K H1 a xs) ∧ R (Itl K a) H1
theorem pi_list {l : Expr} {tl : TE} (hl : PE X l tl) : PI X tg l (iList X.K tl) := by
  intro pins s σ H R I h
  refine thn (hl pins s σ H _ I h) fun v s1 ⟨x, H1, I1, r1, q1⟩ => ?_
  obtain ⟨a, e, ⟨xs, hq⟩, q⟩ := q1
  subst e
  cases r1
  obtain ⟨its, rv, p, hz⟩ := I1.list hq
  refine wpAny_pyIter_list p.isList ?_
  refine ⟨s1.heap.objs.size, [s1.heap.objs.size], _, _, H1, rfl, I1.kept (t' := s1.toks) fun b o e => Heap.get?_push_of_some _ e, turn_list a _, ⟨_, Heap.get?_push_size _ rfl, rfl, rfl⟩, fun b hb => ?_, q⟩
  have e : b = s1.heap.objs.size := by simpa using hb
  subst e
  exact I1.fpOk (Nat.le_refl _) (I1.hok.fresh (Nat.le_refl _))
/-- a range object just made, walked -/
theorem range_it {pins : List (Addr × Obj)} {σ : St} {H : Hp} {s : Shared} {R : It → Hp → Prop} {E : Value → Shared → Prop} {lo hi : Int} {t u v : Tok} {tk : Nat} (I : Inv X pins σ H s) (h1 : -(2 ^ 62) ≤ lo) (h2 : lo < 2 ^ 62) (h3 : -(2 ^ 62) ≤ hi) (h4 : hi < 2 ^ 62)
    (q : R (Itr lo (hi - lo).toNat) H) : wpAny (model X.prog X.w) X.A (pyIter (.ref s.heap.objs.size)) (PIE X pins σ tg R) E { s with heap := s.heap.push { cls := .type "range", data := .fields #[.int lo t, .int hi u, .int 1 v] }, toks := tk } := by
  refine wpAny_pyIter_range (IsRange.new ..) (small_one h1 h2 h3 h4) ?_
  have I1 : Inv X pins σ H { s with heap := s.heap.push { cls := .type "range", data := .fields #[.int lo t, .int hi u, .int 1 v] }, toks := tk } := I.kept fun b o e => Heap.get?_push_of_some _ e
  refine ⟨(s.heap.push { cls := .type "range", data := .fields #[.int lo t, .int hi u, .int 1 v] }).objs.size, [(s.heap.push { cls := .type "range", data := .fields #[.int lo t, .int hi u, .int 1 v] }).objs.size], _, _, H, rfl,
    I1.kept (t' := tk) fun b o e => Heap.get?_push_of_some _ e, turn_range _ lo (hi - lo).toNat, ?_, fun b hb => ?_, q⟩
  · have e1 : lo + ((0 : Nat) : Int) * 1 = lo := by simp
    have e2 : (((hi - lo).toNat : Nat) : Int) - ((0 : Nat) : Int) = Builtin.Range.rangeSize lo hi 1 := by rw [rangeSize_one]; split <;> omega
    show IsRangeIter _ _ (lo + ((0 : Nat) : Int) * 1) ((((hi - lo).toNat : Nat) : Int) - ((0 : Nat) : Int)) 1
    rw [e1, e2]
    exact Heap.get?_push_size _ rfl
  · have e : b = (s.heap.push { cls := .type "range", data := .fields #[.int lo t, .int hi u, .int 1 v] }).objs.size := by simpa using hb
    subst e
    exact I1.fpOk (Nat.le_refl _) (I1.hok.fresh (Nat.le_refl _))
def iRng1 (ta : TA) : TI := fun σ H R => ta σ H fun vs H1 => ∃ j : Int, vs = [.int j] ∧ -(2 ^ 62) ≤ j ∧ j < 2 ^ 62 ∧ R (Itr 0 j.toNat) H1
theorem pi_range1 {a : Expr} {ta : TA} {p pos : Pos} (hg : Gl X "range") (hm : X.mg "range" = none) (ha : PA X [a] ta) (hs : starEach [a] X.env = [(false, eval a X.env)] := by rfl) : PI X tg (.Call (.Name "range" p) [a] [] pos) (iRng1 ta) := by
  intro pins s σ H R I h
  refine Call_ (ld_blt I hg hm boot_range (PyProof.Rows.callWith_type1 (thn (ha pos pins s σ H _ I h) fun us s1 ⟨vs, H1, I1, r1, q1⟩ => ?_) hs rfl))
  obtain ⟨j, e, q1, q2, q⟩ := q1
  subst e
  cases r1 with
  | cons r rr =>
    cases rr
    obtain ⟨t, rfl⟩ := r
    exact call_range_1 (range_it I1 (by omega) (by omega) q1 q2 (by simpa using q))

/-! ### for -/
/-- W: the invariant by the turn and a measure; N: what the body is to reach -/
def tFor (wi : TI) (g : TG) (tb : TS) : TS := fun D σ H => wi σ H fun J H1 => ∃ W : Nat → Nat → St → Hp → Prop, (∃ m, W 0 m σ H1) ∧ ∀ i m σ H, W i m σ H →
  (J.stop i H ∧ D.nx σ H) ∨ (J.go i H ∧ ∃ N : St → Hp → Prop, (∀ σ' H', N σ' H' → ∃ m', m' < m ∧ W (i + 1) m' σ' H') ∧ ∀ x H', J.yld i H x H' → g x σ H' fun σ2 H2 => tb { D with nx := N, ct := N, bk := D.nx } σ2 H2)
/-- the records at fp as they stand -/
def pinsAt (fp : List Addr) (h : Heap) : List (Addr × Obj) := fp.filterMap fun b => (h.get? b).map fun o => (b, o)
theorem mem_pinsAt {fp : List Addr} {h : Heap} {b : Addr} {o : Obj} (hb : b ∈ fp) (e : h.get? b = some o) : (b, o) ∈ pinsAt fp h := List.mem_filterMap.mpr ⟨b, hb, by rw [e]; rfl⟩
theorem of_pinsAt {fp : List Addr} {h : Heap} {p : Addr × Obj} (hp : p ∈ pinsAt fp h) : p.1 ∈ fp ∧ h.get? p.1 = some p.2 := by
  obtain ⟨b, hb, e⟩ := List.mem_filterMap.mp hp
  cases q : h.get? b with
  | none => rw [q] at e; cases e
  | some o =>
    rw [q] at e
    have e' : (b, o) = p := Option.some.inj e
    subst e'
    exact ⟨hb, q⟩
theorem Inv.pinned {pins : List (Addr × Obj)} {σ : St} {H : Hp} {s : Shared} {fp : List Addr} (I : Inv X pins σ H s) (hf : ∀ b ∈ fp, FpOk X pins H b) (ho : ∀ b ∈ fp, ∃ o, s.heap.get? b = some o ∧ ∀ v, o.data ≠ .cell v) : Inv X (pins ++ pinsAt fp s.heap) σ H s :=
  I.pins_of fun p hp => (List.mem_append.mp hp).elim (fun z => I.pin p (List.mem_append_right _ z)) fun z => by
    obtain ⟨hb, e⟩ := of_pinsAt z
    obtain ⟨f0, f1, f2, _⟩ := hf p.1 hb
    obtain ⟨o, e', d⟩ := ho p.1 hb
    rw [e] at e'; cases e'
    exact ⟨e, f0, f1, f2, d⟩
theorem Inv.unpinned {pins pl : List (Addr × Obj)} {σ : St} {H : Hp} {s : Shared} (I : Inv X (pins ++ pl) σ H s) : Inv X pins σ H s := I.pins_of fun p hp => I.pin p (List.mem_append_right _ (List.mem_append_left _ hp))
theorem ps_for {iter : Expr} {body : List Stmt} {wi : TI} {g : TG} {tb : TS} {pos : Pos} (hp : PassesOwn (model X.prog X.w) X.A X.env X.xe) (hc : X.calm = true) (hi : PI X tg iter wi) (hg : PG X tg g) (hb : PSs X body tb)
    (hs : ∀ x, foldedSetIterable iter X.env x = pure x := by intro _; rfl) : PS X (.For tg iter body [] pos) (tFor wi g tb) := by
  intro pins s σ H D I h
  refine wpAny_For (thn (hi pins s σ H _ I h) fun v s1 h1 => thn h1 fun itv s2 h2 => ?_) hs
  obtain ⟨it, fp, tn, J, H2, e, I2, T, st2, f2, W, ⟨m0, w0⟩, turn⟩ := h2
  subst e
  -- what stays true of the iterator's objects through the loop
  have stat : ∀ {H' : Hp}, (∀ b ∈ fp, H' b = none) → ∀ b ∈ fp, FpOk X pins H' b := fun hn b hb => ⟨hn b hb, (f2 b hb).2⟩
  refine codeAny_forLoop_any (fun n s' => ∃ i σ' H', Inv X pins σ' H' s' ∧ tn i s'.heap ∧ (∀ b ∈ fp, H' b = none) ∧ W i n σ' H') ?_ m0 ⟨0, σ, H2, I2, st2, fun b hb => (f2 b hb).1, w0⟩
  rintro n s3 ⟨i, σ3, H3, I3, st3, fr3, w3⟩
  rcases turn i n σ3 H3 w3 with ⟨stop, qn⟩ | ⟨go, N, hN, step⟩
  · refine wpAny_passesOwn hp (thn (T.done X rfl rfl rfl hc i pins s3 σ3 H3 X.xe I3 (stat fr3) st3 stop) fun r s4 ⟨hr, I4⟩ => ?_)
    subst hr
    exact wpAny_execs_nil ⟨σ3, H3, I4, qn⟩
  · refine wpAny_passesOwn hp (thn (T.item X rfl rfl rfl hc i pins s3 σ3 H3 X.xe I3 (stat fr3) st3 go) fun r s4 ⟨u, hr, h4⟩ => ?_)
    subst hr
    refine wpAny_passesOwn hp (thn h4 fun _ s5 ⟨x, H5, I5, r5, y5, st5, fr5⟩ => ?_)
    have I5' := I5.pinned (stat fr5) (T.obj _ _ st5)
    refine wpAny_passesOwn hp (thn (hg _ s5 σ3 H5 x u _ I5' r5 (step x H5 y5)) fun _ s6 ⟨σ6, H6, I6, q6⟩ => ?_)
    refine wpAny_passesOwn hp (thn (hb _ s6 σ6 H6 _ I6 q6) fun f s7 q7 => ?_)
    have again : ∀ {σ7 : St} {H7 : Hp}, Inv X (pins ++ pinsAt fp s5.heap) σ7 H7 s7 → N σ7 H7 → ∃ m, m < n ∧ ∃ i σ' H', Inv X pins σ' H' s7 ∧ tn i s7.heap ∧ (∀ b ∈ fp, H' b = none) ∧ W i m σ' H' := fun {σ7 H7} I7 n7 => by
      obtain ⟨m', hm, w7⟩ := hN σ7 H7 n7
      refine ⟨m', hm, i + 1, σ7, H7, I7.unpinned, T.keep _ _ _ st5 fun b hb o e => (I7.pin (b, o) (List.mem_append_right _ (List.mem_append_right _ (mem_pinsAt hb e)))).1, fun b hb => ?_, w7⟩
      obtain ⟨o, e, d⟩ := T.obj _ _ st5 b hb
      exact (I7.pin (b, o) (List.mem_append_right _ (List.mem_append_right _ (mem_pinsAt hb e)))).2.1
    cases f with
    | next => obtain ⟨σ7, H7, I7, n7⟩ := q7; exact again I7 n7
    | cont => obtain ⟨σ7, H7, I7, n7⟩ := q7; exact again I7 n7
    | brk => obtain ⟨σ7, H7, I7, q7⟩ := q7; exact ⟨σ7, H7, I7.unpinned, q7⟩
    | ret v => obtain ⟨x7, σ7, H7, I7, r7, q7⟩ := q7; exact ⟨x7, σ7, H7, I7.unpinned, r7, q7⟩
end

/-! ### the forms one uses -/
/-- over a list that the body leaves as it is -/
theorem for_list {K : PySem.W.Frag} {a : Addr} {xs : List V} {g : TG} {tb : TS} {D : Ends} {σ : St} {H : Hp} (Pv : Nat → St → Hp → Prop) (h0 : Pv 0 σ H) (hl : ∀ i σ H, i ≤ xs.length → Pv i σ H → SqL K H a xs)
    (hs : ∀ i x σ H, xs[i]? = some x → Pv i σ H → g x σ H fun σ2 H2 => tb { D with nx := Pv (i + 1), ct := Pv (i + 1), bk := D.nx } σ2 H2) (hd : ∀ σ H, Pv xs.length σ H → D.nx σ H) :
    ∃ W : Nat → Nat → St → Hp → Prop, (∃ m, W 0 m σ H) ∧ ∀ i m σ H, W i m σ H →
      ((Itl K a).stop i H ∧ D.nx σ H) ∨ ((Itl K a).go i H ∧ ∃ N : St → Hp → Prop, (∀ σ' H', N σ' H' → ∃ m', m' < m ∧ W (i + 1) m' σ' H') ∧ ∀ x H', (Itl K a).yld i H x H' → g x σ H' fun σ2 H2 => tb { D with nx := N, ct := N, bk := D.nx } σ2 H2) := by
  refine ⟨fun i m σ H => m = xs.length - i ∧ i ≤ xs.length ∧ Pv i σ H, ⟨xs.length, by simp, Nat.zero_le _, h0⟩, ?_⟩
  rintro i m σ H ⟨rfl, hi, p⟩
  have q := hl i σ H hi p
  by_cases hlt : i < xs.length
  · refine .inr ⟨⟨xs, xs[i], q, by simp [hlt]⟩, Pv (i + 1), fun σ' H' p' => ⟨xs.length - (i + 1), by omega, rfl, hlt, p'⟩, fun x H' y => ?_⟩
    obtain ⟨e, y⟩ := y
    subst e
    exact hs i x σ _ (y xs q) p
  · have e : i = xs.length := by omega
    subst e
    exact .inl ⟨⟨xs, q, Nat.le_refl _⟩, hd σ H p⟩
theorem for_range {lo : Int} {n : Nat} {g : TG} {tb : TS} {D : Ends} {σ : St} {H : Hp} (Pv : Nat → St → Hp → Prop) (h0 : Pv 0 σ H)
    (hs : ∀ i σ H, i < n → Pv i σ H → g (.int (lo + i)) σ H fun σ2 H2 => tb { D with nx := Pv (i + 1), ct := Pv (i + 1), bk := D.nx } σ2 H2) (hd : ∀ σ H, Pv n σ H → D.nx σ H) :
    ∃ W : Nat → Nat → St → Hp → Prop, (∃ m, W 0 m σ H) ∧ ∀ i m σ H, W i m σ H →
      ((Itr lo n).stop i H ∧ D.nx σ H) ∨ ((Itr lo n).go i H ∧ ∃ N : St → Hp → Prop, (∀ σ' H', N σ' H' → ∃ m', m' < m ∧ W (i + 1) m' σ' H') ∧ ∀ x H', (Itr lo n).yld i H x H' → g x σ H' fun σ2 H2 => tb { D with nx := N, ct := N, bk := D.nx } σ2 H2) := by
  refine ⟨fun i m σ H => m = n - i ∧ i ≤ n ∧ Pv i σ H, ⟨n, by simp, Nat.zero_le _, h0⟩, ?_⟩
  rintro i m σ H ⟨rfl, hi, p⟩
  by_cases hlt : i < n
  · refine .inr ⟨hlt, Pv (i + 1), fun σ' H' p' => ⟨n - (i + 1), by omega, rfl, hlt, p'⟩, fun x H' y => ?_⟩
    obtain ⟨e, y⟩ := y
    subst e y
    exact hs i σ _ hlt p
  · have e : i = n := by omega
    subst e
    exact .inl ⟨Nat.le_refl _, hd σ H p⟩
end L2

namespace L2
open PySem PySem.Spec PyProof.Rows

abbrev R2 := V → V → Hp → VK → Prop
/-- a two-place operation on values: f is binaryOp op, inplaceOp op or compareOp op -/
def OpR (X : Cx) (f : Value → Value → Sem Value) (r : R2) : Prop :=
  ∀ (pins : List (Addr × Obj)) (s : Shared) (σ : St) (H : Hp) (x y : V) (v u : Value) (Q : VK), Inv X pins σ H s → RelV x v → RelV y u → r x y H Q →
    wpAny (model X.prog X.w) X.A (f v u) (EP X pins σ Q) X.xe s
/-- a one-place operation -/
def UnR (X : Cx) (f : Value → Sem Value) (r : V → Hp → VK → Prop) : Prop :=
  ∀ (pins : List (Addr × Obj)) (s : Shared) (σ : St) (H : Hp) (x : V) (v : Value) (Q : VK), Inv X pins σ H s → RelV x v → r x H Q →
    wpAny (model X.prog X.w) X.A (f v) (EP X pins σ Q) X.xe s
/-- a call of a value that is known (a builtin, a type) with values -/
def CallR (X : Cx) (f : Value) (r : List V → Hp → VK → Prop) : Prop :=
  ∀ (pins : List (Addr × Obj)) (s : Shared) (σ : St) (H : Hp) (xs : List V) (us : List Value) (Q : VK), Inv X pins σ H s → Vals xs us → r xs H Q →
    wpAny (model X.prog X.w) X.A (call f us) (EP X pins σ Q) X.xe s
/-- a value's truth -/
def TruR (X : Cx) (r : V → Hp → (Bool → Hp → Prop) → Prop) : Prop :=
  ∀ (pins : List (Addr × Obj)) (s : Shared) (σ : St) (H : Hp) (x : V) (v : Value) (Q : Bool → Hp → Prop), Inv X pins σ H s → RelV x v → r x H Q →
    wpAny (model X.prog X.w) X.A (truthy v) (TP X pins σ Q) X.xe s

def tOp (r : R2) (ta tb : TE) : TE := fun σ H Q => ta σ H fun x H1 => tb σ H1 fun y H2 => r x y H2 Q
def tUn (r : V → Hp → VK → Prop) (ta : TE) : TE := fun σ H Q => ta σ H fun x H1 => r x H1 Q
/-- ints in, under C, and a value out -/
def rI (C : Int → Int → Prop) (g : Int → Int → V) : R2 := fun x y H Q => ∃ i j, x = .int i ∧ y = .int j ∧ C i j ∧ Q (g i j) H
def rI0 (g : Int → Int → V) : R2 := fun x y H Q => ∃ i j, x = .int i ∧ y = .int j ∧ Q (g i j) H
def rU (g : Int → V) : V → Hp → VK → Prop := fun x H Q => ∃ i, x = .int i ∧ Q (g i) H

section
variable {X : Cx} {a b c : Expr} {ta tb tc : TE} {pos : Pos}

theorem binT (ha : PE X a ta) (hb : PE X b tb) {pins : List (Addr × Obj)} {s : Shared} {σ : St} {H : Hp} {R : V → V → Hp → Prop} (I : Inv X pins σ H s)
    (h : ta σ H fun x H1 => tb σ H1 fun y H2 => R x y H2) {Q : Value → Shared → Prop} {f : Value → Value → Sem Value}
    (hf : ∀ v u s2 x y H2, Inv X pins σ H2 s2 → RelV x v → RelV y u → R x y H2 → wpAny (model X.prog X.w) X.A (f v u) Q X.xe s2) :
    wpAny (model X.prog X.w) X.A (eval a X.env) (fun v s₁ => wpAny (model X.prog X.w) X.A (eval b X.env) (fun u s₂ => wpAny (model X.prog X.w) X.A (f v u) Q X.xe s₂) X.xe s₁) X.xe s := by
  refine thn (ha pins s σ H _ I h) fun v s1 ⟨x, H1, I1, r1, q1⟩ => ?_
  refine thn (hb pins s1 σ H1 _ I1 q1) fun u s2 ⟨y, H2, I2, r2, q2⟩ => ?_
  exact hf v u s2 x y H2 I2 r1 r2 q2

theorem pe_op {op : Operator} {r : R2} (ho : OpR X (binaryOp op) r) (ha : PE X a ta) (hb : PE X b tb) : PE X (.BinOp a op b pos) (tOp r ta tb) := by
  intro pins s σ H Q I h
  exact wpAny_BinOp (binT ha hb I h fun v u s2 x y H2 I2 rx ry q => ho pins s2 σ H2 x y v u Q I2 rx ry q)
theorem pe_un {op : UnaryOp} {r : V → Hp → VK → Prop} (ho : UnR X (unaryOp op) r) (ha : PE X a ta) : PE X (.UnaryOp op a pos) (tUn r ta) := by
  intro pins s σ H Q I h
  exact UnaryOp_ (thn (ha pins s σ H _ I h) fun v s1 ⟨x, H1, I1, r1, q1⟩ => ho pins s1 σ H1 x v Q I1 r1 q1)

/-! ### ints -/
theorem opI {f : Value → Value → Sem Value} {C : Int → Int → Prop} {g : Int → Int → Int}
    (rule : ∀ (i j : Int) (t u : Tok) (s : Shared) (Q : Value → Shared → Prop) (E : Value → Shared → Prop), C i j → Q (.int (g i j) s.toks) { s with toks := s.toks + 1 } → wpAny (model X.prog X.w) X.A (f (.int i t) (.int j u)) Q E s) :
    OpR X f (rI C fun i j => .int (g i j)) := by
  intro pins s σ H x y v u Q I rx ry h
  obtain ⟨i, j, rfl, rfl, hc, q⟩ := h
  obtain ⟨t, rfl⟩ := rx
  obtain ⟨t', rfl⟩ := ry
  exact rule i j t t' s _ _ hc ⟨.int (g i j), H, I.tok _, ⟨_, rfl⟩, q⟩
theorem opI0 {f : Value → Value → Sem Value} {g : Int → Int → Int}
    (rule : ∀ (i j : Int) (t u : Tok) (s : Shared) (Q : Value → Shared → Prop) (E : Value → Shared → Prop), Q (.int (g i j) s.toks) { s with toks := s.toks + 1 } → wpAny (model X.prog X.w) X.A (f (.int i t) (.int j u)) Q E s) :
    OpR X f (rI0 fun i j => .int (g i j)) := by
  intro pins s σ H x y v u Q I rx ry h
  obtain ⟨i, j, rfl, rfl, q⟩ := h
  obtain ⟨t, rfl⟩ := rx
  obtain ⟨t', rfl⟩ := ry
  exact rule i j t t' s _ _ ⟨.int (g i j), H, I.tok _, ⟨_, rfl⟩, q⟩
theorem opB0 {f : Value → Value → Sem Value} {g : Int → Int → Bool}
    (rule : ∀ (i j : Int) (t u : Tok) (s : Shared) (Q : Value → Shared → Prop) (E : Value → Shared → Prop), Q (.bool (g i j)) s → wpAny (model X.prog X.w) X.A (f (.int i t) (.int j u)) Q E s) :
    OpR X f (rI0 fun i j => .bl (g i j)) := by
  intro pins s σ H x y v u Q I rx ry h
  obtain ⟨i, j, rfl, rfl, q⟩ := h
  obtain ⟨t, rfl⟩ := rx
  obtain ⟨t', rfl⟩ := ry
  exact rule i j t t' s _ _ ⟨.bl (g i j), H, I, rfl, q⟩

def CDiv (i j : Int) : Prop := 0 < j ∧ j < 1073741824
def CPow (i j : Int) : Prop := 0 ≤ j ∧ j ≤ 1000000 ∧ i.natAbs < 2 ^ 64
def CMul (i j : Int) : Prop := (-(2 ^ 64) < i ∧ i < 2 ^ 64) ∨ (-(2 ^ 64) < j ∧ j < 2 ^ 64)
theorem CMul.ok {i j : Int} (h : CMul i j) : IntMulOk i j := by
  rcases h with ⟨h1, h2⟩ | ⟨h1, h2⟩
  · exact .of_left (intBits_le_64 h1 h2)
  · exact .of_right (intBits_le_64 h1 h2)

theorem op_add : OpR X (binaryOp .Add) (rI0 fun i j => .int (i + j)) := opI0 fun _ _ _ _ _ _ _ q => add_int q
theorem op_sub : OpR X (binaryOp .Sub) (rI0 fun i j => .int (i - j)) := opI0 fun _ _ _ _ _ _ _ q => sub_int q
theorem op_mul : OpR X (binaryOp .Mult) (rI CMul fun i j => .int (i * j)) := opI fun _ _ _ _ _ _ _ hc q => mul_int q hc.ok
/-- // by a positive divisor -/
theorem op_fdiv : OpR X (binaryOp .FloorDiv) (rI CDiv fun i j => .int (i / j)) := opI fun i j _ _ _ _ _ hc q => by
  have h1 : (0 : Int) < j := hc.1
  have h2 : j < 1073741824 := hc.2
  exact floordiv_int (by omega) (by rw [Int.fdiv_eq_ediv_of_nonneg i (by omega)]; exact q) (.inl (PyProof.noPylong_small (by omega)))
/-- % by a positive divisor of any size -/
theorem op_mod : OpR X (binaryOp .Mod) (rI (fun _ j => 0 < j) fun i j => .int (i % j)) := opI fun i j _ _ _ _ _ hc q => by
  have h1 : (0 : Int) < j := hc
  exact mod_int' (by omega) (by rw [Int.fmod_eq_emod_of_nonneg i (by omega)]; exact q)
theorem op_pow : OpR X (binaryOp .Pow) (rI CPow fun i j => .int (i ^ j.toNat)) := opI fun _ _ _ _ _ _ _ hc q => pow_int_small hc.1 hc.2.1 hc.2.2 q


theorem unI {f : Value → Sem Value} {g : Int → Int}
    (rule : ∀ (i : Int) (t : Tok) (s : Shared) (Q : Value → Shared → Prop) (E : Value → Shared → Prop), Q (.int (g i) s.toks) { s with toks := s.toks + 1 } → wpAny (model X.prog X.w) X.A (f (.int i t)) Q E s) :
    UnR X f (rU fun i => .int (g i)) := by
  intro pins s σ H x v Q I rx h
  obtain ⟨i, rfl, q⟩ := h
  obtain ⟨t, rfl⟩ := rx
  exact rule i t s _ _ ⟨.int (g i), H, I.tok _, ⟨_, rfl⟩, q⟩
theorem un_neg : UnR X (unaryOp .USub) (rU fun i => .int (-i)) := unI fun _ _ _ _ _ q => neg_int q

/-! ### bools among ints: n += (a < b) -/
end

/-! ### comparisons -/
/-- the scalars that == tells apart as data does -/
def scal : V → V → Bool
  | .non, .non => true | .non, .int _ => true | .int _, .non => true | .non, .bl _ => true | .bl _, .non => true | .non, .str _ => true | .str _, .non => true
  | .int _, .int _ => true | .bl _, .bl _ => true | .str _, .str _ => true | .byt _, .byt _ => true
  | .int _, .str _ => true | .str _, .int _ => true | .bl _, .str _ => true | .str _, .bl _ => true
  | _, _ => false
def rEq : R2 := fun x y H Q => scal x y = true ∧ Q (.bl (decide (x = y))) H
def rNe : R2 := fun x y H Q => scal x y = true ∧ Q (.bl (!decide (x = y))) H

theorem dec_int {i j : Int} : decide (V.int i = V.int j) = (i == j) := by
  rw [Bool.eq_iff_iff]
  simp
theorem dec_bl {i j : Bool} : decide (V.bl i = V.bl j) = (i == j) := by
  rw [Bool.eq_iff_iff]
  simp
theorem dec_str {i j : Str} : decide (V.str i = V.str j) = (i == j) := by
  rw [Bool.eq_iff_iff]
  simp
theorem dec_byt {i j : Array UInt8} : decide (V.byt i = V.byt j) = (i.toList == j.toList) := by
  rw [Bool.eq_iff_iff]
  cases i
  cases j
  simp

section
variable {X : Cx} {a b c : Expr} {ta tb tc : TE} {pos : Pos}
theorem fin_bl {pins : List (Addr × Obj)} {σ : St} {H : Hp} {s : Shared} {Q : VK} {k k' : Bool} (I : Inv X pins σ H s) (q : Q (.bl k) H) (e : k = k') : EP X pins σ Q (.bool k') s := by
  subst e
  exact ⟨.bl k, H, I, rfl, q⟩
theorem op_eq : OpR X (compareOp .Eq) rEq := by
  intro pins s σ H x y v u Q I rx ry h
  obtain ⟨hs, q⟩ := h
  cases x with
  | non =>
    cases rx
    cases y with
    | non => cases ry; exact PySem.EqNone.eq_none_none (fin_bl I q (by simp))
    | bl j => cases ry; exact PySem.EqNone.eq_none_bool (fin_bl I q (by simp))
    | int j => obtain ⟨t', rfl⟩ := ry; exact PySem.EqNone.eq_none_int (fin_bl I q (by simp))
    | str j => obtain ⟨t', rfl⟩ := ry; exact PySem.EqNone.eq_none_str (fin_bl I q (by simp))
    | _ => exact absurd (show false = true from hs) Bool.false_ne_true
  | bl i =>
    cases rx
    cases y with
    | non => cases ry; exact PySem.EqNone.eq_bool_none (fin_bl I q (by simp))
    | bl j => cases ry; exact eq_bool (fin_bl I q dec_bl)
    | str j => obtain ⟨t', rfl⟩ := ry; exact PySem.EqMixed.eq_bool_str (fin_bl I q (by simp))
    | _ => exact absurd (show false = true from hs) Bool.false_ne_true
  | int i =>
    obtain ⟨t, rfl⟩ := rx
    cases y with
    | non => cases ry; exact PySem.EqNone.eq_int_none (fin_bl I q (by simp))
    | int j => obtain ⟨t', rfl⟩ := ry; exact eq_int (fin_bl I q dec_int)
    | str j => obtain ⟨t', rfl⟩ := ry; exact PySem.EqMixed.eq_int_str (fin_bl I q (by simp))
    | _ => exact absurd (show false = true from hs) Bool.false_ne_true
  | str i =>
    obtain ⟨t, rfl⟩ := rx
    cases y with
    | non => cases ry; exact PySem.EqNone.eq_str_none (fin_bl I q (by simp))
    | bl j => cases ry; exact PySem.EqMixed.eq_str_bool (fin_bl I q (by simp))
    | int j => obtain ⟨t', rfl⟩ := ry; exact PySem.EqMixed.eq_str_int (fin_bl I q (by simp))
    | str j => obtain ⟨t', rfl⟩ := ry; exact eq_str (fin_bl I q dec_str)
    | _ => exact absurd (show false = true from hs) Bool.false_ne_true
  | byt i =>
    obtain ⟨t, rfl⟩ := rx
    cases y with
    | byt j => obtain ⟨t', rfl⟩ := ry; exact PySem.W.eq_bytes (fin_bl I q dec_byt)
    | _ => exact absurd (show false = true from hs) Bool.false_ne_true
  | _ => cases y <;> exact absurd (show false = true from hs) Bool.false_ne_true
theorem op_ne : OpR X (compareOp .NotEq) rNe := by
  intro pins s σ H x y v u Q I rx ry h
  obtain ⟨hs, q⟩ := h
  cases x with
  | non =>
    cases rx
    cases y with
    | non => cases ry; exact PySem.EqNone.ne_none_none (fin_bl I q (by simp))
    | bl j => cases ry; exact PySem.EqNone.ne_none_bool (fin_bl I q (by simp))
    | int j => obtain ⟨t', rfl⟩ := ry; exact PySem.EqNone.ne_none_int (fin_bl I q (by simp))
    | str j => obtain ⟨t', rfl⟩ := ry; exact PySem.EqNone.ne_none_str (fin_bl I q (by simp))
    | _ => exact absurd (show false = true from hs) Bool.false_ne_true
  | bl i =>
    cases rx
    cases y with
    | non => cases ry; exact PySem.EqNone.ne_bool_none (fin_bl I q (by simp))
    | bl j => cases ry; exact ne_bool (fin_bl I q (congrArg not dec_bl))
    | str j => obtain ⟨t', rfl⟩ := ry; exact PySem.EqMixed.ne_bool_str (fin_bl I q (by simp))
    | _ => exact absurd (show false = true from hs) Bool.false_ne_true
  | int i =>
    obtain ⟨t, rfl⟩ := rx
    cases y with
    | non => cases ry; exact PySem.EqNone.ne_int_none (fin_bl I q (by simp))
    | int j => obtain ⟨t', rfl⟩ := ry; exact ne_int (fin_bl I q (congrArg not dec_int))
    | str j => obtain ⟨t', rfl⟩ := ry; exact PySem.EqMixed.ne_int_str (fin_bl I q (by simp))
    | _ => exact absurd (show false = true from hs) Bool.false_ne_true
  | str i =>
    obtain ⟨t, rfl⟩ := rx
    cases y with
    | non => cases ry; exact PySem.EqNone.ne_str_none (fin_bl I q (by simp))
    | bl j => cases ry; exact PySem.EqMixed.ne_str_bool (fin_bl I q (by simp))
    | int j => obtain ⟨t', rfl⟩ := ry; exact PySem.EqMixed.ne_str_int (fin_bl I q (by simp))
    | str j => obtain ⟨t', rfl⟩ := ry; exact ne_str (fin_bl I q (congrArg not dec_str))
    | _ => exact absurd (show false = true from hs) Bool.false_ne_true
  | byt i =>
    obtain ⟨t, rfl⟩ := rx
    cases y with
    | byt j => obtain ⟨t', rfl⟩ := ry; exact PySem.W.ne_bytes (fin_bl I q (congrArg not dec_byt))
    | _ => exact absurd (show false = true from hs) Bool.false_ne_true
  | _ => cases y <;> exact absurd (show false = true from hs) Bool.false_ne_true

theorem op_lt : OpR X (compareOp .Lt) (rI0 fun i j => .bl (decide (i < j))) := opB0 fun _ _ _ _ _ _ _ q => lt_int q
theorem op_gt : OpR X (compareOp .Gt) (rI0 fun i j => .bl (decide (j < i))) := opB0 fun _ _ _ _ _ _ _ q => gt_int q
/-- the one string within the other -/
theorem op_in_str : OpR X (compareOp .In) (fun x y H Q => ∃ i j, x = .str i ∧ y = .str j ∧ Q (.bl (!(Builtin.Str.occurrences j i 0 j.length 1).isEmpty)) H) := by
  intro pins s σ H x y v u Q I rx ry h
  obtain ⟨i, j, rfl, rfl, q⟩ := h
  obtain ⟨t, rfl⟩ := rx
  obtain ⟨t', rfl⟩ := ry
  exact in_str (fin_bl I q rfl)

/-- is None, is not None: the right side a value none -/
theorem op_isN : OpR X (compareOp .Is) (fun x y H Q => y = .non ∧ Q (.bl (decide (x = .non))) H) := by
  intro pins s σ H x y v u Q I rx ry h
  obtain ⟨rfl, q⟩ := h
  cases ry
  refine is_none_gen (fin_bl I q ?_)
  cases x <;> first
    | (cases rx; rfl)
    | (obtain ⟨t, rfl⟩ := rx; rfl)

theorem op_notin_str : OpR X (compareOp .NotIn) (fun x y H Q => ∃ i j, x = .str i ∧ y = .str j ∧ Q (.bl (!(!(Builtin.Str.occurrences j i 0 j.length 1).isEmpty))) H) := by
  intro pins s σ H x y v u Q I rx ry h
  obtain ⟨i, j, rfl, rfl, q⟩ := h
  obtain ⟨t, rfl⟩ := rx
  obtain ⟨t', rfl⟩ := ry
  exact notIn_str (fin_bl I q rfl)

/-- two rules for one operation: by cases -/
theorem OpR.or {f : Value → Value → Sem Value} {r r' : R2} (h : OpR X f r) (h' : OpR X f r') : OpR X f (fun x y H Q => r x y H Q ∨ r' x y H Q) := by
  intro pins s σ H x y v u Q I rx ry q
  rcases q with q | q
  · exact h pins s σ H x y v u Q I rx ry q
  · exact h' pins s σ H x y v u Q I rx ry q

theorem nomark (b : Expr) {op : CmpOp} (h : op ≠ .In := by decide) (h2 : op ≠ .NotIn := by decide) : behindInMarks op b = false := by
  have e1 : (op == CmpOp.In) = false := by cases op <;> first | rfl | exact absurd rfl h
  have e2 : (op == CmpOp.NotIn) = false := by cases op <;> first | rfl | exact absurd rfl h2
  cases b <;> simp [behindInMarks, e1, e2]
/-- a comparison as a value; hm: nomark b, or (for in, not in) by with_unfolding_all rfl -/
theorem pe_cmpR {op : CmpOp} {r : R2} (ho : OpR X (compareOp op) r) (ha : PE X a ta) (hb : PE X b tb) (hm : behindInMarks op b = false) : PE X (.Compare a [op] [b] pos) (tOp r ta tb) := by
  intro pins s σ H Q I h
  exact wpAny_Compare1 (binT ha hb I h fun v u s2 x y H2 I2 rx ry q => ho pins s2 σ H2 x y v u Q I2 rx ry q) hm
/-- a reading of a value as a test -/
def tTest (t : TE) : TT := fun σ H Q => t σ H fun x H' => ∃ k, x = .bl k ∧ Q k H'
theorem pt_cmpR {op : CmpOp} {r : R2} (ho : OpR X (compareOp op) r) (ha : PE X a ta) (hb : PE X b tb) (hm : behindInMarks op b = false) : PT X (.Compare a [op] [b] pos) (tTest (tOp r ta tb)) := by
  intro pins s σ H Q I h
  refine wpAny_isTrue_Compare1 (thn (ha pins s σ H _ I h) fun v s1 ⟨x, H1, I1, r1, q1⟩ => thn (hb pins s1 σ H1 _ I1 q1) fun u s2 ⟨y, H2, I2, r2, q2⟩ =>
    thn (ho pins s2 σ H2 x y v u _ I2 r1 r2 q2) fun c s3 ⟨z, H3, I3, r3, k, e, q3⟩ => ?_) hm
  subst e
  cases r3
  exact wpAny_truthy_bool ⟨H3, I3, q3⟩
/-- a op1 b op2 c -/
def tChain (r r' : R2) (ta tb tc : TE) : TE := fun σ H Q => ta σ H fun x H1 => tb σ H1 fun y H2 => r x y H2 fun z H3 => ∃ k, z = .bl k ∧
  (if k = true then tc σ H3 fun w' H4 => r' y w' H4 Q else Q (.bl false) H3)
theorem pt_chain {op op' : CmpOp} {r r' : R2} (ho : OpR X (compareOp op) r) (ho' : OpR X (compareOp op') r') (ha : PE X a ta) (hb : PE X b tb) (hc : PE X c tc)
    (hm : lastMarks [op, op'] [b, c] = false := by with_unfolding_all rfl) : PT X (.Compare a [op, op'] [b, c] pos) (tTest (tChain r r' ta tb tc)) := by
  intro pins s σ H Q I h
  refine isTrue_chain (thn (ha pins s σ H _ I h) fun v s1 ⟨x, H1, I1, r1, q1⟩ => test_link (thn (hb pins s1 σ H1 _ I1 q1) fun u s2 ⟨y, H2, I2, r2, q2⟩ =>
    thn (ho pins s2 σ H2 x y v u _ I2 r1 r2 q2) fun d s3 ⟨z, H3, I3, r3, k, e, q3⟩ => ?_)) hm
  subst e
  cases r3
  refine wpAny_truthy_bool ?_
  cases k with
  | false =>
    obtain ⟨k', e', q'⟩ := q3
    cases e'
    exact ite_ff ⟨H3, I3, q'⟩
  | true =>
    refine ite_tt (test_last (thn (hc pins s3 σ H3 _ I3 q3) fun w' s4 ⟨z', H4, I4, r4, q4⟩ => thn (ho' pins s4 σ H4 y z' u w' _ I4 r2 r4 q4) fun d' s5 ⟨z2, H5, I5, r5, k2, e2, q5⟩ => ?_))
    subst e2
    cases r5
    exact wpAny_truthy_bool ⟨H5, I5, q5⟩

/-! ### truth -/
/-- a value's truth by the abstract heap -/
def TruV (K : PySem.W.Frag) (x : V) (H : Hp) (k : Bool) : Prop :=
  match x with
  | .non => k = false
  | .bl b => k = b
  | .int i => k = (i != 0)
  | .str y => y.length ≤ sizeLine ∧ k = ((y.length : Int) != 0)
  | .byt y => y.size ≤ sizeLine ∧ k = ((y.size : Int) != 0)
  | .ref p => (∃ xs, SqL K H p xs ∧ k = !xs.isEmpty) ∨ (∃ xs, SqT K H p xs ∧ k = !xs.isEmpty) ∨ ∃ kvs, H p = some (.dK kvs) ∧ k = !kvs.isEmpty
  | _ => False
theorem isEmpty_kv {κ : Type} {kvs : List (κ × V)} {vs : List (κ × Value)} (r : KV kvs vs) : (!vs.isEmpty) = !kvs.isEmpty := by
  cases r <;> rfl
theorem isEmpty_of {xs : List V} {its : List Value} (r : Vals xs its) : (!its.toArray.isEmpty) = !xs.isEmpty := by
  cases r <;> simp
theorem line63 : (sizeLine : Nat) < 2 ^ 63 := by rw [sizeLine_eq]; decide
theorem tru_ok : TruR X (fun x H Q => ∃ k, TruV X.K x H k ∧ Q k H) := by
  intro pins s σ H x v Q I rx h
  obtain ⟨k, e, q⟩ := h
  have hl := line63
  have hs : sizeLine = 16777216 := sizeLine_eq
  cases x with
  | non =>
    cases rx
    have e' : k = false := e
    subst e'
    exact truthy_none ⟨H, I, q⟩
  | bl b =>
    cases rx
    have e' : k = b := e
    subst e'
    exact wpAny_truthy_bool ⟨H, I, q⟩
  | int i =>
    obtain ⟨t, rfl⟩ := rx
    have e' : k = (i != 0) := e
    subst e'
    exact PySem.P.truthy_int ⟨H, I, q⟩
  | str y =>
    obtain ⟨t, rfl⟩ := rx
    obtain ⟨hy, e'⟩ : y.length ≤ sizeLine ∧ k = ((y.length : Int) != 0) := e
    subst e'
    exact PySem.P.truthy_str (by omega) ⟨H, I.tok _, q⟩
  | byt y =>
    obtain ⟨t, rfl⟩ := rx
    obtain ⟨hy, e'⟩ : y.size ≤ sizeLine ∧ k = ((y.size : Int) != 0) := e
    subst e'
    exact PySem.W.truthy_bytes (by omega) ⟨H, I.tok _, q⟩
  | ref p =>
    cases rx
    have e' : (∃ xs, SqL X.K H p xs ∧ k = !xs.isEmpty) ∨ (∃ xs, SqT X.K H p xs ∧ k = !xs.isEmpty) ∨ ∃ kvs, H p = some (.dK kvs) ∧ k = !kvs.isEmpty := e
    rcases e' with ⟨xs, hx, e'⟩ | ⟨xs, hx, e'⟩ | ⟨kvs, hx, e'⟩
    · subst e'
      obtain ⟨its, r, pl, hz⟩ := I.list hx
      have hlen := r.length
      exact wpAny_truthy_list pl.isList (by simp only [List.size_toArray]; omega) ⟨H, I.tok _, by rw [isEmpty_of r]; exact q⟩
    · subst e'
      obtain ⟨its, r, pl, hz⟩ := I.tuple hx
      have hlen := r.length
      exact truthy_tuple pl (by simp only [List.size_toArray]; omega) ⟨H, I.tok _, by rw [isEmpty_of r]; exact q⟩
    · subst e'
      obtain ⟨hz, hS, vs, r, m⟩ : kvs.length ≤ sizeLine ∧ (p == sysModules) = false ∧ ∃ vs, KV kvs vs ∧ s.heap.DictOf (mixKind X.prog X.w) p vs := I.hok p _ hx
      have hlen : kvs.length = vs.length := Paired.length r
      exact wpAny_truthy_dict hS m (by omega) ⟨H, I.tok _, by rw [isEmpty_kv r]; exact q⟩
  | _ => exact (show False from e).elim
/-- any expression whose test is its value's truth (a name, a call, a subscript, a field ..: he by fun _ => rfl) -/
theorem pt_truth (ha : PE X a ta) (he : ∀ whole, isTrue a X.env whole = (do let v ← whole; standAt a.pos; holding [v] (truthy v))) :
    PT X a (fun σ H Q => ta σ H fun x H' => ∃ k, TruV X.K x H' k ∧ Q k H') := by
  intro pins s σ H Q I h
  exact isTrue_plain (thn (ha pins s σ H _ I h) fun v s1 ⟨x, H1, I1, r1, q1⟩ => tru_ok pins s1 σ H1 x v Q I1 r1 q1) (he _)

/-! ### strs and bytes -/
theorem op_add_str : OpR X (binaryOp .Add) (fun x y H Q => ∃ i j, x = .str i ∧ y = .str j ∧ i.length + j.length ≤ sizeLine ∧ Q (.str (i ++ j)) H) := by
  intro pins s σ H x y v u Q I rx ry h
  obtain ⟨i, j, rfl, rfl, hz, q⟩ := h
  obtain ⟨t, rfl⟩ := rx
  obtain ⟨t', rfl⟩ := ry
  exact add_str (fun t' tk => ⟨.str (i ++ j), H, I.tok _, ⟨_, rfl⟩, q⟩) hz


/-! ### scalar builtins, by CallR -/
theorem vals1 {x : V} {us : List Value} (r : Vals [x] us) : ∃ u, us = [u] ∧ RelV x u := by
  cases r with
  | cons r1 r2 => cases r2; exact ⟨_, rfl, r1⟩
theorem vals2 {x y : V} {us : List Value} (r : Vals [x, y] us) : ∃ u w', us = [u, w'] ∧ RelV x u ∧ RelV y w' := by
  cases r with
  | cons r1 r2 =>
    cases r2 with
    | cons r3 r4 => cases r4; exact ⟨_, _, rfl, r1, r3⟩
theorem call_abs : CallR X (.builtin "abs") (fun xs H Q => ∃ i, xs = [.int i] ∧ Q (.int (if i < 0 then -i else i)) H) := by
  intro pins s σ H xs us Q I r h
  obtain ⟨i, rfl, q⟩ := h
  obtain ⟨u, rfl, t, rfl⟩ := vals1 r
  exact call_abs_int fun u tk => ⟨.int (if i < 0 then -i else i), H, I.tok _, ⟨_, rfl⟩, q⟩
theorem call_int1 : CallR X (.type "int") (fun xs H Q => (∃ i, xs = [.int i] ∧ Q (.int i) H) ∨ ∃ k, xs = [.bl k] ∧ Q (.int (if k then 1 else 0)) H) := by
  intro pins s σ H xs us Q I r h
  rcases h with ⟨i, rfl, q⟩ | ⟨k, rfl, q⟩
  · obtain ⟨u, rfl, t, rfl⟩ := vals1 r
    exact call_int_int ⟨.int i, H, I, ⟨_, rfl⟩, q⟩
  · obtain ⟨u, rfl, r1⟩ := vals1 r
    cases r1
    exact call_int_bool ⟨.int (if k then 1 else 0), H, I.tok _, ⟨_, rfl⟩, q⟩
theorem call_str_int : CallR X (.type "str") (fun xs H Q => ∃ i, xs = [.int i] ∧ i.natAbs.log2 < 1920 ∧ Q (.str (toString i)) H) := by
  intro pins s σ H xs us Q I r h
  obtain ⟨i, rfl, hz, q⟩ := h
  obtain ⟨u, rfl, t, rfl⟩ := vals1 r
  exact PySem.P.str_of_int hz ⟨.str _, H, I.tok _, ⟨_, rfl⟩, q⟩
/-- len of a str, a bytes, a list, a tuple -/
def LenV (K : PySem.W.Frag) (x : V) (H : Hp) (n : Nat) : Prop :=
  match x with
  | .str y => y.length ≤ sizeLine ∧ n = y.length
  | .byt y => y.size ≤ sizeLine ∧ n = y.size
  | .ref p => (∃ xs, SqL K H p xs ∧ n = xs.length) ∨ ∃ xs, SqT K H p xs ∧ n = xs.length
  | _ => False
theorem call_len : CallR X (.builtin "len") (fun xs H Q => ∃ x n, xs = [x] ∧ LenV X.K x H n ∧ Q (.int n) H) := by
  intro pins s σ H xs us Q I r h
  obtain ⟨x, n, rfl, e, q⟩ := h
  obtain ⟨u, rfl, rx⟩ := vals1 r
  have hl := line63
  have hs : sizeLine = 16777216 := sizeLine_eq
  cases x with
  | str y =>
    obtain ⟨t, rfl⟩ := rx
    obtain ⟨hy, e'⟩ : y.length ≤ sizeLine ∧ n = y.length := e
    subst e'
    exact len_str (by omega) ⟨.int _, H, I.tok _, ⟨_, rfl⟩, q⟩
  | byt y =>
    obtain ⟨t, rfl⟩ := rx
    obtain ⟨hy, e'⟩ : y.size ≤ sizeLine ∧ n = y.size := e
    subst e'
    exact PySem.W.len_bytes (by omega) ⟨.int _, H, I.tok _, ⟨_, rfl⟩, q⟩
  | ref p =>
    cases rx
    have e' : (∃ xs, SqL X.K H p xs ∧ n = xs.length) ∨ ∃ xs, SqT X.K H p xs ∧ n = xs.length := e
    rcases e' with ⟨xs, hx, e'⟩ | ⟨xs, hx, e'⟩
    · subst e'
      obtain ⟨its, r', pl, hz⟩ := I.list hx
      have hlen := r'.length
      exact Calls.call_len_list pl.isList (by simp only [List.size_toArray]; omega) ⟨.int xs.length, H, I.tok _, ⟨_, by simp only [List.size_toArray]; rw [hlen]⟩, q⟩
    · subst e'
      obtain ⟨its, r', pl, hz⟩ := I.tuple hx
      have hlen := r'.length
      exact len_tuple pl (by simp only [List.size_toArray]; omega) ⟨.int xs.length, H, I.tok _, ⟨_, by simp only [List.size_toArray]; rw [hlen]⟩, q⟩
  | _ => exact (show False from e).elim
end
end L2

namespace L2
open PySem PySem.Spec PyProof.Rows

/-! ### an instance, its attributes a map -/
structure ObjM (h : Heap) (x dx C : Addr) (mA : Str → Option Value) : Prop where
  obj : h.get? x = some (PySem.W.instObj C dx)
  ns : h.Ns1 dx mA
  ne : dx ≠ x

theorem lookIn_ns {h : Heap} {dx : Addr} {mA : Str → Option Value} (n : h.Ns1 dx mA) : ∃ od, h.get? dx = some od ∧ ∀ name, PySem.W.lookIn name od = some (mA name) := by
  obtain ⟨o, es, ep, ho, hd, hk, _, hm⟩ := n
  refine ⟨o, ho, fun name => ?_⟩
  have e := hm name
  unfold nsFind findBy at e
  rw [← Array.find?_toList] at e
  unfold PySem.W.lookIn
  rw [hd]
  dsimp only
  split
  · rename_i y q
    rw [q] at e
    exact congrArg some e
  · rename_i q
    rw [q] at e
    have a : es.toList.any (·.refKey) = false := by
      rw [List.any_eq_false]
      intro y hy
      obtain ⟨z, t, hkey⟩ := hk y (Array.mem_toList_iff.mp hy)
      simp [DictEntry.refKey, hkey]
    have a' : ¬ es.toList.any (·.refKey) = true := by rw [a]; exact Bool.false_ne_true
    rw [if_neg a']
    exact congrArg some e

theorem ObjM.look {h : Heap} {x dx C : Addr} {mA : Str → Option Value} (I : ObjM h x dx C mA) : ∃ od, PySem.W.InstAt h x (PySem.W.instObj C dx) C (some od) ∧ ∀ name, PySem.W.lookIn name od = some (mA name) :=
  let ⟨od, ho, hl⟩ := lookIn_ns I.ns
  ⟨od, ⟨I.obj, rfl, rfl, ho⟩, hl⟩

section
variable {prog : Program} {w : World} {A : Around} {E : Value → Shared → Prop} {s : Shared} {K : PySem.W.Frag} {x dx C f : Addr} {mA : Str → Option Value} {name : Str} {v : Value}





end

/-! ### the attributes as a list of pairs -/


section
variable {P : Program} {w : World} {H H' : Hp} {h h' : Heap} {a C dx : Addr} {fs fs' : List (Str × V)}
theorem ins_get (hok : HOk P w H h) (e : H a = some (.ins C dx fs)) : ∃ mA, ObjM h a dx C mA ∧ (∀ f, RelO (fs.lookup f) (mA f)) ∧ PySem.Within mA (fs.map (·.1)) ∧ fs.length ≤ 1000 ∧ H dx = some (.own a) := by
  obtain ⟨d, z, ne, ob, mA, n, r, q⟩ := (show ObjOk P w H h a (.ins C dx fs) from hok a _ e)
  exact ⟨mA, ⟨ob, n, ne⟩, r, q, z, d⟩
end

/-! ### what of the text a class must have -/
structure Cls (K : PySem.W.Frag) (C : Addr) : Prop where
  pg : PySem.W.plainGet K C Str.empty = true
  hd : PySem.W.hasDictIn K C = true
  po : PySem.W.plainOver K C = true
  sa : PySem.W.findIn K (.ref C) "__setattr__" = some (some (.builtin "object.__setattr__"))
theorem Cls.get {K : PySem.W.Frag} {C : Addr} (c : Cls K C) (f : Str) : PySem.W.plainGet K C f = true := c.pg

section
variable {X : Cx} {pins : List (Addr × Obj)} {σ : St} {H : Hp} {s : Shared} {a C dx : Addr} {fs : List (Str × V)} {f : Str} {v : V} {A : Around} {E : Value → Shared → Prop}






end

/-! ### readings and rules -/

section
variable {X : Cx} {o e value : Expr} {f : Str} {pos pos' tpos : Pos} {ta tv : TE}

end

/-! ### isinstance -/
section
variable {X : Cx} {pins : List (Addr × Obj)} {σ : St} {H : Hp} {s : Shared} {A : Around} {E : Value → Shared → Prop} {Q : Value → Shared → Prop} {c : Value} {b : Bool}
/-- the type of a value, as the fragment's deciders take it; for an instance its class -/
inductive TyOf (K : PySem.W.Frag) (H : Hp) : V → Value → Prop where
  | non : TyOf K H .non (.type "NoneType")
  | bl (x : Bool) : TyOf K H (.bl x) (.type "bool")
  | int (i : Int) : TyOf K H (.int i) (.type "int")
  | str (x : Str) : TyOf K H (.str x) (.type "str")
  | flt (x : UInt64) : TyOf K H (.flt x) (.type "float")
  | lst {a : Addr} {xs : List V} (e : H a = some (.lst xs)) : TyOf K H (.ref a) (.type "list")
  | frz {a : Addr} {o : Obj} {xs : List V} (e : H a = some (.frz o (.lst xs))) : TyOf K H (.ref a) (.type "list")
  | tup {a : Addr} {xs : List V} (e : H a = some (.tup xs)) : TyOf K H (.ref a) (.type "tuple")
  | dK {a : Addr} {kvs : List (Key × V)} (e : H a = some (.dK kvs)) : TyOf K H (.ref a) (.type "dict")
  | dT {a : Addr} {kvs : List (List Key × V)} (e : H a = some (.dT kvs)) : TyOf K H (.ref a) (.type "dict")
  | ins {a C dx : Addr} {fs : List (Str × V)} (e : H a = some (.ins C dx fs)) (cl : Cls K C) (ha : PySem.W.findIn K (.ref C) "__class__" = some (some (.builtin "object.__class__")))
      (hn : PySem.W.specialIn K (.builtin "object.__class__") "__get__" = some (some (.builtin "getset_descriptor.__get__"))) (htk : PySem.W.takesIn K (.builtin "object.__class__") = some true)
      (hm : PySem.W.mroIn K C (.type "object") = some true) : TyOf K H (.ref a) (.ref C)
/-- isinstance(x, c) for one class c, a built-in or an own one: kitOne's answer -/
theorem isinst_ok {x : V} {u t : Value} (I : Inv X pins σ H s) (rx : RelV x u) (ty : TyOf X.K H x t) (e : PySem.W.kitOne X.K t c = some b) (h : ∀ tk, Q (.bool b) { s with toks := tk }) :
    wpAny (model X.prog X.w) A (call (.builtin "isinstance") [u, c]) Q E s := by
  cases ty with
  | non => cases (show u = Value.none from rx); exact PySem.W.kia_one PySem.W.kitx_none I.kIn True.intro e (fun z => nomatch z) h
  | bl y => cases (show u = Value.bool y from rx); exact PySem.W.kia_one PySem.W.kitx_bool I.kIn True.intro e (fun z => nomatch z) h
  | int i => obtain ⟨t, q⟩ := (show ∃ t, u = Value.int i t from rx); cases q; exact PySem.W.kia_one PySem.W.kitx_int I.kIn True.intro e (fun z => nomatch z) h
  | str y => obtain ⟨t, q⟩ := (show ∃ t, u = Value.str y t from rx); cases q; exact PySem.W.kia_one PySem.W.kitx_str I.kIn True.intro e (fun z => nomatch z) h
  | flt y => obtain ⟨t, q⟩ := (show ∃ t, u = Value.float y t from rx); cases q; exact PySem.W.kia_one PySem.W.kitx_float I.kIn True.intro e (fun z => nomatch z) h
  | @lst a xs ea =>
    cases (show u = Value.ref a from rx)
    obtain ⟨_, _, n, _, h1⟩ := (show ObjOk X.prog X.w H s.heap a (.lst xs) from I.hok a _ ea)
    exact PySem.W.kia_one PySem.W.kitx_list I.kIn ⟨_, h1, rfl⟩ e (fun z => nomatch z) h
  | @frz a ob xs ea =>
    cases (show u = Value.ref a from rx)
    obtain ⟨_, _, _, n, _, h1⟩ := (show ObjOk X.prog X.w H s.heap a (.frz ob (.lst xs)) from I.hok a _ ea)
    exact PySem.W.kia_one PySem.W.kitx_list I.kIn ⟨_, h1, rfl⟩ e (fun z => nomatch z) h
  | @tup a xs ea =>
    cases (show u = Value.ref a from rx)
    obtain ⟨_, _, _, p⟩ := (show ObjOk X.prog X.w H s.heap a (.tup xs) from I.hok a _ ea)
    obtain ⟨o, h1, h2, _⟩ := p
    exact PySem.W.kia_one PySem.W.kitx_tuple I.kIn ⟨o, h1, h2⟩ e (fun z => nomatch z) h
  | @dK a kvs ea =>
    cases (show u = Value.ref a from rx)
    obtain ⟨_, _, vs, _, p⟩ := (show ObjOk X.prog X.w H s.heap a (.dK kvs) from I.hok a _ ea)
    obtain ⟨o, es, ep, h1, h2, _⟩ := p
    exact PySem.W.kia_one PySem.W.kitx_dict I.kIn ⟨o, h1, h2.1⟩ e (fun z => nomatch z) h
  | @dT a kvs ea =>
    cases (show u = Value.ref a from rx)
    obtain ⟨_, _, xs, _, o, es, ep, h1, h2, _⟩ := (show ObjOk X.prog X.w H s.heap a (.dT kvs) from I.hok a _ ea)
    exact PySem.W.kia_one PySem.W.kitx_dict I.kIn ⟨o, h1, h2.1⟩ e (fun z => nomatch z) h
  | @ins a C dx fs ea cl ha hn htk hm =>
    cases (show u = Value.ref a from rx)
    obtain ⟨mA, O, _⟩ := ins_get I.hok ea
    obtain ⟨od, J, _⟩ := O.look
    exact PySem.W.kia_one (PySem.W.kitx_own (cl.get _) cl.hd ha hn htk hm) I.kIn J e (fun z => nomatch z) h
end
end L2

namespace L2
open PySem PySem.Spec PyProof.Rows

/-! ### room -/
structure Room (k : Nat) (A : Around) : Prop where
  hd : A.handled = none
  dp : A.depth + 3 * k + 5 < recursionLimit
  un : A.units + 16 * k + 200 < cLine
theorem Room.mono {j k : Nat} {A : Around} (r : Room k A) (h : j ≤ k) : Room j A := ⟨r.hd, by have := r.dp; omega, by have := r.un; omega⟩
theorem Room.deeper {k : Nat} {A : Around} (r : Room (k + 1) A) (env : Env) : Room k (A.deeper env) :=
  ⟨r.hd, by have := r.dp; show A.depth + 1 + 3 * k + 5 < _; omega, by have := r.un; show A.units + 3 + 16 * k + 200 < _; omega⟩
theorem Room.depth {k : Nat} {A : Around} (r : Room k A) : A.depth < recursionLimit := by have := r.dp; omega
theorem Room.units {k : Nat} {A : Around} (r : Room k A) : A.units + 64 < cLine := by have := r.un; omega

/-! ### argument lists and displays -/
def tNil : TA := fun _ H Q => Q [] H
def tCons (ta : TE) (tr : TA) : TA := fun σ H Q => ta σ H fun x H1 => tr σ H1 fun xs H2 => Q (x :: xs) H2
section
variable {X : Cx} {e : Expr} {es : List Expr} {te : TE} {t : TA} {pos : Pos}
theorem pa_nil : PA X [] tNil := fun _ _ _ _ H Q I h => Calls.spliced_nil ⟨[], H, I, .nil, h⟩
theorem pa_cons (ha : PE X e te) (hr : PA X es t) (hs : starEach (e :: es) X.env = (false, eval e X.env) :: starEach es X.env := by rfl) : PA X (e :: es) (tCons te t) := by
  intro pos pins s σ H Q I h
  rw [hs]
  show wpAny _ _ (spliced ((false, eval e X.env) :: backTo pos (starEach es X.env))) _ _ s
  refine Calls.spliced_cons (thn (ha pins s σ H _ I h) fun u s1 ⟨x, H1, I1, r1, q1⟩ => ?_)
  exact thn (hr pos pins s1 σ H1 _ I1 q1) fun us s2 ⟨xs, H2, I2, r2, q2⟩ => ⟨x :: xs, H2, I2, .cons r1 r2, q2⟩

/-- a tuple, a list of written items -/
def tTup (t : TA) : TE := fun σ H Q => t σ H fun xs H1 => xs.length ≤ sizeLine ∧ ∀ p, H1 p = none → Q (.ref p) (upd H1 p (.tup xs))
def tLst (t : TA) : TE := fun σ H Q => t σ H fun xs H1 => xs.length ≤ sizeLine ∧ ∀ p, H1 p = none → Q (.ref p) (upd H1 p (.lst xs))
theorem pe_tup {x1} (h : PA X es t) : PE X (.Tuple es x1 pos) (tTup t) := by
  intro pins s σ H Q I hq
  refine wpAny_Tuple_spliced (thn (h pos pins s σ H _ I hq) fun us s1 ⟨xs, H1, I1, r, z, q⟩ => ⟨by rw [← r.length]; exact z, ?_⟩)
  have hf : H1 s1.heap.objs.size = none := I1.hok.fresh (Nat.le_refl _)
  refine ⟨.ref s1.heap.objs.size, upd H1 s1.heap.objs.size (.tup xs), I1.laid (t' := s1.toks) (fun b u e => Heap.get?_push_of_some _ e) (Nat.le_refl _) ?_, rfl, q _ hf⟩
  exact ⟨z, us, r, ⟨_, Heap.get?_push_size _ rfl, rfl, _, rfl⟩⟩
theorem pe_lst (h : PA X es t) : PE X (.List es pos) (tLst t) := by
  intro pins s σ H Q I hq
  refine wpAny_List_spliced (thn (h pos pins s σ H _ I hq) fun us s1 ⟨xs, H1, I1, r, z, q⟩ => ⟨by rw [← r.length]; exact z, ?_⟩)
  have hf : H1 s1.heap.objs.size = none := I1.hok.fresh (Nat.le_refl _)
  refine ⟨.ref s1.heap.objs.size, upd H1 s1.heap.objs.size (.lst xs), I1.laid (t' := s1.toks) (fun b u e => Heap.get?_push_of_some _ e) (Nat.le_refl _) ?_, rfl, q _ hf⟩
  exact ⟨z, us, 0, r, Heap.get?_push_size _ rfl⟩
end

/-! ### what a def promises -/
/-- a def's promise: the bound arguments in the parameters' order, the heap, the wanted end, the wanted exception -/
abbrev Sp := List V → Hp → VK → XK → Prop
/-- how an exception lies behind a call (file 08 gives it): the callers' frames, abstract heap and state ahead of the call, the wish, the exception, the state -/
abbrev CXT := List Env → Hp → Shared → XK → Value → Shared → Prop

/-- the state at a call -/
structure Env0 (P : Program) (w : World) (K : PySem.W.Frag) (mg : Str → Option Value) (base : Heap) (A : Around) (outer : List Env) (s : Shared) (H : Hp) : Prop where
  frames : A.frames = some outer
  mod : Mod K mg base
  bs : ∀ b o, base.get? b = some o → s.heap.get? b = some o ∧ H b = none
  bsz : base.objs.size ≤ s.heap.objs.size
  funs : s.heap.FunFrames base outer
  frf : ∀ b ∈ frs outer, H b = none
  hok : HOk P w H s.heap
  bare : AllBare s.gens
/-- a call's end -/
def CE (outer : List Env) (P : Program) (w : World) (H : Hp) (s : Shared) (Q : VK) (u : Value) (s' : Shared) : Prop :=
  ∃ v H', s'.os = s.os ∧ AllBare s'.gens ∧ Un (frs outer) [] H H' s.heap s'.heap ∧ HOk P w H' s'.heap ∧ RelV v u ∧ Q v H'
def CR (CX : CXT) (outer : List Env) (P : Program) (w : World) (H : Hp) (s : Shared) (Q : VK) (E : XK) (r : Result) (s' : Shared) : Prop :=
  match r with
  | .ok (.ret u) => CE outer P w H s Q u s'
  | .ok _ => False
  | .error e => CX outer H s E e s'
structure FnOk (P : Program) (w : World) (K : PySem.W.Frag) (mg : Str → Option Value) (base : Heap) (CX : CXT) (k : Nat) (f : Addr) (fd : FuncData) (ps : List Str) (sp : Sp) : Prop where
  len : ∀ vs H Q E, sp vs H Q E → vs.length = ps.length
  run : ∀ (A : Around) (outer : List Env) (s : Shared) (H : Hp) (args : Args) (us : List Value) (vs : List V) (Q : VK) (E : XK), Room k A → Env0 P w K mg base A outer s H → BindsTo s fd args (ps.zip us) → Vals vs us → sp vs H Q E →
    codeAny (model P w) A (.call (.ref f) args) (CR CX outer P w H s Q E) s
theorem FnOk.mono {P : Program} {w : World} {K : PySem.W.Frag} {mg : Str → Option Value} {base : Heap} {CX : CXT} {j k : Nat} {f : Addr} {fd : FuncData} {ps : List Str} {sp : Sp} (F : FnOk P w K mg base CX j f fd ps sp) (h : j ≤ k) :
    FnOk P w K mg base CX k f fd ps sp := ⟨F.len, fun A outer s H args us vs Q E hr => F.run A outer s H args us vs Q E (hr.mono h)⟩


section
variable {X : Cx} {pins : List (Addr × Obj)} {σ : St} {H : Hp} {s s' : Shared}
/-- from a body: what a callee wants -/
theorem Inv.env0 (I : Inv X pins σ H s) : Env0 X.prog X.w X.K X.mg X.base X.A X.stack s H :=
  ⟨I.ok.frames, I.ok.mod, I.bs, Nat.le_trans I.ok.bsz I.sz, I.stack, I.stkFree, I.hok, I.bare⟩
/-- behind a call -/
theorem Inv.after {Q : VK} {u : Value} (I : Inv X pins σ H s) (h : CE X.stack X.prog X.w H s Q u s') : EP X pins σ Q u s' := by
  obtain ⟨v, H', os, bare, un, hok, r, q⟩ := h
  obtain ⟨hh, g, d, t, os'⟩ := s'
  obtain rfl : os' = s.os := os
  exact ⟨v, H', I.call (h' := hh) (g' := g) (d' := d) (t' := t) (ch := []) un hok bare (fun b z => absurd z (by simp)), r, q⟩
end

/-! ### calls -/
/-- f(..): the written arguments, then the defaults dvs; E: what is wanted of an exception -/
def tCall (sp : Sp) (dvs : List V) (E : XK) (t : TA) : TE := fun σ H Q => t σ H fun vs H1 => sp (vs ++ dvs) H1 Q E

/-- how the parameters are bound: us the positional arguments, kw the keywords' values by name, ds the defaults that fill up -/
def Binds (K : PySem.W.Frag) (fd : FuncData) (ps : List Str) (ds : List Value) : Prop :=
  ∀ (s : Shared) (us : List Value), K.In s.heap → (us ++ ds).length = ps.length → BindsTo s fd ⟨us, []⟩ (ps.zip (us ++ ds))
/-- every parameter is given -/
theorem Binds.all {K : PySem.W.Frag} {fd : FuncData} {ps : List Str} (h : ∀ us : List Value, us.length = ps.length → bindArgs fd ⟨us, []⟩ = pure (ps.zip us)) : Binds K fd ps [] := fun s us _ hl => by
  rw [List.append_nil] at hl ⊢
  exact .of_eq (h us hl)

/-- an exception of a callee reaches what this body wants of exceptions -/
def Passes (CX : CXT) (X : Cx) (E : XK) : Prop := ∀ (pins : List (Addr × Obj)) (σ : St) (H : Hp) (s : Shared) (e : Value) (s' : Shared), Inv X pins σ H s → CX X.stack H s E e s' → X.xe e s'

section
variable {X : Cx} {CX : CXT} {k : Nat} {f C : Addr} {fd : FuncData} {ps : List Str} {sp : Sp} {dvs : List V} {ds : List Value} {E : XK} {x m : Str} {p pos apos : Pos} {e o : Expr} {es : List Expr} {ta : TE} {t : TA}

/-- the callee runs -/
theorem run_fn {pins : List (Addr × Obj)} {σ : St} {H : Hp} {s : Shared} {Q : VK} {us : List Value} {vs : List V} (F : FnOk X.prog X.w X.K X.mg X.base CX k f fd ps sp) (hr : Room k X.A) (hb : Binds X.K fd ps ds) (hd : Vals dvs ds) (hx : Passes CX X E)
    (I : Inv X pins σ H s) (r : Vals vs us) (h : sp (vs ++ dvs) H Q E) : wpAny (model X.prog X.w) X.A (call (.ref f) us) (EP X pins σ Q) X.xe s := by
  have r2 : Vals (vs ++ dvs) (us ++ ds) := r.append hd
  have hl : (us ++ ds).length = ps.length := by rw [← r2.length]; exact F.len _ _ _ _ h
  refine wpAny_call (codeAny_mono (F.run X.A X.stack s H ⟨us, []⟩ (us ++ ds) (vs ++ dvs) Q E hr I.env0 (hb s us I.kIn hl) r2 h) fun r s' hq => ?_)
  cases r with
  | error e => exact hx pins σ H s e s' I hq
  | ok fl =>
    cases fl with
    | ret u => exact I.after hq
    | next => exact False.elim hq
    | brk => exact False.elim hq
    | cont => exact False.elim hq

theorem pe_call (F : FnOk X.prog X.w X.K X.mg X.base CX k f fd ps sp) (hr : Room k X.A) (hg : Gl X x) (hm : X.mg x = some (.ref f)) (hk : PySem.W.keepIn X.K (.ref f) = true) (hb : Binds X.K fd ps ds) (hd : Vals dvs ds) (hx : Passes CX X E)
    (ha : PA X (e :: es) t) (hdb : (x == ("__debug__" : Str)) = false := by decide) (he : starEach (e :: es) X.env = (false, eval e X.env) :: starEach es X.env := by rfl) (hpl : (backTo pos (starEach es X.env)).any (·.1) = false := by rfl) :
    PE X (.Call (.Name x p) (e :: es) [] pos) (tCall sp dvs E t) := by
  intro pins s σ H Q I h
  refine wpAny_Call_Name_kw (ld_glob I hg hm ?_ hdb)
  refine PySem.W.callWith_K (h₀ := X.base) I.ok.mod.kin hk (thn (ha pos pins s σ H _ I h) fun us s1 ⟨vs, H1, I1, r, q⟩ => ⟨I1.kIn, ?_⟩) he hpl
  exact run_fn F hr hb hd hx I1 r q
theorem pe_call0 (F : FnOk X.prog X.w X.K X.mg X.base CX k f fd ps sp) (hr : Room k X.A) (hg : Gl X x) (hm : X.mg x = some (.ref f)) (hk : PySem.W.keepIn X.K (.ref f) = true) (hb : Binds X.K fd ps ds) (hd : Vals dvs ds) (hx : Passes CX X E)
    (hdb : (x == ("__debug__" : Str)) = false := by decide) : PE X (.Call (.Name x p) [] [] pos) (tCall sp dvs E tNil) := by
  intro pins s σ H Q I h
  refine wpAny_Call_Name_kw (ld_glob I hg hm ?_ hdb)
  exact PySem.W.callWith_K0 I.kIn hk (run_fn (us := []) F hr hb hd hx I .nil h)



end

/-! ### keywords -/
section
variable {X : Cx} {CX : CXT} {k : Nat} {f C : Addr} {fd : FuncData} {ps ks : List Str} {sp : Sp} {E : XK} {x m : Str} {p pos apos kpos : Pos} {e o : Expr} {es : List Expr} {kws : List Keyword} {te ta : TE} {t tk : TA} {nm : Option Str}

variable {g : List Value → List Value → List Value} {gV : List V → List V → List V}
end

/-! ### a def's body keeps its promise -/
/-- names: the parameters first -/
structure FnScope (N P : List Str) (sc : Scope) : Prop where
  kind : sc.kind = .function
  co : sc.isCoroutine = false
  gen : sc.isGenerator = false
  nd : N.Nodup
  pre : N.take P.length = P
  par : ∀ x ∈ P, sc.names.lookup x = some .local ∨ sc.names.lookup x = some .cell
  nofree : ∀ y ∈ sc.names, y.2 ≠ .free

theorem bindL_out {kindOf : Str → Option NameKind} {x : Str} : ∀ {binds : List (Str × Value)} {m : Str → Option Value}, (∀ v, (x, v) ∉ binds) → bindL kindOf binds m x = m x
  | [], _, _ => rfl
  | (n, v) :: r, m, h => by
    unfold bindL
    rw [bindL_out fun w hw => h w (List.mem_cons_of_mem _ hw)]
    split
    · have : x ≠ n := by rintro rfl; exact h v List.mem_cons_self
      simp [this]
    · rfl
theorem bindC_out {kindOf : Str → Option NameKind} {x : Str} : ∀ {binds : List (Str × Value)} {m : Str → Option Value}, (∀ v, (x, v) ∉ binds) → bindC kindOf binds m x = m x
  | [], _, _ => rfl
  | (n, v) :: r, m, h => by
    unfold bindC
    rw [bindC_out fun w hw => h w (List.mem_cons_of_mem _ hw)]
    split
    · rfl
    · have : x ≠ n := by rintro rfl; exact h v List.mem_cons_self
      simp [this]
theorem bindL_get {kindOf : Str → Option NameKind} {x : Str} {v : Value} : ∀ {P : List Str} {vs : List Value} {i : Nat} {m : Str → Option Value}, P.Nodup → P[i]? = some x → vs[i]? = some v → kindOf x = some .local →
    bindL kindOf (P.zip vs) m x = some v
  | [], _, _, _, _, h, _, _ => by simp at h
  | _ :: _, [], _, _, _, _, h, _ => by simp at h
  | p :: P, w :: vs, 0, m, nd, h1, h2, hk => by
    simp at h1 h2; subst h1; subst h2
    show bindL kindOf ((p, w) :: P.zip vs) m p = _
    unfold bindL
    rw [bindL_out fun v hv => (List.nodup_cons.mp nd).1 (List.of_mem_zip hv).1, if_pos hk]
    simp
  | p :: P, w :: vs, i + 1, m, nd, h1, h2, hk => by
    show bindL kindOf ((p, w) :: P.zip vs) m x = _
    unfold bindL
    exact bindL_get (i := i) (List.nodup_cons.mp nd).2 (by simpa using h1) (by simpa using h2) hk
theorem bindC_get {kindOf : Str → Option NameKind} {x : Str} {v : Value} : ∀ {P : List Str} {vs : List Value} {i : Nat} {m : Str → Option Value}, P.Nodup → P[i]? = some x → vs[i]? = some v → kindOf x ≠ some .local →
    bindC kindOf (P.zip vs) m x = some v
  | [], _, _, _, _, h, _, _ => by simp at h
  | _ :: _, [], _, _, _, _, h, _ => by simp at h
  | p :: P, w :: vs, 0, m, nd, h1, h2, hk => by
    simp at h1 h2; subst h1; subst h2
    show bindC kindOf ((p, w) :: P.zip vs) m p = _
    unfold bindC
    rw [bindC_out fun v hv => (List.nodup_cons.mp nd).1 (List.of_mem_zip hv).1, if_neg hk]
    simp
  | p :: P, w :: vs, i + 1, m, nd, h1, h2, hk => by
    show bindC kindOf ((p, w) :: P.zip vs) m x = _
    unfold bindC
    exact bindC_get (i := i) (List.nodup_cons.mp nd).2 (by simpa using h1) (by simpa using h2) hk

/-- the names' values at the entry -/
def start (N : List Str) (vs : List V) : St := vs.map some ++ List.replicate (N.length - vs.length) none

/-- the context of a def's body, at its entry; an exception leaves the frame, then lies as CX says -/
def cxOf (CX : CXT) (P : Program) (w : World) (K : PySem.W.Frag) (mg : Str → Option Value) (base : Heap) (N : List Str) (qual : Str) (scope : Scope) (f : Addr) (cd : Value) (A : Around) (outer : List Env) (s : Shared) (H : Hp) (E : XK) : Cx where
  prog := P
  w := w
  K := K
  mg := mg
  base := base
  A := A.deeper (envOfC qual scope s.heap.objs.size f cd)
  N := N
  s₀ := s
  H₀ := H
  env := envOfC qual scope s.heap.objs.size f cd
  outer := outer
  stack := envOfC qual scope s.heap.objs.size f cd :: outer
  ex := []
  calm := true
  fn := fun _ => true
  pn := []
  xe := fun e s' => wpAny (model P w) (A.deeper (envOfC qual scope s.heap.objs.size f cd)) (leaving (envOfC qual scope s.heap.objs.size f cd) e) (fun _ s'' => CX outer H s E e s'') (fun e' s'' => CX outer H s E e' s'') s'

theorem cell_has {sc : Scope} {n : Nat} {x : Str} (h : sc.names.lookup x = some .cell) : ∃ c, (cellsFrom n sc.names []).lookup x = some c := by
  have q := PySem.W.cellsFrom_some sc.names n [] (.inl h)
  exact Option.isSome_iff_exists.mp q

theorem inv_start {CX : CXT} {P : Program} {w : World} {K : PySem.W.Frag} {mg : Str → Option Value} {base : Heap} {N ps : List Str} {qual : Str} {scope : Scope} {f : Addr} {cd : Value} {A : Around} {outer : List Env} {s s1 : Shared} {H : Hp} {E : XK} {us : List Value} {vs : List V}
    (S : FnScope N ps scope) (hd : A.handled = none) (e0 : Env0 P w K mg base A outer s H) (hl : vs.length = ps.length) (r : Vals vs us)
    (x : InCallC s s.heap.objs.size (bindL (envOfC qual scope s.heap.objs.size f cd).kindOf (ps.zip us) fun _ => none) (cellsFrom (s.heap.objs.size + 1) scope.names []) (bindC (envOfC qual scope s.heap.objs.size f cd).kindOf (ps.zip us) fun _ => none) s1) :
    Inv (cxOf CX P w K mg base N qual scope f cd A outer s H E) [] (start N vs) H s1 := by
  have hpl : ps.length ≤ N.length := by have := congrArg List.length S.pre; rw [List.length_take] at this; omega
  obtain ⟨h1, tk, rfl, hk⟩ := x.done
  have noA : ∀ b : Addr, b ∉ (cxOf CX P w K mg base N qual scope f cd A outer s H E).ex := fun b z => absurd (show b ∈ ([] : List Addr) from z) (by simp)
  refine ⟨⟨e0.mod, S.kind, rfl, rfl, Nat.le_refl _, fun y z c h1 h2 => ?_, fun y hy => ?_, fun y c _ h => ?_, fun _ => hd, Around.frames_deeper e0.frames, .inr ⟨rfl, rfl⟩, fun b z => absurd z (noA b), e0.bs, e0.bsz, fun b _ _ => noA b, fun b z => absurd z (noA b), e0.funs, e0.frf⟩,
    rfl, e0.bare, Un.kept hk, ⟨_, x.toInCall.ns, fun i y v h1 h2 h3 => ?_⟩, fun y c h => ⟨_, x.cell y c h⟩, e0.hok.fresh (Nat.le_refl _), fun y c h => ?_, fun p hp => absurd (show p ∈ ([] : List (Addr × Obj)) from hp) (by simp), e0.hok.kept hk, ?_⟩
  · exact name_of_addr x.apart (PySem.mem_of_lookup h1) (PySem.mem_of_lookup h2)
  · have hy : scope.names.lookup y = some .cell ∨ scope.names.lookup y = some .free := hy
    rcases hy with hy | hy
    · exact cell_has hy
    · exact absurd rfl (S.nofree _ (PySem.mem_of_lookup hy))
  · exact Nat.le_of_lt (x.above y c (PySem.mem_of_lookup h))
  · have hi : i < vs.length := by
      unfold start at h2
      by_cases hi : i < vs.length
      · exact hi
      · rw [List.getElem?_append_right (by simpa using hi)] at h2
        rw [List.getElem?_replicate] at h2
        split at h2 <;> cases h2
    have ha : vs[i]? = some v := by
      unfold start at h2
      rw [List.getElem?_append_left (by simpa using hi), List.getElem?_map] at h2
      cases e : vs[i]? with
      | none => rw [e] at h2; cases h2
      | some a => rw [e] at h2; cases h2; rfl
    obtain ⟨u, hu, rv⟩ := r.get ha
    have hp : ps[i]? = some y := by
      rw [← S.pre, List.getElem?_take_of_lt (by omega)]; exact h1
    have ndP : ps.Nodup := by rw [← S.pre]; exact S.nd.sublist (List.take_sublist _ _)
    refine ⟨u, rv, ?_⟩
    rcases S.par y (List.mem_of_getElem? hp) with k | k
    · exact .inl ⟨k, bindL_get ndP hp hu k⟩
    · obtain ⟨c, e⟩ := cell_has (n := s.heap.objs.size + 1) k
      refine .inr ⟨.inl k, c, e, ?_⟩
      have q := x.cell y c e
      rw [bindC_get ndP hp hu (by show scope.names.lookup y ≠ _; rw [k]; decide)] at q
      exact q
  · exact e0.hok.fresh (Nat.le_of_lt (x.above y c (PySem.mem_of_lookup h)))
  · unfold start
    show _ = N.length
    rw [List.length_append, List.length_map, List.length_replicate]
    omega

/-- THE RULE: a def (or a method) of the text, by its body. The body's reading t is chosen for each entry; it is run at the parameters' values -/
theorem fn_of {CX : CXT} {P : Program} {w : World} {K : PySem.W.Frag} {mg : Str → Option Value} {base : Heap} {k : Nat} {f : Addr} {name qual : Str} {params : Arguments} {body : List Stmt} {scope : Scope} {dV kV doc pm cdv ct oc : Value} {an od : Option Addr}
    {osl : Array (Option Value)} {N ps : List Str} {sp : Sp} (lk : K.lookup f = some ⟨oc, od, .func (PySem.W.fnOf name qual params body scope dV kV doc pm an cdv ct), osl⟩) (hcd : PySem.W.codeIn K cdv qual = true) (S : FnScope N ps scope)
    (len : ∀ vs H Q E, sp vs H Q E → vs.length = ps.length)
    (hbody : ∀ (A : Around) (outer : List Env) (s : Shared) (H : Hp) (vs : List V) (Q : VK) (E : XK), Room k (A.deeper (envOfC qual scope s.heap.objs.size f cdv)) → sp vs H Q E →
      ∃ t, PSs (cxOf CX P w K mg base N qual scope f cdv A outer s H E) body t ∧ t { nx := fun _ H' => Q .non H', rt := Q } (start N vs) H) :
    FnOk P w K mg base CX (k + 1) f (PySem.W.fnOf name qual params body scope dV kV doc pm an cdv ct) ps sp := by
  refine ⟨len, fun A outer s H args us vs Q E hr e0 hb r hsp => ?_⟩
  have hl := len _ _ _ _ hsp
  have KX : K.In s.heap := e0.mod.kin.keeps fun b o e => (e0.bs b o e).1
  have lim : s.heap.NoLimit := e0.mod.nolimit.keeps fun b o e => (e0.bs b o e).1
  have hkind : ∀ y ∈ ps.zip us, scope.names.lookup y.1 = some .local ∨ (scope.names.lookup y.1 = some .cell ∧ ((cellsFrom (s.heap.objs.size + 1) scope.names []).lookup y.1).isSome = true) := fun ⟨n, v⟩ hy => by
    rcases S.par n (List.of_mem_zip hy).1 with q | q
    · exact .inl q
    · exact .inr ⟨q, PySem.W.cellsFrom_some _ _ _ (.inl q)⟩
  refine codeAny_call_function hr.depth (KX _ _ lk) rfl S.co S.gen rfl (PySem.W.codeRec_of KX hcd) (hb _ _ _ _ ?_)
  refine wpAny_newFunctionEnv_cells S.kind hkind fun env he s1 x => ?_
  subst he
  refine ⟨lim.keeps x.toInCall.keep, codeAny_func ?_⟩
  obtain ⟨t, ht, hq⟩ := hbody A outer s H vs Q E (hr.deeper _) hsp
  have I : Inv (cxOf CX P w K mg base N qual scope f cdv A outer s H E) [] (start N vs) H s1 := inv_start S hr.hd e0 hl r x
  refine wpAny_mono (ht [] s1 (start N vs) H _ I hq) (fun fl s' hs => ?_) fun e s' hs => hs
  have fin : ∀ {σ' : St} {H' : Hp} {v : V} {u : Value}, Inv (cxOf CX P w K mg base N qual scope f cdv A outer s H E) [] σ' H' s' → RelV v u → Q v H' → CE outer P w H s Q u s' :=
    fun {σ' H' v u} J rv q => ⟨v, H', J.os, J.bare, J.base, J.hok, rv, q⟩
  cases fl with
  | ret u =>
    obtain ⟨v, σ', H', J, rv, q⟩ := hs
    exact fin J rv q
  | next =>
    obtain ⟨σ', H', J, q⟩ := hs
    exact fin (v := V.non) (u := Value.none) J rfl q
  | brk =>
    obtain ⟨_, _, _, q⟩ := hs
    exact False.elim q
  | cont =>
    obtain ⟨_, _, _, q⟩ := hs
    exact False.elim q
end L2

namespace L2
open PySem PySem.Spec PyProof.Rows
section
variable {X : Cx} {x : Str} {p pos : Pos} {e : Expr} {es : List Expr} {t : TA} {id T : String} {r : List V → Hp → VK → Prop}

def tCB (r : List V → Hp → VK → Prop) (t : TA) : TE := fun σ H Q => t σ H fun vs H1 => r vs H1 Q
/-- f(e, ..), f a built-in function -/
theorem pe_callB (hc : CallR X (.builtin id) r) (hg : Gl X x) (hm : X.mg x = none) (hv : bootBuiltins x = some (.builtin id)) (ha : PA X (e :: es) t) (hn : x ≠ "__name__" := by decide) (hdb : (x == ("__debug__" : Str)) = false := by decide)
    (he : starEach (e :: es) X.env = (false, eval e X.env) :: starEach es X.env := by rfl) (hpl : (backTo pos (starEach es X.env)).any (·.1) = false := by rfl) : PE X (.Call (.Name x p) (e :: es) [] pos) (tCB r t) := by
  intro pins s σ H Q I h
  refine wpAny_Call_Name_kw (ld_blt I hg hm hv ?_ hn hdb)
  exact PyProof.Rows.callWith_builtin1 (thn (ha pos pins s σ H _ I h) fun us s1 ⟨vs, H1, I1, r1, q1⟩ => hc pins s1 σ H1 vs us Q I1 r1 q1) he hpl
/-- T(e, ..), T a built-in type -/
theorem pe_callTy (hc : CallR X (.type T) r) (hg : Gl X x) (hm : X.mg x = none) (hv : bootBuiltins x = some (.type T)) (ha : PA X (e :: es) t) (hn : x ≠ "__name__" := by decide) (hdb : (x == ("__debug__" : Str)) = false := by decide)
    (he : starEach (e :: es) X.env = (false, eval e X.env) :: starEach es X.env := by rfl) (hpl : (backTo pos (starEach es X.env)).any (·.1) = false := by rfl) : PE X (.Call (.Name x p) (e :: es) [] pos) (tCB r t) := by
  intro pins s σ H Q I h
  refine wpAny_Call_Name_kw (ld_blt I hg hm hv ?_ hn hdb)
  exact PyProof.Rows.callWith_type1 (thn (ha pos pins s σ H _ I h) fun us s1 ⟨vs, H1, I1, r1, q1⟩ => hc pins s1 σ H1 vs us Q I1 r1 q1) he hpl
end
end L2

namespace HT
open PySem PyProof.Rows



section
open PySem.SeqAt
open PySem.AutoSeq1 (wpAny_loadPart')
open PySem.MeetsSeq PySem.MeetsSeq2 PySem.MeetsSeq3

end

section
variable {prog : Program} {w : World} {A : Around} {E : Value → Shared → Prop} {s : Shared}


/-- t + u, t not empty -/
theorem cat_tup {t b : Addr} {vs ws : List Value} {Q : Value → Shared → Prop} (ht : IsTup s.heap t vs.toArray) (hb : IsTup s.heap b ws.toArray) (hv : vs ≠ [])
    (h1 : ws = [] → Q (.ref t) s) (h2 : ws ≠ [] → Q (.ref s.heap.objs.size) { s with heap := s.heap.push { cls := .type "tuple", data := .seq (vs ++ ws).toArray } })
    (hsz : vs.length + ws.length ≤ sizeLine) : wpAny (model prog w) A (binaryOp .Add (.ref t) (.ref b)) Q E s := by
  obtain ⟨⟨cls, dd, data, sl⟩, ho, hc, n, hd⟩ := id ht
  obtain ⟨⟨cls2, dd2, data2, sl2⟩, ho2, hc2, n2, hd2⟩ := id hb
  simp only at hc hd hc2 hd2
  subst hc hd hc2 hd2
  have e : vs.toArray ++ ws.toArray = (vs ++ ws).toArray := by simp
  by_cases hw : ws = []
  · exact concat_meets ⟨_, ho, rfl⟩ ⟨_, ho2, rfl⟩ noFill_tuple_add seq_tuple_add PySem.F.slot_tuple_add PySem.F.entry_tuple_add (PySem.F.args_tuple_add_2 _ _)
      (tuple_addW1 t b vs.toArray ws.toArray n n2 dd dd2 sl sl2 (by simpa using hv) (by simp [hw])) ⟨ho, ho2, h1 hw⟩
  · refine concat_meets ⟨_, ho, rfl⟩ ⟨_, ho2, rfl⟩ noFill_tuple_add seq_tuple_add PySem.F.slot_tuple_add PySem.F.entry_tuple_add (PySem.F.args_tuple_add_2 _ _)
      (tuple_addW2 t b vs.toArray ws.toArray n n2 dd dd2 sl sl2 (by simpa using hv) (by simpa using hw) (by rw [List.size_toArray, List.size_toArray]; exact hsz)) ⟨ho, ho2, ?_⟩
    rw [e]
    exact h2 hw

/-! ### t[a:b], not the whole -/
/-- a slice's bound as a place among n (d where it is left out) -/
def sIx (n d : Nat) : Option Int → Nat
  | none => d
  | some v => if v < 0 then (v + (n : Int)).toNat else min v.toNat n
theorem sIx_none (n d : Nat) : sIx n d none = d := rfl
theorem sIx_nat (n d k : Nat) : sIx n d (some (k : Int)) = min k n := by
  show (if (k : Int) < 0 then ((k : Int) + (n : Int)).toNat else min (k : Int).toNat n) = min k n
  rw [if_neg (by omega), Int.toNat_natCast]

end
end HT

namespace L2
open PySem PySem.Spec PyProof.Rows

/-! ### the parts of a slice -/
abbrev TO := St → Hp → (Option Int → Hp → Prop) → Prop
/-- a slice's part (left out, or an int) -/
def PO (X : Cx) (e : Option Expr) (t : TO) : Prop :=
  ∀ (pins : List (Addr × Obj)) (s : Shared) (σ : St) (H : Hp) (Q : Option Int → Hp → Prop), Inv X pins σ H s → t σ H Q →
    wpAny (model X.prog X.w) X.A (evalPart e X.env) (fun u s' => ∃ o H', Inv X pins σ H' s' ∧ IsPart u o ∧ Q o H') X.xe s
def tNoPart : TO := fun _ H Q => Q none H
def tPart (t : TE) : TO := fun σ H Q => t σ H fun x H1 => ∃ i, x = .int i ∧ Q (some i) H1

theorem intsAre_of {ns : List Int} : ∀ {us : List Value}, Vals (ns.map V.int) us → IntsAre us ns := by
  induction ns with
  | nil => intro us r; rw [List.map_nil] at r; cases r; exact .nil
  | cons n ns ih =>
    intro us r
    rw [List.map_cons] at r
    cases r with
    | cons r1 r2 =>
      obtain ⟨t, e⟩ := r1
      subst e
      exact .cons n t (ih r2)

section
variable {X : Cx} {e : Expr} {te : TE} {lo hi : Option Expr} {tl th : TO} {pos p2 : Pos}

theorem po_none : PO X none tNoPart := by
  intro pins s σ H Q I h
  rw [evalPart_none]
  exact wpAny_pure ⟨none, H, I, .none, h⟩
theorem po_some (h : PE X e te) : PO X (some e) (tPart te) := by
  intro pins s σ H Q I hw
  rw [evalPart_some]
  refine thn (h pins s σ H _ I hw) fun u s1 ⟨x, H1, I1, r1, q1⟩ => ?_
  obtain ⟨i, rfl, q⟩ := q1
  obtain ⟨t, rfl⟩ := r1
  exact ⟨some i, H1, I1, .int i t, q⟩

/-- what a slice of a value is, by values: the slice object stands at sl -/
def SlR (X : Cx) (r : V → Option Int → Option Int → Hp → VK → Prop) : Prop :=
  ∀ (pins : List (Addr × Obj)) (s : Shared) (σ : St) (H : Hp) (x : V) (v vl vu : Value) (lo hi : Option Int) (sl : Addr) (Q : VK), Inv X pins σ H s → RelV x v → s.heap.IsSliceOf sl vl vu .none → IsPart vl lo → IsPart vu hi → r x lo hi H Q →
    ∃ T id, typeLookup (.type T) "__getitem__" = pure (some (.builtin id)) ∧ s.TypeIs v T ∧ wpAny (model X.prog X.w) X.A (getItem v (.ref sl)) (EP X pins σ Q) X.xe s
def tSl (r : V → Option Int → Option Int → Hp → VK → Prop) (te : TE) (tl th : TO) : TE := fun σ H Q => te σ H fun x H1 => tl σ H1 fun l H2 => th σ H2 fun u H3 => r x l u H3 Q
/-- a[lo:hi], any a -/
theorem pe_slice {r : V → Option Int → Option Int → Hp → VK → Prop} (hr : SlR X r) (he : PE X e te) (hl : PO X lo tl) (hu : PO X hi th) : PE X (.Subscript e (.Slice lo hi none p2) pos) (tSl r te tl th) := by
  intro pins s σ H Q I h
  refine Subscript_ (thn (he pins s σ H _ I h) fun v s1 ⟨x, H1, I1, r1, q1⟩ => ?_)
  refine wpAny_Slice (thn (hl pins s1 σ H1 _ I1 q1) fun vl s2 ⟨l, H2, I2, pl, q2⟩ => thn (hu pins s2 σ H2 _ I2 q2) fun vu s3 ⟨u, H3, I3, pu, q3⟩ => ?_)
  rw [evalPart_none]
  refine wpAny_pure ?_
  have I4 : Inv X pins σ H3 { s3 with heap := s3.heap.push { cls := .type "slice", data := .fields #[vl, vu, .none] } } := I3.kept (t' := s3.toks) fun b ob q => Heap.get?_push_of_some _ q
  obtain ⟨T, id, hT, ht, hg⟩ := hr pins { s3 with heap := s3.heap.push { cls := .type "slice", data := .fields #[vl, vu, .none] } } σ H3 x v vl vu l u s3.heap.objs.size Q I4 r1 (Heap.IsSliceOf.new ..) pl pu q3
  show wpAny (model X.prog X.w) X.A (subscriptTail e (.Slice lo hi none p2) v (.ref s3.heap.objs.size)) (EP X pins σ Q) X.xe { s3 with heap := s3.heap.push { cls := .type "slice", data := .fields #[vl, vu, .none] } }
  exact tail_any (ops := [.ref s3.heap.objs.size, v]) ht hT hg (by with_unfolding_all rfl)

/-- the items of xs[lo:hi] -/
def cutV (xs : List V) (lo hi : Option Int) : List V := (xs.drop (HT.sIx xs.length 0 lo)).take (HT.sIx xs.length xs.length hi - HT.sIx xs.length 0 lo)
theorem cutV_length (xs : List V) (lo hi : Option Int) : (cutV xs lo hi).length ≤ xs.length := by
  unfold cutV
  rw [List.length_take, List.length_drop]
  omega

/-! ### t < u, t + u -/
/-- t + u, t not empty: u empty gives t itself -/
def rCatT (K : PySem.W.Frag) : R2 := fun x y H Q => ∃ a b xs ys, x = .ref a ∧ y = .ref b ∧ SqT K H a xs ∧ SqT K H b ys ∧ xs ≠ [] ∧ xs.length + ys.length ≤ sizeLine ∧
  (ys = [] → Q (.ref a) H) ∧ (ys ≠ [] → ∀ p, H p = none → Q (.ref p) (upd H p (.tup (xs ++ ys))))
theorem Vals.nil_iff {xs : List V} {us : List Value} (r : Vals xs us) : us = [] ↔ xs = [] := by
  cases r with
  | nil => simp
  | cons _ _ => simp
theorem op_catT : OpR X (binaryOp .Add) (rCatT X.K) := by
  intro pins s σ H x y v u Q I rx ry h
  obtain ⟨a, b, xs, ys, rfl, rfl, ha, hb, hx, hz, q1, q2⟩ := h
  cases rx
  cases ry
  obtain ⟨its, r1, p1, _⟩ := I.tuple ha
  obtain ⟨its2, r2, p2, _⟩ := I.tuple hb
  refine HT.cat_tup p1 p2 (fun z => hx (r1.nil_iff.mp z)) (fun z => ⟨.ref a, H, I, rfl, q1 (r2.nil_iff.mp z)⟩) (fun z => ?_) (by rw [← r1.length, ← r2.length]; exact hz)
  refine ⟨.ref s.heap.objs.size, _, I.laid (t' := s.toks) (o := .tup (xs ++ ys)) (fun b ob q => Heap.get?_push_of_some _ q) (Nat.le_refl _) ?_, rfl, q2 (fun w => z (r2.nil_iff.mpr w)) _ (I.hok.fresh (Nat.le_refl _))⟩
  exact ⟨by rw [List.length_append]; exact hz, _, r1.append r2, IsTup.new _ _⟩
end
end L2

namespace L2
open PySem PySem.Spec PyProof.Rows

/-! ### places -/
/-- the place that an index of any sign means -/
def ixN (n : Nat) (i : Int) : Option Nat := if 0 ≤ i then (if i < n then some i.toNat else none) else if -(n : Int) ≤ i then some (i + n).toNat else none
def atI {α : Type} (xs : List α) (i : Int) : Option α := (ixN xs.length i).bind fun j => xs[j]?
theorem ixN_seq {n : Nat} {i : Int} {j : Nat} (h : ixN n i = some j) : seqIndex? i n = some j ∧ j < n ∧ -(n : Int) ≤ i ∧ i < n := by
  unfold ixN at h
  by_cases h0 : 0 ≤ i
  · rw [if_pos h0] at h
    by_cases h1 : i < n
    · rw [if_pos h1] at h
      have e : i.toNat = j := Option.some.inj h
      exact ⟨by rw [seqIndex_of h0 h1, e], by omega, by omega, h1⟩
    · rw [if_neg h1] at h; cases h
  · rw [if_neg h0] at h
    by_cases h1 : -(n : Int) ≤ i
    · rw [if_pos h1] at h
      have e : (i + n).toNat = j := Option.some.inj h
      exact ⟨by rw [seqIndex_neg (by omega) h1, e], by omega, h1, by omega⟩
    · rw [if_neg h1] at h; cases h
theorem atI_get {α : Type} {xs : List α} {i : Int} {v : α} (h : atI xs i = some v) : ∃ j, seqIndex? i xs.length = some j ∧ xs[j]? = some v ∧ j < xs.length ∧ -(xs.length : Int) ≤ i ∧ i < xs.length := by
  unfold atI at h
  cases e : ixN xs.length i with
  | none => rw [e] at h; cases h
  | some j =>
    rw [e] at h
    obtain ⟨h1, h2, h3, h4⟩ := ixN_seq e
    exact ⟨j, h1, h, h2, h3, h4⟩
theorem atI_nat {α : Type} {xs : List α} {j : Nat} {v : α} (h : xs[j]? = some v) : atI xs (j : Int) = some v := by
  have hj : j < xs.length := (List.getElem?_eq_some_iff.mp h).1
  have e : ixN xs.length (j : Int) = some j := by
    unfold ixN
    rw [if_pos (by omega), if_pos (by omega)]; simp
  unfold atI; rw [e]; exact h

/-! ### what may be subscripted -/
/-- what stands as an index of a plain subscript -/
def PlainIx (b : Expr) : Prop := ∀ o i, subscripted b false o i = operate [o, i] (getItem o i)
/-- a subscript by values -/
def IxR (X : Cx) (r : R2) : Prop :=
  ∀ (value slice : Expr) (pins : List (Addr × Obj)) (s : Shared) (σ : St) (H : Hp) (x y : V) (v u : Value) (Q : VK), Inv X pins σ H s → RelV x v → RelV y u → r x y H Q →
    subscripted slice false v u = operate [v, u] (getItem v u) → wpAny (model X.prog X.w) X.A (subscriptTail value slice v u) (EP X pins σ Q) X.xe s
/-- a call of a builtin's method by values: the receiver, the arguments -/
def MtR (X : Cx) (id : String) (r : V → List V → Hp → VK → Prop) : Prop :=
  ∀ (pins : List (Addr × Obj)) (s : Shared) (σ : St) (H : Hp) (x : V) (xs : List V) (v : Value) (us : List Value) (Q : VK), Inv X pins σ H s → RelV x v → Vals xs us → r x xs H Q →
    wpAny (model X.prog X.w) X.A (call (.builtin id) (v :: us)) (EP X pins σ Q) X.xe s
section
variable {X : Cx} {a b : Expr} {ta tb : TE} {pos : Pos}
theorem IxR.or {r r' : R2} (h : IxR X r) (h' : IxR X r') : IxR X (fun x y H Q => r x y H Q ∨ r' x y H Q) := by
  intro value slice pins s σ H x y v u Q I rx ry q hs
  rcases q with q | q
  · exact h value slice pins s σ H x y v u Q I rx ry q hs
  · exact h' value slice pins s σ H x y v u Q I rx ry q hs
/-- a[b] -/
theorem pe_ix {r : R2} (hr : IxR X r) (ha : PE X a ta) (hb : PE X b tb) (hs : PlainIx b) : PE X (.Subscript a b pos) (tOp r ta tb) := by
  intro pins s σ H Q I h
  exact Subscript_ (binT ha hb I h fun v u s2 x y H2 I2 rx ry q => hr a b pins s2 σ H2 x y v u Q I2 rx ry q (hs _ _))

def rIxL (K : PySem.W.Frag) : R2 := fun x y H Q => ∃ p xs i v, x = .ref p ∧ y = .int i ∧ SqL K H p xs ∧ atI xs i = some v ∧ Q v H
def rIxT (K : PySem.W.Frag) : R2 := fun x y H Q => ∃ p xs i v, x = .ref p ∧ y = .int i ∧ SqT K H p xs ∧ atI xs i = some v ∧ Q v H
def rIxS : R2 := fun x y H Q => ∃ z i c, x = .str z ∧ y = .int i ∧ z.length ≤ sizeLine ∧ atI z.cps.toList i = some c ∧ Q (.str ⟨#[c]⟩) H
theorem ix_list : IxR X (rIxL X.K) := by
  intro value slice pins s σ H x y v u Q I rx ry h hs
  obtain ⟨p, xs, i, z, rfl, rfl, hq, he, q⟩ := h
  cases rx
  obtain ⟨t, rfl⟩ := ry
  obtain ⟨its, r, pl, hz⟩ := I.list hq
  obtain ⟨j, h1, h2, h3, h4, h5⟩ := atI_get he
  obtain ⟨w, ew, rw'⟩ := r.get h2
  have hl := r.length
  have hn := line63
  have fin : EP X pins σ Q w s := ⟨z, H, I, rw', q⟩
  by_cases h0 : 0 ≤ i
  · have hj : i.toNat = j := by
      rw [seqIndex_of h0 h5] at h1
      exact Option.some.inj h1
    exact item_listR pl.isList h0 (by omega) (by rw [hj]; simpa using ew) fin hs
  · have hj : (i + (its.toArray.size : Int)).toNat = j := by
      rw [seqIndex_neg (by omega) h4] at h1
      rw [List.size_toArray, ← hl]
      exact Option.some.inj h1
    exact subscriptTail_builtinR (x := w) pl.isList.typeIs slot_list_getitem.lookup
      (wpAny_getItem_list_neg (Q := fun r s' => r = w ∧ EP X pins σ Q r s') pl.isList (by omega) (by rw [List.size_toArray] <;> omega) (by omega) (by rw [hj]; simpa using ew) ⟨rfl, fin⟩) hs
theorem ix_tup : IxR X (rIxT X.K) := by
  intro value slice pins s σ H x y v u Q I rx ry h hs
  obtain ⟨p, xs, i, z, rfl, rfl, hq, he, q⟩ := h
  cases rx
  obtain ⟨t, rfl⟩ := ry
  obtain ⟨its, r, pl, hz⟩ := I.tuple hq
  obtain ⟨j, h1, h2, h3, h4, h5⟩ := atI_get he
  obtain ⟨w, ew, rw'⟩ := r.get h2
  have hl := r.length
  have hn := line63
  have fin : EP X pins σ Q w s := ⟨z, H, I, rw', q⟩
  exact subscriptTail_builtinR (x := w) pl.typeIs slot_tuple_getitem.lookup
    (getItem_tuple (j := j) (Q := fun r s' => r = w ∧ EP X pins σ Q r s') pl (by omega) (by omega) (by rw [List.size_toArray, ← hl]; exact h1) (by simpa using ew) ⟨rfl, fin⟩) hs
theorem ix_str : IxR X rIxS := by
  intro value slice pins s σ H x y v u Q I rx ry h hs
  obtain ⟨z, i, c, rfl, rfl, hz, he, q⟩ := h
  obtain ⟨t, rfl⟩ := rx
  obtain ⟨t', rfl⟩ := ry
  obtain ⟨j, h1, h2, h3, h4, h5⟩ := atI_get he
  have hl : z.cps.toList.length = z.length := by simp [Str.length]
  rw [hl] at h1 h4 h5
  have hn := line63
  exact tail_any (typeIs_str s z t) slot_str_getitem.lookup (getItem_str (c := c) (by
    have e1 : decide (i < -(2 ^ 63 : Int)) = false := decide_eq_false (by omega)
    have e2 : decide (i ≥ 2 ^ 63) = false := decide_eq_false (by omega)
    rw [e1, e2, Bool.or_false]) (by rw [h1]; simpa using h2) ⟨.str ⟨#[c]⟩, H, I.tok _, ⟨_, rfl⟩, q⟩) hs

/-! ### xs[i] = v, any sign -/

/-! ### slices -/
theorem slice_bounds (lo hi : Option Int) (n : Nat) : (sliceBounds lo hi none n).1 = ((HT.sIx n 0 lo : Nat) : Int) ∧ (sliceBounds lo hi none n).2.1 = ((HT.sIx n n hi : Nat) : Int) ∧ (sliceBounds lo hi none n).2.2 = 1 := by
  refine ⟨?_, ?_, rfl⟩
  · cases lo with
    | none => simp [sliceBounds, HT.sIx]
    | some i =>
      simp only [sliceBounds, HT.sIx, Option.getD_none, show (1 : Int) > 0 by decide, if_true]
      by_cases h : i < 0
      · simp only [h, if_true] <;> omega
      · simp only [h, if_false] <;> omega
  · cases hi with
    | none => simp [sliceBounds, HT.sIx]
    | some i =>
      simp only [sliceBounds, HT.sIx, Option.getD_none, show (1 : Int) > 0 by decide, if_true]
      by_cases h : i < 0
      · simp only [h, if_true] <;> omega
      · simp only [h, if_false] <;> omega
theorem slicePick_cut (its : List Value) (lo hi : Option Int) : slicePick its.toArray lo hi none = ((its.drop (HT.sIx its.length 0 lo)).take (HT.sIx its.length its.length hi - HT.sIx its.length 0 lo)).toArray := by
  obtain ⟨h1, h2, h3⟩ := slice_bounds lo hi its.toArray.size
  unfold slicePick
  rw [h1, h2, h3]
  simp only [sliceRange_one, pick_run, List.size_toArray] <;> rfl
/-- xs[lo:hi] of a list: a new list -/
def rSlL (K : PySem.W.Frag) : V → Option Int → Option Int → Hp → VK → Prop := fun x lo hi H Q => ∃ a xs, x = .ref a ∧ SqL K H a xs ∧ ∀ p, H p = none → Q (.ref p) (upd H p (.lst (cutV xs lo hi)))
theorem sl_list : SlR X (rSlL X.K) := by
  intro pins s σ H x v vl vu lo hi sl Q I rx hs pl pu h
  obtain ⟨a, xs, rfl, hx, q⟩ := h
  cases rx
  obtain ⟨its, r, ht, hz⟩ := I.list hx
  have hlen := r.length
  refine ⟨"list", _, slot_list_getitem.lookup, ht.isList.typeIs, ?_⟩
  refine wpAny_getItem_list_slice ht.isList hs pl pu .none (by simp) ?_ (by rw [List.size_toArray] <;> omega)
  rw [slicePick_cut, ← hlen]
  refine ⟨.ref s.heap.objs.size, _, I.laid (t' := s.toks) (o := .lst (cutV xs lo hi)) (fun b ob q => Heap.get?_push_of_some _ q) (Nat.le_refl _) ?_, rfl, q _ (I.hok.fresh (Nat.le_refl _))⟩
  exact ⟨Nat.le_trans (cutV_length xs lo hi) hz, _, 0, (r.drop (HT.sIx xs.length 0 lo)).take (HT.sIx xs.length xs.length hi - HT.sIx xs.length 0 lo), Heap.get?_push_size _ rfl⟩

/-! ### in, not in: flat items -/
def flatV : V → Bool
  | .non => true
  | .bl _ => true
  | .int _ => true
  | .str _ => true
  | _ => false
/-- == of flat values -/
def eqV : V → V → Bool
  | .non, .non => true
  | .bl a, .bl b => a == b
  | .bl a, .int b => (if a then 1 else 0) == b
  | .int a, .bl b => a == (if b then 1 else 0)
  | .int a, .int b => a == b
  | .str a, .str b => a == b
  | _, _ => false
theorem eqAt_V {A : Around} {s : Shared} {y x : V} {u v : Value} (ry : RelV y u) (rx : RelV x v) (fy : flatV y = true) (fx : flatV x = true) : SeqAt.EqAt A s u v (eqV y x) := by
  cases y with
  | non =>
    cases ry
    cases x with
    | non => cases rx; exact SeqAt.EqAt.same _
    | bl b => cases rx; exact SeqAt.EqAt.none_bool b
    | int b => obtain ⟨t, rfl⟩ := rx; exact SeqAt.EqAt.none_int b t
    | str b => obtain ⟨t, rfl⟩ := rx; exact SeqAt.EqAt.none_str b t
    | _ => exact absurd (show false = true from fx) Bool.false_ne_true
  | bl a =>
    cases ry
    cases x with
    | non => cases rx; exact SeqAt.EqAt.bool_none a
    | bl b => cases rx; exact SeqAt.EqAt.bool_bool a b
    | int b => obtain ⟨t, rfl⟩ := rx; exact SeqAt.EqAt.bool_int a b t
    | str b => obtain ⟨t, rfl⟩ := rx; exact SeqAt.EqAt.bool_str a b t
    | _ => exact absurd (show false = true from fx) Bool.false_ne_true
  | int a =>
    obtain ⟨t', rfl⟩ := ry
    cases x with
    | non => cases rx; exact SeqAt.EqAt.int_none a t'
    | bl b => cases rx; exact SeqAt.EqAt.int_bool a t' b
    | int b => obtain ⟨t, rfl⟩ := rx; exact SeqAt.EqAt.int_int a t' b t
    | str b => obtain ⟨t, rfl⟩ := rx; exact SeqAt.EqAt.int_str a t' b t
    | _ => exact absurd (show false = true from fx) Bool.false_ne_true
  | str a =>
    obtain ⟨t', rfl⟩ := ry
    cases x with
    | non => cases rx; exact SeqAt.EqAt.str_none a t'
    | bl b => cases rx; exact SeqAt.EqAt.str_bool a t' b
    | int b => obtain ⟨t, rfl⟩ := rx; exact SeqAt.EqAt.str_int a t' b t
    | str b => obtain ⟨t, rfl⟩ := rx; exact SeqAt.EqAt.str_str a t' b t
    | _ => exact absurd (show false = true from fx) Bool.false_ne_true
  | _ => exact absurd (show false = true from fy) Bool.false_ne_true
/-- the items' answers, read off the values (a value's own answer does not lean on its token) -/
def eqU (x : V) (u : Value) : Bool := match u with
  | .none => eqV .non x
  | .bool b => eqV (.bl b) x
  | .int i _ => eqV (.int i) x
  | .str z _ => eqV (.str z) x
  | _ => false
theorem eqU_of {x y : V} {u : Value} (r : RelV y u) (f : flatV y = true) : eqU x u = eqV y x := by
  cases y with
  | non => cases r; rfl
  | bl b => cases r; rfl
  | int i => obtain ⟨t, rfl⟩ := r; rfl
  | str z => obtain ⟨t, rfl⟩ := r; rfl
  | _ => exact absurd (show false = true from f) Bool.false_ne_true
theorem any_eqU {x : V} : ∀ {xs : List V} {us : List Value}, Vals xs us → xs.all flatV = true → us.any (eqU x) = xs.any fun y => eqV y x
  | _, _, .nil, _ => rfl
  | y :: xs, u :: us, .cons r t, f => by
    rw [List.all_cons, Bool.and_eq_true] at f
    rw [List.any_cons, List.any_cons, eqU_of r f.1, any_eqU t f.2]
theorem mem_eqAt {A : Around} {s : Shared} {x : V} {v : Value} (rx : RelV x v) (fx : flatV x = true) : ∀ {xs : List V} {us : List Value}, Vals xs us → xs.all flatV = true → ∀ u ∈ us, SeqAt.EqAt A s u v (eqU x u)
  | _, _, .nil, _ => fun u hu => by cases hu
  | y :: xs, u :: us, .cons r t, f => fun u' hu => by
    rw [List.all_cons, Bool.and_eq_true] at f
    rcases List.mem_cons.mp hu with rfl | hu
    · rw [eqU_of r f.1]; exact eqAt_V r rx f.1 fx
    · exact mem_eqAt rx fx t f.2 u' hu
def inV (x : V) (xs : List V) : Bool := xs.any fun y => eqV y x
/-- x in a list or tuple of flat items -/
def rIn (K : PySem.W.Frag) (neg : Bool) : R2 := fun x y H Q => ∃ p xs, y = .ref p ∧ (SqL K H p xs ∨ SqT K H p xs) ∧ flatV x = true ∧ xs.all flatV = true ∧ Q (.bl (if neg then !inV x xs else inV x xs)) H
theorem op_in_seq : OpR X (compareOp .In) (rIn X.K false) := by
  intro pins s σ H x y v u Q I rx ry h
  obtain ⟨p, xs, rfl, hq, fx, fs, q⟩ := h
  cases ry
  rcases hq with hq | hq
  · obtain ⟨its, r, pl, hz⟩ := I.list hq
    refine SeqAt.in_listAt (eqU x) pl.isList (fun w hw => mem_eqAt rx fx r fs w (by simpa using hw)) ⟨.bl _, H, I, rfl, ?_⟩
    rw [show its.toArray.any (eqU x) = its.any (eqU x) by simp, any_eqU r fs]
    exact q
  · obtain ⟨its, r, pl, hz⟩ := I.tuple hq
    refine SeqAt.in_tupleAt (eqU x) pl (fun w hw => mem_eqAt rx fx r fs w (by simpa using hw)) ⟨.bl _, H, I, rfl, ?_⟩
    rw [show its.toArray.any (eqU x) = its.any (eqU x) by simp, any_eqU r fs]
    exact q
theorem op_notIn_seq : OpR X (compareOp .NotIn) (rIn X.K true) := by
  intro pins s σ H x y v u Q I rx ry h
  obtain ⟨p, xs, rfl, hq, fx, fs, q⟩ := h
  cases ry
  rcases hq with hq | hq
  · obtain ⟨its, r, pl, hz⟩ := I.list hq
    refine SeqAt.notIn_listAt (eqU x) pl.isList (fun w hw => mem_eqAt rx fx r fs w (by simpa using hw)) ⟨.bl _, H, I, rfl, ?_⟩
    rw [show its.toArray.any (eqU x) = its.any (eqU x) by simp, any_eqU r fs]
    exact q
  · obtain ⟨its, r, pl, hz⟩ := I.tuple hq
    refine SeqAt.notIn_tupleAt (eqU x) pl (fun w hw => mem_eqAt rx fx r fs w (by simpa using hw)) ⟨.bl _, H, I, rfl, ?_⟩
    rw [show its.toArray.any (eqU x) = its.any (eqU x) by simp, any_eqU r fs]
    exact q

/-! ### len, list(x), tuple(x) of any list or tuple that is read -/

/-! ### the call of a builtin's method: o.m(..) -/
/-- the value is of that builtin type -/
def tyV (K : PySem.W.Frag) (T : String) (x : V) (H : Hp) : Prop := match x with
  | .str _ => T = "str"
  | .int _ => T = "int"
  | .ref p => (T = "list" ∧ ∃ xs, SqL K H p xs) ∨ (T = "tuple" ∧ ∃ o, K.lookup p = some o ∧ o.cls = .type "tuple" ∧ o.dict = none) ∨
      (T = "dict" ∧ ((∃ kvs, H p = some (.dK kvs)) ∨ ∃ kvs, H p = some (.dT kvs))) ∨ (T = "set" ∧ ∃ S n, H p = some (.set S n))
  | _ => False
theorem tyV_is {pins : List (Addr × Obj)} {σ : St} {H : Hp} {s : Shared} {T : String} {x : V} {v : Value} (I : Inv X pins σ H s) (r : RelV x v) (ty : tyV X.K T x H) :
    s.TypeIs v T ∧ ∀ a, v = .ref a → ∃ ob, s.heap.get? a = some ob ∧ ob.dict = none := by
  cases x with
  | str z =>
    obtain ⟨t, rfl⟩ := r
    cases (show T = "str" from ty)
    exact ⟨typeIs_str s z t, fun _ e => nomatch e⟩
  | int i =>
    obtain ⟨t, rfl⟩ := r
    cases (show T = "int" from ty)
    exact ⟨typeIs_int s i t, fun _ e => nomatch e⟩
  | ref p =>
    cases r
    rcases ty with ⟨rfl, xs, hq⟩ | ⟨rfl, o, hk, hc, hd⟩ | ⟨rfl, hk⟩ | ⟨rfl, S, n, hk⟩
    · obtain ⟨its, _, pl, _⟩ := I.list hq
      refine ⟨pl.isList.typeIs, fun a e => ?_⟩
      cases e
      obtain ⟨o, n, e, c, hd, _⟩ := pl
      exact ⟨o, e, hd⟩
    · refine ⟨⟨o, I.kIn p o hk, hc⟩, fun a e => ?_⟩
      cases e
      exact ⟨o, I.kIn _ o hk, hd⟩
    · have z : ∃ o, s.heap.get? p = some o ∧ o.ExactDict := by
        rcases hk with ⟨kvs, hk⟩ | ⟨kvs, hk⟩
        · obtain ⟨_, _, _, _, o, _, _, e, ex, _⟩ := I.hok p _ hk
          exact ⟨o, e, ex⟩
        · obtain ⟨_, _, _, _, o, _, _, e, ex, _⟩ := I.hok p _ hk
          exact ⟨o, e, ex⟩
      obtain ⟨o, e, ex⟩ := z
      refine ⟨⟨o, e, ex.1⟩, fun a e2 => ?_⟩
      cases e2
      exact ⟨o, e, ex.2.1⟩
    · obtain ⟨o, _, _, _, e, ex, _⟩ := I.hok p _ hk
      refine ⟨⟨o, e, ex.1⟩, fun a e2 => ?_⟩
      cases e2
      exact ⟨o, e, ex.2.1⟩
  | _ => exact False.elim ty
def tBM (K : PySem.W.Frag) (T : String) (r : V → List V → Hp → VK → Prop) (to : TE) (t : TA) : TE := fun σ H Q => to σ H fun x H1 => tyV K T x H1 ∧ t σ H1 fun xs H2 => r x xs H2 Q
variable {o e : Expr} {es : List Expr} {to : TE} {t : TA} {name : Str} {apos cpos : Pos} {T id : String} {r : V → List V → Hp → VK → Prop}
theorem pe_bm (pa : PlainAttrs T) (slot : Slot T name id) (hty : typeOf (.builtin id) = pure (.type "method_descriptor")) (hm : MtR X id r) (ho : PE X o to) (ha : PA X (e :: es) t)
    (hbase : attributeBase o name X.env (eval o X.env) = eval o X.env := by rfl)
    (hfew : ((backTo cpos (starEach (e :: es) X.env)).all (fun x => !x.1) && (backToKw cpos (keywordEach [] X.env)).all (fun x => x.1.isSome)
      && decide ((e :: es).length + ([] : List Keyword).length + (if ([] : List Keyword).isEmpty then 0 else 1) < 30)) = true := by rfl)
    (hline : (apos.endLine == cpos.line) = true := by rfl) (hs : starEach (e :: es) X.env = (false, eval e X.env) :: starEach es X.env := by rfl) (hplain : (backTo cpos (starEach es X.env)).any (·.1) = false := by rfl) :
    PE X (.Call (.Attribute o name apos) (e :: es) [] cpos) (tBM X.K T r to t) := by
  intro pins s σ H Q I h
  refine wpAny_Call_method_late hbase hfew hline rfl (thn (ho pins s σ H _ I h) fun v s1 ⟨x, H1, I1, r1, ty, q1⟩ => ?_)
  obtain ⟨h1, h2⟩ := tyV_is I1 r1 ty
  refine ⟨T, id, pa, slot, hty, h1, h2, ?_⟩
  have hA := ha cpos pins s1 σ H1 _ I1 q1
  rw [hs] at hA ⊢
  refine Calls.callWith_builtin (by show (false || (backTo cpos (starEach es X.env)).any (·.1)) = false; rw [hplain] <;> rfl) (Calls.evalArgs_plain ?_)
  exact thn hA fun us s2 ⟨vs, H2, I2, r2, q2⟩ => hm pins s2 σ H2 x vs v us Q I2 r1 r2 q2
/- xs.append(e), list.index on a module's tuple .. are MtR facts of 06m -/
end
end L2

namespace L2
open PySem PySem.Spec PyProof.Rows

def MtM (X : Cx) (id : String) (r : V → List V → Hp → VK → Prop) : Prop :=
  ∀ (pins : List (Addr × Obj)) (s : Shared) (σ : St) (H : Hp) (x : V) (xs : List V) (v : Value) (us : List Value) (Q : VK), Inv X pins σ H s → RelV x v → Vals xs us → r x xs H Q →
    wpAny (model X.prog X.w) X.A (call (.builtin id) (v :: us)) (EP X pins σ Q) X.xe s

/-! ### lists of values -/
theorem Vals.one : ∀ {x : V} {us : List Value}, Vals [x] us → ∃ u, us = [u] ∧ RelV x u
  | _, _, .cons r .nil => ⟨_, rfl, r⟩
theorem Vals.rep {xs : List V} {us : List Value} (h : Vals xs us) : ∀ k : Nat, Vals (List.replicate k xs).flatten (List.replicate k us).flatten
  | 0 => .nil
  | k + 1 => by
    rw [List.replicate_succ, List.replicate_succ, List.flatten_cons, List.flatten_cons]
    exact Vals.append h (Vals.rep h k)
theorem foldl_rep (its : List Value) : ∀ (k : Nat) (acc : List Value),
    List.foldl (fun x1 x2 => x1 ++ x2) acc.toArray (List.replicate k its.toArray) = (acc ++ (List.replicate k its).flatten).toArray
  | 0, acc => by simp
  | k + 1, acc => by
    have e : acc.toArray ++ its.toArray = (acc ++ its).toArray := by simp
    have e2 : (acc ++ its) ++ (List.replicate k its).flatten = acc ++ (List.replicate (k + 1) its).flatten := by
      rw [List.replicate_succ, List.flatten_cons, List.append_assoc]
    rw [← e2, ← foldl_rep its k (acc ++ its), ← e, List.replicate_succ, List.foldl_cons]

section
variable {X : Cx} {pins : List (Addr × Obj)} {σ : St} {H : Hp} {s : Shared} {l b : Addr} {xs ys zs : List V}

/-! ### the two steps: a tracked list is rewritten, a new list is laid -/
theorem Inv.lset {its its' : List Value} {n : Nat} {f : Array Value → Array Value} {t' : Nat} (I : Inv X pins σ H s) (hH : H l = some (.lst xs))
    (e : s.heap.get? l = some { cls := .type "list", data := .seq its.toArray n }) (hf : f its.toArray = its'.toArray) (hv : Vals ys its') (hz : ys.length ≤ sizeLine) :
    Inv X pins σ (upd H l (.lst ys)) { s with heap := s.heap.update l (Obj.mapSeq f), toks := t' } := by
  have q := PySem.IsL.update e f
  rw [hf] at q
  refine I.write (x := l) (e := l) (by rw [hH]; exact trivial) (.inl rfl) (fun b' u hb hu => (Heap.get?_update_other s.heap (Obj.mapSeq f) (Ne.symm hb)).trans hu) ⟨_, q⟩ ?_
  exact ⟨hz, its', _, hv, q⟩
theorem Inv.lnew {its : List Value} {t' : Nat} (I : Inv X pins σ H s) (hv : Vals ys its) (hz : ys.length ≤ sizeLine) :
    Inv X pins σ (upd H s.heap.objs.size (.lst ys)) { s with heap := s.heap.push { cls := .type "list", data := .seq its.toArray }, toks := t' } :=
  I.laid (fun _ _ q => Heap.get?_push_of_some _ q) (Nat.le_refl _) ⟨hz, its, 0, hv, Heap.get?_push_size _ rfl⟩
theorem Inv.fresh (I : Inv X pins σ H s) : H s.heap.objs.size = none := I.hok.fresh (Nat.le_refl _)
theorem Inv.lstM (I : Inv X pins σ H s) (hH : H l = some (.lst xs)) : xs.length ≤ sizeLine ∧ ∃ (its : List Value) (n : Nat), Vals xs its ∧ xs.length = its.length ∧ s.heap.get? l = some { cls := .type "list", data := .seq its.toArray n } := by
  obtain ⟨z, its, n, r, e⟩ := I.hok l _ hH
  exact ⟨z, its, n, r, r.length, e⟩

theorem notLongL {n : Nat} (h : n ≤ sizeLine) : Builtin.List.listTooLong n = false := by
  unfold Builtin.List.listTooLong
  exact decide_eq_false (by omega)
end

section
variable {X : Cx}

/-! ### methods -/
def rAppend : V → List V → Hp → VK → Prop := fun x vs H Q => ∃ l xs y, x = .ref l ∧ vs = [y] ∧ H l = some (.lst xs) ∧ xs.length < sizeLine ∧ Q .non (upd H l (.lst (xs ++ [y])))
theorem mt_append : MtM X "list.append" rAppend := by
  intro pins s σ H x vs v us Q I rx rv h
  obtain ⟨l, xs, y, rfl, rfl, hH, hz, q⟩ := h
  cases rx
  obtain ⟨u, rfl, ru⟩ := rv.one
  obtain ⟨z, its, n, r, hl, e⟩ := I.lstM hH
  refine call_meets F.slot_list_append ⟨_, e, rfl⟩ F.entry_list_append (F.args_list_append_2 _ _) (PySem.list_append l its.toArray n u (by rw [List.size_toArray]; omega)) ⟨e, ?_⟩
  refine ⟨.non, _, I.lset (its' := its ++ [u]) hH e (by simp) (r.append (.cons ru .nil)) ?_, rfl, q⟩
  rw [List.length_append, List.length_singleton]
  omega






/-! ### list + list, list += list, list * int -/
def rCat : R2 := fun x y H Q => ∃ l b xs zs, x = .ref l ∧ y = .ref b ∧ H l = some (.lst xs) ∧ H b = some (.lst zs) ∧ xs.length + zs.length ≤ sizeLine ∧ ∀ p, H p = none → Q (.ref p) (upd H p (.lst (xs ++ zs)))
theorem op_cat : OpR X (binaryOp .Add) rCat := by
  intro pins s σ H x y v u Q I rx ry h
  obtain ⟨l, b, xs, zs, rfl, rfl, hH, hB, hz, q⟩ := h
  cases rx
  cases ry
  obtain ⟨z, its, n, r, hl, e⟩ := I.lstM hH
  obtain ⟨z2, its2, n2, r2, hl2, e2⟩ := I.lstM hB
  refine PySem.P.add_list e e2 ?_ (by rw [List.size_toArray, List.size_toArray]; omega)
  have ea : its.toArray ++ its2.toArray = (its ++ its2).toArray := by simp
  rw [ea]
  exact ⟨.ref _, _, I.lnew (t' := s.toks) (r.append r2) (by rw [List.length_append]; omega), rfl, q _ I.fresh⟩
/-- a list times an int (a negative one is nothing) -/
def rRep : R2 := fun x y H Q => ∃ l k xs, x = .ref l ∧ y = .int k ∧ H l = some (.lst xs) ∧ -(2 ^ 63) ≤ k ∧ k < 2 ^ 63 ∧ xs.length * k.toNat ≤ sizeLine ∧
  ∀ p, H p = none → Q (.ref p) (upd H p (.lst (List.replicate k.toNat xs).flatten))
theorem len_rep {α : Type} (xs : List α) (k : Nat) : (List.replicate k xs).flatten.length = k * xs.length := by
  induction k with
  | zero => simp
  | succ k ih => rw [List.replicate_succ, List.flatten_cons, List.length_append, ih, Nat.succ_mul, Nat.add_comm]
theorem op_rep : OpR X (binaryOp .Mult) rRep := by
  intro pins s σ H x y v u Q I rx ry h
  obtain ⟨l, k, xs, rfl, rfl, hH, h1, h2, hz, q⟩ := h
  cases rx
  obtain ⟨t, rfl⟩ := ry
  obtain ⟨z, its, n, r, hl, e⟩ := I.lstM hH
  have hlen : its.toArray.size * k.toNat ≤ sizeLine := by rw [List.size_toArray, ← hl]; exact hz
  have hcap : ¬ its.toArray.size * k.toNat > (2 ^ 63 - 1) / 8 := by
    have : (sizeLine : Nat) ≤ (2 ^ 63 - 1) / 8 := by decide
    omega
  have hfit : ¬ (!Builtin.List.listFitsIndex k) = true := by
    rw [fitsIndex_both h1 h2]
    exact Bool.false_ne_true
  have hlong : ¬ Builtin.List.listTooLong (its.toArray.size * k.toNat) = true := by
    rw [notLongL hlen]
    exact Bool.false_ne_true
  have hnew : List.foldl (fun x1 x2 => x1 ++ x2) #[] (List.replicate (if its.toArray.isEmpty = true then 0 else k.toNat) its.toArray) = (List.replicate k.toNat its).flatten.toArray := by
    have f0 : ∀ m : Nat, List.foldl (fun x1 x2 => x1 ++ x2) #[] (List.replicate m its.toArray) = (List.replicate m its).flatten.toArray := fun m => by
      have := foldl_rep its m []
      rw [List.nil_append] at this
      exact this
    rw [f0]
    cases its with
    | nil => simp
    | cons a r' => rw [if_neg (by simp)]
  refine wpAny_binaryOp_repeat_ref (T := "list") (U := "int") (by decide) ⟨_, e, rfl⟩ (fun s' => typeIs_int s' k t) noFill_list_mul F.fills_int_mul F.slot_int_rmul repeat_list F.slot_int_index.lookup
    (call_meets F.slot_int_rmul (typeIs_int s k t) F.entry_int_rmul (F.args_int_rmul_2 _ _) (int___rmul___int_list k t l its.toArray n)
      ⟨e, rfl, ⟨_, e, rfl⟩, call_meets F.slot_list_mul ⟨_, e, rfl⟩ F.entry_list_mul (F.args_list_mul_2 _ _) (AutoListH.list___mul___list_int_3 l its.toArray n k t hfit hcap hlong) ⟨e, ?_⟩⟩)
  rw [hnew]
  exact ⟨.ref _, _, I.lnew (t' := s.toks) (r.rep k.toNat) (by rw [len_rep, Nat.mul_comm]; exact hz), rfl, q _ I.fresh⟩

/-! ### del xs[i] -/
end

/-! ### xs[a:b] = ys -/
section
variable {prog : Program} {w : World} {A : Around} {E : Value → Shared → Prop} {s : Shared}
set_option maxRecDepth 100000 in
end

section
variable {X : Cx}
end
end L2

namespace Att
open PySem PySem.W PySem.Calls PyProof.Rows

/-! ### the script -/
theorem ints_of_wellAll {P : Params} {h : Heap} : ∀ (ns : List Int) (vs : List Value), WellAll P h vs (ns.map WData.int) → IntsAre vs ns := by
  intro ns
  induction ns with
  | nil =>
    intro vs w
    rw [List.map_nil] at w
    cases w
    exact .nil
  | cons n ns ih =>
    intro vs w
    rw [List.map_cons] at w
    cases w with
    | cons a b =>
      cases a
      exact .cons _ _ (ih _ b)

theorem script_of {l : OpenLaw} {n : Nat} (hn : l.most = some n) {P : Params} {h : Heap} {args : List WData} {vals : List Value}
    (hpre : l.row.toRowW.claim.pre args = true) (hwl : WellAll P h vals args) :
    ∃ a vs ns, vals = [Value.ref a] ∧ args = [WData.list (ns.map WData.int)] ∧ h.get? a = some { cls := .type "list", data := .seq vs.toArray } ∧ IntsAre vs ns ∧ ns.length ≤ n := by
  have hsh : WShape.hasAll [] args [.list .int] = true := (pre_splitW hpre).1
  have hc : l.pre.holds [] { args := args } = true := (pre_splitW hpre).2
  obtain ⟨d, r, rfl, h1, h2⟩ := hasAllW_cons hsh
  obtain rfl := hasAllW_nil h2
  obtain ⟨xs, rfl, h3⟩ := hasW_list h1
  obtain ⟨ns, rfl⟩ := items_int h3
  have hlen : ns.length ≤ n := by
    unfold OpenLaw.pre at hc
    have h4 : (WTm.not (.lt (.lit (.int (n : Int))) (.len (.arg 0)))).holds [] { args := [.list (ns.map .int)] } = true := by
      have h4 := (holds_andW hc).1
      rw [hn] at h4
      exact h4
    have h5 := condW_of h4 (w_not (w_lt w_lit (w_len_list (w_arg rfl))))
    rw [List.length_map] at h5
    refine Nat.le_of_not_lt fun q => ?_
    have q' : (n : Int) < ((ns.length : Nat) : Int) := by omega
    first
      | (rw [decide_eq_true q'] at h5; exact absurd h5 (by decide))
      | (simp at h5; omega)
  cases hwl with
  | cons w1 w2 =>
    cases w2
    cases w1 with
    | list ho hall => exact ⟨_, _, ns, rfl, rfl, ho, ints_of_wellAll ns _ hall, hlen⟩

theorem post_true (l : OpenLaw) (args : List WData) : l.row.toRowW.claim.post args (.bool true) args = true :=
  postW_of (r := l.row.toRowW) (X := (true == true))
    (show WShape.has [] (.bool true) .bool = true by first | rfl | decide | simp [WShape.has, WShape.arms, WShape.armsAll])
    (show (WTm.eq .res (.lit (.bool true))).value [] { args := args, res := some (.bool true), after := args } = some (.bool (true == true)) from w_eq_bool (w_res rfl) w_lit) rfl

/-! ### the attachment: holds_open's last premise (the goal 'hc' behind k_head) from a wpAny of the law's body -/

/-- the same from a codeAny of the CALL (for a layer whose function contracts speak of calls) -/
theorem attach_call {l : OpenLaw} {n : Nat} {q : Program} {loose : List Str} {XP : (Str → Option Value) → Heap → Prop} {YP : World → Heap → Prop} {d : DefRec}
    (hn : l.most = some n) (hdf : d.params.defaults = [])
    (call : ∀ (w : World) (s₀ s₁ : Shared) (mg mb : Str → Option Value) (fa : Addr) (o : Obj) (pm cd doc : Value) (a : Addr) (vs : List Value) (ns : List Int),
      Ground q loose [] XP w s₀ mg mb s₁.heap → YP w s₁.heap →
      s₁.heap.get? fa = some o → o.data = .func (docDef d.name d.params d.body d.scope pm cd doc) → s₁.heap.CodeRec cd d.name → mg d.name = some (.ref fa) →
      s₁.heap.get? a = some { cls := .type "list", data := .seq vs.toArray } → IntsAre vs ns → ns.length ≤ n → s₁.gens = #[] →
      codeAny (model l.prog w) callerA (.call (.ref fa) ⟨[.ref a], []⟩) (fun r s' => r = .ok (.ret (.bool true)) ∧ OldK s₁.heap s'.heap ∧ s'.os = s₁.os ∧ AllBare s'.gens) s₁) :
    WalkO q loose XP YP l.row.toRowW d [] (fun f vs => PySem.call f vs) := by
  intro w s₀ s₁ mg mb G Y fa o pm cd doc dV kV ho hd hcd hD hmg hg args vals as hpre hlay hrd hwl hlo
  obtain rfl : dV = .none := Dflts.none hD hdf
  obtain rfl : kV = .none := Dflts.noKw hD
  obtain ⟨a, vs, ns, rfl, rfl, hobj, hints, hlen⟩ := script_of hn hpre hwl
  refine enter_call (codeAny_mono (call w s₀ s₁ mg mb fa o pm cd doc a vs ns G Y ho (fd_plain hd) hcd hmg hobj hints hlen hg) fun r s' hq => ?_)
  obtain ⟨rfl, h2, h3, h4⟩ := hq
  exact ⟨.inl ⟨.bool true, .bool true, [], rfl, fun _ => rfl, .bool true, post_true l _, fun _ => ⟨List.Pairwise.nil, fun _ hm => (nomatch hm)⟩⟩, h2, h3, h4⟩


/-! ### rules over ANY heap (no ledger) from facts about the written part K: the library's own take a ledger (News) for what they write -/
section
variable {prog : Program} {w : World} {A : Around} {E : Value → Shared → Prop} {s : Shared} {K : Frag}





/-! the whole heap as the ledger: makes every rule that writes through a ledger a rule over any heap -/

end
end Att

namespace L2
open PySem PySem.Spec PyProof.Rows

theorem vals_ints : ∀ {vs : List Value} {ns : List Int}, IntsAre vs ns → Vals (ns.map V.int) vs
  | _, _, .nil => .nil
  | _, _, .cons n t h => .cons ⟨t, rfl⟩ (vals_ints h)



end L2

/-! SHORT WORDS over the layer: a def of the text, its body, what a loop and a test want. -/
namespace L2
open PySem PySem.Spec PyProof.Rows

/-! ### the text by places -/
/-- the j-th statement of a class's body -/
def inClass (s : Stmt) (j : Nat) : Stmt := match s with
  | .ClassDef _ _ _ body _ _ _ _ _ _ _ => body.getD j (.Pass ⟨0, 0, 0, 0⟩)
  | _ => .Pass ⟨0, 0, 0, 0⟩
def defArgs (s : Stmt) : Arguments := match s with
  | .FunctionDef _ a _ _ _ _ _ _ _ _ => a
  | _ => { posonlyargs := [], args := [], vararg := none, kwonlyargs := [], kw_defaults := [], kwarg := none, defaults := [] }
def defBody (s : Stmt) : List Stmt := match s with
  | .FunctionDef _ _ b _ _ _ _ _ _ _ => b
  | _ => []
def defScope (s : Stmt) : Scope := match s with
  | .FunctionDef _ _ _ _ _ _ sc _ _ _ => sc
  | _ => { kind := .function, names := [], isGenerator := false, isCoroutine := false }

/-! ### no exception leaves a def -/
abbrev CX0 : CXT := fun _ _ _ _ _ _ => False
abbrev E0 : XK := fun _ _ _ => False
theorem pass0 {X : Cx} : Passes CX0 X E0 := fun _ _ _ _ _ _ _ h => h.elim

/-! ### a def (or method) of the text as it stands behind the top -/
structure Fun (K : PySem.W.Frag) (x qual : Str) (st : Stmt) (f : Addr) (fd : FuncData) : Prop where
  ex : ∃ (oc : Value) (od : Option Addr) (kV doc pm : Value) (an : Option Addr) (cdv ct : Value) (osl : Array (Option Value)),
    fd = PySem.W.fnOf x qual (defArgs st) (defBody st) (defScope st) .none kV doc pm an cdv ct ∧ K.lookup f = some ⟨oc, od, .func fd, osl⟩ ∧ PySem.W.codeIn K cdv qual = true
  kp : PySem.W.keepIn K (.ref f) = true
section
variable {P : Program} {w : World} {K : PySem.W.Frag} {mg : Str → Option Value} {base : Heap}
/-- THE RULE for a def: its body as a term of rules, and the reading of that term -/
theorem Fun.ok {x qual : Str} {st : Stmt} {f : Addr} {fd : FuncData} {N ps : List Str} {k : Nat} {sp : Sp} (F : Fun K x qual st f fd) (S : FnScope N ps (defScope st)) (len : ∀ vs H Q E, sp vs H Q E → vs.length = ps.length)
    (hbody : ∀ (cdv : Value) (A : Around) (outer : List Env) (s : Shared) (H : Hp) (vs : List V) (Q : VK) (E : XK), Room k (A.deeper (envOfC qual (defScope st) s.heap.objs.size f cdv)) → sp vs H Q E →
      ∃ t, PSs (cxOf CX0 P w K mg base N qual (defScope st) f cdv A outer s H E).nox (defBody st) t ∧ t { nx := fun _ H' => Q .non H', rt := Q } (start N vs) H) : FnOk P w K mg base CX0 (k + 1) f fd ps sp := by
  obtain ⟨oc, od, kV, doc, pm, an, cdv, ct, osl, rfl, lk, hcd⟩ := F.ex
  refine fn_of lk hcd S len fun A outer s H vs Q E hr hsp => ?_
  obtain ⟨t, h, q⟩ := hbody cdv A outer s H vs Q E hr hsp
  exact ⟨t, h.nox, q⟩
/-- how its arguments bind (no defaults): h is «fun _ _ _ _ _ _ us hl => match us, hl with | [_, _], _ => rfl», one _ a parameter -/
theorem Fun.binds {x qual : Str} {st : Stmt} {f : Addr} {fd : FuncData} {ps : List Str} (F : Fun K x qual st f fd)
    (h : ∀ (kV doc pm : Value) (an : Option Addr) (cdv ct : Value) (us : List Value), us.length = ps.length → bindArgs (PySem.W.fnOf x qual (defArgs st) (defBody st) (defScope st) .none kV doc pm an cdv ct) ⟨us, []⟩ = pure (ps.zip us)) : Binds K fd ps [] := by
  obtain ⟨oc, od, kV, doc, pm, an, cdv, ct, osl, rfl, lk, hcd⟩ := F.ex
  exact .all (h kV doc pm an cdv ct)
theorem fun_mk {x qual : Str} {st : Stmt} {f : Addr} {oc : Value} {od an : Option Addr} {osl : Array (Option Value)} {kV doc pm cdv ct : Value} (l : K.lookup f = some ⟨oc, od, .func (PySem.W.fnOf x qual (defArgs st) (defBody st) (defScope st) .none kV doc pm an cdv ct), osl⟩)
    (c : PySem.W.codeIn K cdv qual = true) (k : PySem.W.keepIn K (.ref f) = true) : Fun K x qual st f (PySem.W.fnOf x qual (defArgs st) (defBody st) (defScope st) .none kV doc pm an cdv ct) := ⟨⟨oc, od, kV, doc, pm, an, cdv, ct, osl, rfl, l, c⟩, k⟩
end
theorem small1000 {n : Nat} (h : n ≤ 1000) : n < sizeLine := Nat.lt_of_le_of_lt h (by decide)

/-! ### expressions in short: the name that stands in the i-th slot -/
section
variable {X : Cx}
theorem pv (i : Nat) {x : Str} {pos : Pos} (hN : X.N[i]? = some x := by rfl) (hv : Vis X.env.scope x := by first | exact Or.inl rfl | exact Or.inr (Or.inl rfl) | exact Or.inr (Or.inr rfl)) (hd : (x == ("__debug__" : Str)) = false := by decide)
    (hcd : (x == ("__classdict__" : Str)) = false := by decide) : PE X (.Name x pos) (tVar i) := pe_var hN hv hd hcd
end

/-! ### tests -/
theorem iteF {A B : Prop} (h : B) : if false = true then A else B := by
  rw [if_neg Bool.false_ne_true]
  exact h
theorem iteT {A B : Prop} (h : A) : if true = true then A else B := by
  rw [if_pos rfl]
  exact h
theorem iteNS {c A B : Prop} [Decidable c] (hc : c) (h : B) : if (!decide c) = true then A else B := by
  rw [decide_eq_true hc]
  exact iteF h

/-! ### heaps -/
/-- all that was tracked is as it was -/
def Same (H H' : Hp) : Prop := ∀ b o, H b = some o → H' b = some o
theorem Same.refl (H : Hp) : Same H H := fun _ _ h => h
theorem Same.trans {H H1 H2 : Hp} (a : Same H H1) (b : Same H1 H2) : Same H H2 := fun c o h => b c o (a c o h)
theorem Same.free {H H' : Hp} (e : Same H H') {l : Addr} (h : H' l = Option.none) : H l = Option.none := by
  cases q : H l with
  | none => rfl
  | some o =>
    rw [e l o q] at h
    cases h
theorem Same.seq {K : PySem.W.Frag} {H H' : Hp} {a : Addr} {xs : List V} (e : Same H H') (h : SqL K H a xs) : SqL K H' a xs := by
  rcases h with (h | ⟨o, h⟩) | h
  · exact .inl (.inl (e _ _ h))
  · exact .inl (.inr ⟨o, e _ _ h⟩)
  · exact .inr h

end L2
/-! Comprehensions over the hand layer: [elt for tg in iter (if test)]. -/
namespace L2
open PySem PySem.Spec PyProof.Rows

/-! ### the cells that the block is handed -/
def compCl (env : Env) : List (Str × NameKind) → List (Str × Addr) → List (Str × Addr)
  | [], acc => acc
  | (n, k) :: r, acc => compCl env r (if k == .free then (n, (env.cells.lookup n).getD 0) :: acc else acc)

theorem closure_go {env : Env} : ∀ (l : List (Str × NameKind)) (acc : List (Str × Addr)), (∀ y ∈ l, y.2 = .free → ∃ c, env.cells.lookup y.1 = some c) →
    (forIn l acc fun (x : Str × NameKind) (cs : List (Str × Addr)) => (if x.2 == .free then (do let c ← cellOf env x.1; pure (ForInStep.yield ((x.1, c) :: cs))) else pure (ForInStep.yield cs) : Sem (ForInStep (List (Str × Addr))))) = pure (compCl env l acc)
  | [], acc, _ => by rw [List.forIn_nil]; rfl
  | (n, k) :: r, acc, h => by
    have ih := fun a => closure_go (env := env) r a fun y hy => h y (List.mem_cons_of_mem _ hy)
    rw [List.forIn_cons]
    by_cases e : (k == NameKind.free) = true
    · obtain ⟨c, hc⟩ := h (n, k) List.mem_cons_self (by simpa using e)
      have hc' : env.cells.lookup n = some c := hc
      have hcell : cellOf env n = pure c := by unfold cellOf; rw [hc']
      simp only [e, if_true, hcell, pure_bind]
      rw [ih]
      show _ = pure (compCl env r (if k == .free then (n, (env.cells.lookup n).getD 0) :: acc else acc))
      rw [if_pos e, hc']
      rfl
    · simp only [e, if_false, pure_bind, Bool.false_eq_true]
      rw [ih]
      show _ = pure (compCl env r (if k == .free then (n, (env.cells.lookup n).getD 0) :: acc else acc))
      rw [if_neg e]
theorem closure_eq {env : Env} {scope : Scope} (h : ∀ y ∈ scope.names, y.2 = .free → ∃ c, env.cells.lookup y.1 = some c) : closureFor scope env = pure (compCl env scope.names []) := by
  have q := closure_go (env := env) scope.names [] h
  unfold closureFor
  simp only [bind_pure]
  exact q
theorem look_cons {n x : Str} {c : Addr} {l : List (Str × Addr)} : ((n, c) :: l).lookup x = if x == n then some c else l.lookup x := by
  rw [List.lookup_cons]
  cases x == n <;> rfl
theorem compCl_look {env : Env} : ∀ (l : List (Str × NameKind)) (acc : List (Str × Addr)) (x : Str) (c : Addr), (∀ y ∈ l, y.2 = .free → ∃ c, env.cells.lookup y.1 = some c) → (compCl env l acc).lookup x = some c → acc.lookup x = some c ∨ env.cells.lookup x = some c
  | [], acc, x, c, _, e => .inl e
  | (n, k) :: r, acc, x, c, h, e => by
    have ih := compCl_look (env := env) r _ x c (fun y hy => h y (List.mem_cons_of_mem _ hy)) (show (compCl env r (if k == .free then (n, (env.cells.lookup n).getD 0) :: acc else acc)).lookup x = some c from e)
    rcases ih with ih | ih
    · by_cases ek : (k == NameKind.free) = true
      · rw [if_pos ek, look_cons] at ih
        by_cases ex : (x == n) = true
        · rw [if_pos ex] at ih
          obtain ⟨c', hc⟩ := h (n, k) List.mem_cons_self (by simpa using ek)
          have hc' : env.cells.lookup n = some c' := hc
          rw [hc'] at ih
          have e1 : c' = c := Option.some.inj ih
          have e2 : x = n := by simpa using ex
          exact .inr (by rw [e2, hc', e1])
        · rw [if_neg ex] at ih
          exact .inl ih
      · rw [if_neg ek] at ih
        exact .inl ih
    · exact .inr ih
theorem compCl_keep {env : Env} : ∀ (l : List (Str × NameKind)) (acc : List (Str × Addr)) (x : Str), (∃ c, acc.lookup x = some c) → ∃ c, (compCl env l acc).lookup x = some c
  | [], acc, x, h => h
  | (n, k) :: r, acc, x, ⟨c, h⟩ => by
    refine compCl_keep (env := env) r (if k == .free then (n, (env.cells.lookup n).getD 0) :: acc else acc) x ?_
    by_cases ek : (k == NameKind.free) = true
    · rw [if_pos ek, look_cons]
      by_cases ex : (x == n) = true
      · rw [if_pos ex]; exact ⟨_, rfl⟩
      · rw [if_neg ex]; exact ⟨c, h⟩
    · rw [if_neg ek]; exact ⟨c, h⟩
theorem compCl_has {env : Env} : ∀ (l : List (Str × NameKind)) (acc : List (Str × Addr)) (x : Str), (x, NameKind.free) ∈ l → ∃ c, (compCl env l acc).lookup x = some c
  | [], acc, x, h => by cases h
  | (n, k) :: r, acc, x, h => by
    rcases List.mem_cons.mp h with e | e
    · obtain ⟨e1, e2⟩ := Prod.mk.inj e
      refine compCl_keep (env := env) r _ x ?_
      rw [if_pos (show (k == NameKind.free) = true from by rw [← e2]; rfl), look_cons, if_pos (show (x == n) = true from by rw [e1]; simp)]
      exact ⟨_, rfl⟩
    · exact compCl_has (env := env) r _ x e

/-! ### the block's names -/
abbrev relN (env : Env) (l : List (Str × NameKind)) : List (Str × NameKind) := l.map fun (n, k) => if (k == NameKind.free && env.scope.kind == .function && env.kindOf n == some .cell) then (n, NameKind.cell) else (n, k)
theorem relN_cons {env : Env} {n x : Str} {k : NameKind} {r : List (Str × NameKind)} :
    (relN env ((n, k) :: r)).lookup x = if x == n then some (if (k == NameKind.free && env.scope.kind == .function && env.kindOf n == some .cell) then NameKind.cell else k) else (relN env r).lookup x := by
  show List.lookup x ((if (k == NameKind.free && env.scope.kind == .function && env.kindOf n == some .cell) = true then (n, NameKind.cell) else (n, k)) :: relN env r) = _
  by_cases hc : (k == NameKind.free && env.scope.kind == .function && env.kindOf n == some .cell) = true
  · rw [if_pos hc, if_pos hc, List.lookup_cons]
    cases x == n <;> rfl
  · rw [if_neg hc, if_neg hc, List.lookup_cons]
    cases x == n <;> rfl
theorem lk_cons {n x : Str} {k : NameKind} {r : List (Str × NameKind)} : ((n, k) :: r).lookup x = if x == n then some k else r.lookup x := by
  rw [List.lookup_cons]
  cases x == n <;> rfl
theorem relN_free {env : Env} : ∀ {l : List (Str × NameKind)} {x : Str}, l.lookup x = some .free → (relN env l).lookup x = some .cell ∨ (relN env l).lookup x = some .free
  | [], x, h => by cases h
  | (n, k) :: r, x, h => by
    rw [lk_cons] at h
    rw [relN_cons]
    by_cases ex : (x == n) = true
    · rw [if_pos ex] at h ⊢
      have hk : k = .free := Option.some.inj h
      subst hk
      split
      · exact .inl rfl
      · exact .inr rfl
    · rw [if_neg ex] at h ⊢
      exact relN_free h
theorem relN_inv {env : Env} : ∀ {l : List (Str × NameKind)} {x : Str}, (∀ y ∈ l, y.2 ≠ .cell) → ((relN env l).lookup x = some .cell ∨ (relN env l).lookup x = some .free) → l.lookup x = some .free
  | [], x, _, h => by rcases h with h | h <;> cases h
  | (n, k) :: r, x, hc, h => by
    rw [relN_cons] at h
    rw [lk_cons]
    by_cases ex : (x == n) = true
    · rw [if_pos ex] at h ⊢
      have hk := hc (n, k) List.mem_cons_self
      have hk' : k ≠ .cell := hk
      by_cases c : (k == NameKind.free && env.scope.kind == .function && env.kindOf n == some .cell) = true
      · have : k = .free := by
          simp only [Bool.and_eq_true] at c
          simpa using c.1.1
        rw [this]
      · simp only [if_neg c] at h
        rcases h with h | h
        · exact absurd (Option.some.inj h) hk'
        · exact h
    · rw [if_neg ex] at h ⊢
      exact relN_inv (fun y hy => hc y (List.mem_cons_of_mem _ hy)) h

/-- the context of a comprehension's block: C its names' dict, s2 and H2 the state when its iterator was made, fp the iterator's objects -/
def compCx (X : Cx) (scope : Scope) (N' : List Str) (C : Addr) (s2 : Shared) (H2 : Hp) (fp : List Addr) (E : Value → Shared → Prop) : Cx where
  prog := X.prog
  w := X.w
  K := X.K
  mg := X.mg
  base := X.base
  A := X.A
  N := N'
  s₀ := s2
  H₀ := H2
  env := compEnvC scope (compCl X.env scope.names []) C X.env
  outer := X.stack
  stack := X.stack
  ex := fp
  fn := fun _ => false
  calm := X.calm
  pn := []
  xe := E
/-- the values of the names that the block takes from around it -/
def capS (cap : List (Option Nat)) (σ : St) : St := cap.map fun o => o.bind fun j => (σ[j]?).join
structure CSc (X : Cx) (scope : Scope) (N' : List Str) (cap : List (Option Nat)) : Prop where
  kind : scope.kind = .function
  nocell : ∀ y ∈ scope.names, y.2 ≠ .cell
  names : ∀ y ∈ scope.names, y.2 = .local → scope.names.lookup y.1 = some .local
  free : ∀ y ∈ scope.names, y.2 = .free → X.env.kindOf y.1 = some .cell ∨ X.env.kindOf y.1 = some .free
  len : cap.length = N'.length
  cap : ∀ i ∈ List.range cap.length, ∀ j ∈ (cap[i]?).join, N'[i]? = X.N[j]? ∧ (N'[i]?).isSome = true ∧ (N'[i]?).bind (fun n => scope.names.lookup n) = some .free
/-- the same over closed things: the scope around, its names -/
structure CScD (sc : Scope) (N : List Str) (scope : Scope) (N' : List Str) (cap : List (Option Nat)) : Prop where
  kind : scope.kind = .function
  nocell : ∀ y ∈ scope.names, y.2 ≠ .cell
  names : ∀ y ∈ scope.names, y.2 = .local → scope.names.lookup y.1 = some .local
  free : ∀ y ∈ scope.names, y.2 = .free → sc.names.lookup y.1 = some .cell ∨ sc.names.lookup y.1 = some .free
  len : cap.length = N'.length
  cap : ∀ i ∈ List.range cap.length, ∀ j ∈ List.range N.length, cap[i]? = some (some j) → N'[i]? = N[j]? ∧ (N'[i]?).isSome = true ∧ (N'[i]?).bind (fun n => scope.names.lookup n) = some .free
theorem csc_of {X : Cx} {sc : Scope} {N : List Str} {scope : Scope} {N' : List Str} {cap : List (Option Nat)} (hs : X.env.scope = sc) (hN : X.N = N) (D : CScD sc N scope N' cap) (hc : (cap.all fun o => o.all fun j => decide (j < N.length)) = true := by rfl) : CSc X scope N' cap := by
  subst hs hN
  refine ⟨D.kind, D.nocell, D.names, D.free, D.len, fun i hi j hj => ?_⟩
  have e : cap[i]? = some (some j) := by
    cases q : cap[i]? with
    | none => rw [q] at hj; cases hj
    | some o =>
      rw [q] at hj
      have : o = some j := hj
      rw [this]
  have hm : some j ∈ cap := List.mem_of_getElem? e
  have hl := List.all_eq_true.mp hc (some j) hm
  have hl' : j < X.N.length := of_decide_eq_true (by simpa using hl)
  exact D.cap i hi j (List.mem_range.mpr hl') e
def PIfs (X : Cx) (ifs : List Expr) (t : TT) : Prop :=
  ∀ (pins : List (Addr × Obj)) (s : Shared) (σ : St) (H : Hp) (Q : Bool → Hp → Prop), Inv X pins σ H s → t σ H Q →
    wpAny (model X.prog X.w) X.A (forIn ifs true fun c r => if r = true then do let ok ← isTrue c X.env (eval c X.env); pure (ForInStep.yield ok) else pure (ForInStep.yield r)) (TP X pins σ Q) X.xe s
def tAll : TT := fun _ H Q => Q true H
theorem pif_nil {X : Cx} : PIfs X [] tAll := fun _ _ _ H _ I h => wpAny_tests_nil ⟨H, I, h⟩

/-- one turn after another -/
theorem comp_loop {prog : Program} {w : World} {A : Around} {R : Result → Shared → Prop} {s : Shared} {elt tg iter : Expr} {ifs : List Expr} {scope : Scope} {pos : Pos} {it acc : Value} {env : Env} {NE : Value → Shared → Prop}
    (hN : NE = notedBy (model prog w) A env fun e s' => R (.error e) s') (I : Nat → Shared → Prop)
    (turn : ∀ n s, I n s → wpAny (model prog w) A (pyNext it) (fun r s1 => match r with
      | none => R (.ok .next) s1
      | some v => wpAny (model prog w) A (letOwnedTupleGo tg it v) (fun _ s2 => wpAny (model prog w) A (assign tg env v) (fun _ s3 =>
          wpAny (model prog w) A (forIn ifs true fun c r => if r = true then do let ok ← isTrue c env (eval c env); pure (ForInStep.yield ok) else pure (ForInStep.yield r)) (fun ok s4 =>
            if ok = true then wpAny (model prog w) A (eval elt env) (fun x s5 => wpAny (model prog w) A (call (.builtin "list.append") [acc, x]) (fun _ s6 => ∃ m, m < n ∧ I m s6) NE s5) NE s4
            else ∃ m, m < n ∧ I m s4) NE s3) NE s2) NE s1) NE s)
    (n : Nat) (h : I n s) : codeAny (model prog w) A (.compLoop (.ListComp elt [⟨tg, iter, ifs, 0⟩] scope pos) 0 it acc env) R s := by
  subst hN
  refine codeAny_loop rfl I (fun k s' hI => ?_) n h
  refine (wpAny_noted ?_ : wpAny _ A ((compTurn (.ListComp elt [⟨tg, iter, ifs, 0⟩] scope pos) 0 it acc env).onRaise (fun x => do noteFrame x env; theTreesLotGoes x)) _ _ s')
  rw [compTurn_list]
  refine wpAny_bind (wpAny_standAt (wpAny_bind (thn (turn k s' hI) fun r s1 h1 => ?_)))
  cases r with
  | none => exact wpAny_pure h1
  | some v =>
    refine wpAny_bind (thn h1 fun _ s2 h2 => wpAny_bind (thn h2 fun _ s3 h3 => wpAny_bind (thn h3 fun ok s4 h4 => ?_)))
    cases ok with
    | false => exact wpAny_pure ⟨rfl, h4⟩
    | true => exact wpAny_bind (wpAny_bind (thn h4 fun x s5 h5 => wpAny_bind (thn h5 fun _ s6 h6 => wpAny_pure (wpAny_pure ⟨rfl, h6⟩))))

/-- the turns' reading: what the block does with the items of J, its list at p -/
def Turns (J : It) (g : TG) (tst : TT) (te : TE) (p : Addr) (Q : Hp → Prop) (σ : St) (H : Hp) : Prop :=
  ∃ W : Nat → Nat → St → Hp → Prop, (∃ m, W 0 m σ H) ∧ ∀ i m σ' H', W i m σ' H' →
    (J.stop i H' ∧ Q H') ∨ (J.go i H' ∧ ∃ N : St → Hp → Prop, (∀ σ2 H2, N σ2 H2 → ∃ m', m' < m ∧ W (i + 1) m' σ2 H2) ∧
      ∀ x H1, J.yld i H' x H1 → g x σ' H1 fun σ2 H2 => tst σ2 H2 fun c H3 => if c = true then te σ2 H3 fun y H4 => ∃ xs, H4 p = some (.lst xs) ∧ xs.length < sizeLine ∧ N σ2 (upd H4 p (.lst (xs ++ [y]))) else N σ2 H3)
def tComp (wi : TI) (cap : List (Option Nat)) (g : TG) (tst : TT) (te : TE) : TE := fun σ H Q => wi σ H fun J H1 => ∀ p, H1 p = none → Turns J g tst te p (fun H' => Q (.ref p) H') (capS cap σ) (upd H1 p (.lst []))

section
variable {X : Cx} {pins : List (Addr × Obj)} {σ : St} {H : Hp} {s : Shared}

theorem Inv.cellOf (I : Inv X pins σ H s) {scope : Scope} {N' : List Str} {cap : List (Option Nat)} (S : CSc X scope N' cap) : ∀ y ∈ scope.names, y.2 = .free → ∃ c, X.env.cells.lookup y.1 = some c := fun y hy e => I.ok.has y.1 (S.free y hy e)
theorem Inv.clLook (I : Inv X pins σ H s) {scope : Scope} {N' : List Str} {cap : List (Option Nat)} (S : CSc X scope N' cap) {x : Str} {c : Addr} (e : (compCl X.env scope.names []).lookup x = some c) : X.env.cells.lookup x = some c := by
  rcases compCl_look scope.names [] x c (I.cellOf S) e with h | h
  · cases h
  · exact h

/-- the block's context is sound -/
theorem Inv.compOk (I : Inv X pins σ H s) {scope : Scope} {N' : List Str} {cap : List (Option Nat)} (S : CSc X scope N' cap) {fp : List Addr} {C : Addr} {E : Value → Shared → Prop} (hC : s.heap.objs.size ≤ C) (hf : ∀ b ∈ fp, FpOk X pins H b)
    (ho : ∀ b ∈ fp, b < s.heap.objs.size) : (compCx X scope N' C s H fp E).Ok := by
  have nst : ∀ b ∈ fp, b ∉ frs X.stack := fun b hb z => by
    obtain ⟨_, f1, f2, _⟩ := hf b hb
    rcases List.mem_cons.mp (I.stkSub b z) with e | e
    · exact f1 e
    · exact f2 e
  refine ⟨I.ok.mod, S.kind, I.ok.glob, I.ok.blt, hC, fun x y c h1 h2 => ?_, fun x hx => ?_, fun x c h => (by cases h), I.ok.hd, I.ok.frames, .inl rfl, fun b hb => ⟨?_, fun x c e => ?_⟩, fun b o e => I.bs b o e, Nat.le_trans I.ok.bsz I.sz, fun b o e hb => ?_, nst, I.stack, I.stkFree⟩
  · exact I.ok.inj x y c (I.clLook S h1) (I.clLook S h2)
  · have q : scope.names.lookup x = some .free := relN_inv S.nocell hx
    exact compCl_has _ _ x (PySem.mem_of_lookup q)
  · exact Nat.ne_of_lt (Nat.lt_of_lt_of_le (ho b hb) hC)
  · exact (hf b hb).2.2.2.2.1 x c (I.clLook S e)
  · rcases (hf b hb).2.2.2.1 with z | z
    · exact I.ok.noex b o e z
    · exact absurd (Nat.lt_of_lt_of_le (Heap.lt_size e) (Nat.le_trans I.ok.bsz z)) (Nat.lt_irrefl _)

/-- the block's first state: the new list at the heap's end, the names' dict behind it -/
theorem Inv.compStart (I : Inv X pins σ H s) {scope : Scope} {N' : List Str} {cap : List (Option Nat)} (S : CSc X scope N' cap) {fp : List Addr} {D C : Addr} {h1 : Heap} {m : Str → Option Value} {tk : Nat} {E : Value → Shared → Prop}
    (hD : s.heap.objs.size ≤ D) (hC : s.heap.objs.size ≤ C) (hDC : D ≠ C) (hf : ∀ b ∈ fp, FpOk X pins H b) (ho : ∀ b ∈ fp, b < s.heap.objs.size)
    (k : ∀ b o, s.heap.get? b = some o → h1.get? b = some o) (hd : h1.get? D = some { cls := .type "list", data := .seq #[] }) (hn : h1.Ns C m) :
    Inv (compCx X scope N' C s H fp E) [] (capS cap σ) (upd H D (.lst [])) { s with heap := h1, toks := tk } := by
  have lt : ∀ b o, s.heap.get? b = some o → b ≠ D := fun b o e => Nat.ne_of_lt (Nat.lt_of_lt_of_le (Heap.lt_size e) hD)
  refine ⟨I.compOk S hC hf ho, rfl, I.bare, Un.laid k hD (I.hok.fresh hD), ⟨m, hn, fun i x v e1 e2 e3 => ?_⟩, fun x c e => ?_, ?_, fun x c e => ?_, fun p hp => absurd (show p ∈ ([] : List (Addr × Obj)) from hp) (by simp),
    I.hok.laid k hD ⟨Nat.zero_le _, [], _, .nil, hd⟩, by unfold capS; rw [List.length_map]; exact S.len⟩
  · -- a name taken from around
    have e2' : (cap.map fun o => o.bind fun j => (σ[j]?).join)[i]? = some (some v) := e2
    rw [List.getElem?_map] at e2'
    cases hc : cap[i]? with
    | none => rw [hc] at e2'; cases e2'
    | some o =>
      rw [hc] at e2'
      have e2'' : (o.bind fun j => (σ[j]?).join) = some v := Option.some.inj e2'
      cases o with
      | none => cases e2''
      | some j =>
        have hv : (σ[j]?).join = some v := e2''
        have hσ : σ[j]? = some (some v) := by
          cases q : σ[j]? with
          | none => rw [q] at hv; cases hv
          | some w' => rw [q] at hv; rw [show w' = some v from hv]
        have hi : i ∈ List.range cap.length := List.mem_range.mpr (List.getElem?_eq_some_iff.mp hc).1
        obtain ⟨a1, _, a3⟩ := S.cap i hi j (by rw [hc]; rfl)
        have e1' : N'[i]? = some x := e1
        rw [e1'] at a1 a3
        have a3' : scope.names.lookup x = some .free := a3
        have hk := S.free _ (PySem.mem_of_lookup a3') rfl
        have hk' : X.env.kindOf x = some .cell ∨ X.env.kindOf x = some .free := hk
        obtain ⟨m0, hn0, hl⟩ := I.loc
        obtain ⟨u, ru, lk⟩ := hl j x v a1.symm hσ (hk'.elim (fun z => .inr (.inl z)) fun z => .inr (.inr z))
        refine ⟨u, ru, ?_⟩
        rcases lk with ⟨z, _⟩ | ⟨_, c, ec, hcell⟩
        · rcases hk' with q | q
          · rw [z] at q; cases q
          · rw [z] at q; cases q
        · obtain ⟨c', ec'⟩ := compCl_has (env := X.env) scope.names [] x (PySem.mem_of_lookup a3')
          have : c' = c := Option.some.inj ((I.clLook S ec').symm.trans ec)
          subst this
          exact .inr ⟨relN_free (env := X.env) a3', c', ec', hcell.keeps k⟩
  · obtain ⟨v, z⟩ := I.cell x c (I.clLook S e)
    exact ⟨v, z.keeps k⟩
  · show upd H D _ C = none
    rw [upd_ne hDC.symm]
    exact I.hok.fresh hC
  · obtain ⟨v, o, z, _⟩ := I.cell x c (I.clLook S e)
    rw [upd_ne (lt c o z)]
    exact I.freeC x c (I.clLook S e)

theorem Inv.compBack {scope : Scope} {N' : List Str} {fp : List Addr} {C : Addr} {E : Value → Shared → Prop} {pins' : List (Addr × Obj)} {σ' : St} {H' : Hp} {s' : Shared} (I : Inv X pins σ H s) (hf : ∀ b ∈ fp, FpOk X pins H b)
    (J : Inv (compCx X scope N' C s H fp E) pins' σ' H' s') : Inv X pins σ H' s' :=
  I.call' (ch := fp) J.os J.base J.hok J.bare fun b hb => ⟨(hf b hb).2.2.2.1, (hf b hb).2.1, (hf b hb).2.2.2.2.1, (hf b hb).2.2.2.2.2⟩

/-- the end of the block -/
def CompEnd (X : Cx) (pins : List (Addr × Obj)) (σ : St) (Q : VK) (acc : Value) (C : Addr) (r : Result) (s' : Shared) : Prop :=
  match r with
  | .ok _ => ∃ p H' m, acc = .ref p ∧ Inv X pins σ H' s' ∧ FpOk X pins H' C ∧ s'.heap.Ns C m ∧ Q (.ref p) H'
  | .error _ => False

theorem comp_core {elt tg iter : Expr} {ifs : List Expr} {scope : Scope} {pos : Pos} {N' : List Str} {cap : List (Option Nat)} {wi : TI} {g : TG} {tst : TT} {te : TE} {Q : VK} (hc : X.calm = true) (S : CSc X scope N' cap) (hi : PI X tg iter wi)
    (hg : ∀ C s2 H2 fp, PG (compCx X scope N' C s2 H2 fp fun _ _ => False) tg g) (ht : ∀ C s2 H2 fp, PIfs (compCx X scope N' C s2 H2 fp fun _ _ => False) ifs tst)
    (he : ∀ C s2 H2 fp, PE (compCx X scope N' C s2 H2 fp fun _ _ => False) elt te) (I : Inv X pins σ H s) (h : tComp wi cap g tst te σ H Q) :
    wpAny (model X.prog X.w) X.A (eval iter X.env) (fun x s1 => wpAny (model X.prog X.w) X.A (pyIter x) (fun it s2 => wpAny (model X.prog X.w) X.A (newList []) (fun acc s3 =>
      wpAny (model X.prog X.w) X.A (newFunctionEnv scope X.env.globals (compCl X.env scope.names []) [] X.env.qual none .none (some X.env)) (fun cenv s4 =>
        codeAny (model X.prog X.w) X.A (.compStart (.ListComp elt [⟨tg, iter, ifs, 0⟩] scope pos) 0 it acc { cenv with scope := relabel scope X.env }) (CompEnd X pins σ Q acc cenv.locals) s4) X.xe s3) X.xe s2) X.xe s1) X.xe s := by
  refine thn (hi pins s σ H _ I h) fun v s1 h1 => thn h1 fun itv s2 h2 => ?_
  obtain ⟨it, fp, tn, J, H2, e, I2, T, st2, f2, q⟩ := h2
  subst e
  have ho : ∀ b ∈ fp, b < s2.heap.objs.size := fun b hb => by
    obtain ⟨o, e, _⟩ := T.obj _ _ st2 b hb
    exact Heap.lt_size e
  refine wpAny_newObj_type (wpAny_newFunctionEnv S.nocell (by intro y hy; simp at hy) (fun hp1 hns1 hsb1 => ?_) S.kind)
  have hDn : s2.heap.objs.size ≠ (s2.heap.push { cls := .type "list", dict := none, data := .seq ([] : List Value).toArray }).objs.size := by rw [Heap.size_push]; exact Nat.ne_of_lt (Nat.lt_succ_self _)
  have hCle : s2.heap.objs.size ≤ (s2.heap.push { cls := .type "list", dict := none, data := .seq ([] : List Value).toArray }).objs.size := by rw [Heap.size_push]; exact Nat.le_succ _
  have old : ∀ b o, s2.heap.get? b = some o → hp1.get? b = some o := fun b o e =>
    hsb1.extBut b o (Nat.ne_of_lt (Nat.lt_of_lt_of_le (Heap.lt_size e) hCle)) (Heap.get?_push_of_some _ (Heap.get?_push_of_some _ e))
  have hacc : hp1.get? s2.heap.objs.size = some { cls := .type "list", data := .seq #[] } := hsb1.extBut _ _ hDn (Heap.get?_push_of_some _ (Heap.get?_push_size _ rfl))
  -- the block
  let X' : Cx := compCx X scope N' (s2.heap.push { cls := .type "list", dict := none, data := .seq ([] : List Value).toArray }).objs.size s2 H2 fp fun _ _ => False
  obtain ⟨W, ⟨m0, w0⟩, turn⟩ := q s2.heap.objs.size (I2.hok.fresh (Nat.le_refl _))
  have J0 : Inv X' [] (capS cap σ) (upd H2 s2.heap.objs.size (.lst [])) { s2 with heap := hp1, toks := s2.toks + ([] : List (Str × Value)).length } := I2.compStart S (Nat.le_refl _) hCle hDn f2 ho old hacc hns1
  have stat : ∀ {H' : Hp}, (∀ b ∈ fp, H' b = none) → ∀ b ∈ fp, FpOk X' [] H' b := fun hn b hb => by
    obtain ⟨_, g1, g2, g3, g4, g5⟩ := f2 b hb
    refine ⟨hn b hb, Nat.ne_of_lt (Nat.lt_of_lt_of_le (ho b hb) hCle), J0.ok.exfs b hb, .inl hb, fun x c e => g4 x c (I2.clLook S e), fun p hp => absurd (show p ∈ ([] : List (Addr × Obj)) from hp) (by simp)⟩
  have fr0 : ∀ b ∈ fp, upd H2 s2.heap.objs.size (.lst []) b = none := fun b hb => by rw [upd_ne (Nat.ne_of_lt (ho b hb))]; exact (f2 b hb).1
  have loop : codeAny (model X.prog X.w) X.A (.compLoop (.ListComp elt [⟨tg, iter, ifs, 0⟩] scope pos) 0 (.ref it) (.ref s2.heap.objs.size) X'.env)
      (CompEnd X pins σ Q (.ref s2.heap.objs.size) (s2.heap.push { cls := .type "list", dict := none, data := .seq ([] : List Value).toArray }).objs.size) { s2 with heap := hp1, toks := s2.toks + ([] : List (Str × Value)).length } := by
    refine comp_loop rfl (fun n s' => ∃ i σ' H', Inv X' [] σ' H' s' ∧ tn i s'.heap ∧ (∀ b ∈ fp, H' b = none) ∧ W i n σ' H') ?_ m0 ⟨0, _, _, J0, T.keep _ _ _ st2 fun b _ o e => old b o e, fr0, w0⟩
    rintro n s3 ⟨i, σ3, H3, I3, st3, fr3, w3⟩
    have no : ∀ (e : Value) (s' : Shared), X'.xe e s' → notedBy (model X.prog X.w) X.A X'.env (fun e s' => CompEnd X pins σ Q (.ref s2.heap.objs.size) (s2.heap.push { cls := .type "list", dict := none, data := .seq ([] : List Value).toArray }).objs.size (.error e) s') e s' := fun _ _ z => z.elim
    rcases turn i n σ3 H3 w3 with ⟨stop, qn⟩ | ⟨go, N, hN, step⟩
    · refine wpAny_mono (T.done X' rfl rfl rfl hc i [] s3 σ3 H3 X'.xe I3 (stat fr3) st3 stop) (fun r s4 ⟨hr, I4⟩ => ?_) no
      subst hr
      obtain ⟨mC, hmC, _⟩ := I4.loc
      exact ⟨_, H3, mC, rfl, I2.compBack f2 I4, I2.fpOk hCle I4.free, hmC, qn⟩
    · refine wpAny_mono (T.item X' rfl rfl rfl hc i [] s3 σ3 H3 X'.xe I3 (stat fr3) st3 go) (fun r s4 ⟨u, hr, h4⟩ => ?_) no
      subst hr
      refine wpAny_mono h4 (fun _ s5 ⟨x, H5, I5, r5, y5, st5, fr5⟩ => ?_) no
      have I5' := I5.pinned (stat fr5) (T.obj _ _ st5)
      refine wpAny_mono (hg _ _ _ _ _ s5 σ3 H5 x u _ I5' r5 (step x H5 y5)) (fun _ s6 ⟨σ6, H6, I6, q6⟩ => ?_) no
      refine wpAny_mono (ht _ _ _ _ _ s6 σ6 H6 _ I6 q6) (fun ok s7 ⟨H7, I7, q7⟩ => ?_) no
      have again : ∀ {σ7 : St} {H7 : Hp} {s7 : Shared}, Inv X' ([] ++ pinsAt fp s5.heap) σ7 H7 s7 → N σ7 H7 → ∃ m, m < n ∧ ∃ i σ' H', Inv X' [] σ' H' s7 ∧ tn i s7.heap ∧ (∀ b ∈ fp, H' b = none) ∧ W i m σ' H' := fun {σ7 H7 s7} I7 n7 => by
        obtain ⟨m', hm, w7⟩ := hN σ7 H7 n7
        refine ⟨m', hm, i + 1, σ7, H7, I7.unpinned, T.keep _ _ _ st5 fun b hb o e => (I7.pin (b, o) (List.mem_append_right _ (List.mem_append_right _ (mem_pinsAt hb e)))).1, fun b hb => ?_, w7⟩
        obtain ⟨o, e, d⟩ := T.obj _ _ st5 b hb
        exact (I7.pin (b, o) (List.mem_append_right _ (List.mem_append_right _ (mem_pinsAt hb e)))).2.1
      cases ok with
      | false => exact again I7 q7
      | true =>
        refine wpAny_mono (he _ _ _ _ _ s7 σ6 H7 _ I7 q7) (fun y s8 ⟨z, H8, I8, r8, xs, e8, l8, q8⟩ => ?_) no
        refine wpAny_mono (mt_append (X := X') _ s8 σ6 H8 (.ref s2.heap.objs.size) [z] (.ref s2.heap.objs.size) [y] (fun _ H9 => N σ6 H9) I8 rfl (.cons r8 .nil) ⟨_, xs, z, rfl, rfl, e8, l8, q8⟩) (fun _ s9 ⟨_, H9, I9, _, q9⟩ => ?_) no
        exact again I9 q9
  exact codeAny_compStart_list loop (T.self _ 0 _ _ _ (T.keep _ _ _ st2 fun b _ o e => old b o e) loop)

/-- [elt for tg in iter (if test)] as a value -/
theorem pe_comp {elt tg iter : Expr} {ifs : List Expr} {scope : Scope} {pos : Pos} {N' : List Str} {cap : List (Option Nat)} {wi : TI} {g : TG} {tst : TT} {te : TE} (hc : X.calm = true) (S : CSc X scope N' cap) (hi : PI X tg iter wi)
    (hg : ∀ C s2 H2 fp, PG (compCx X scope N' C s2 H2 fp fun _ _ => False) tg g) (ht : ∀ C s2 H2 fp, PIfs (compCx X scope N' C s2 H2 fp fun _ _ => False) ifs tst)
    (he : ∀ C s2 H2 fp, PE (compCx X scope N' C s2 H2 fp fun _ _ => False) elt te) (hs : ∀ x, foldedSetIterable iter X.env x = pure x := by intro _; rfl) :
    PE X (.ListComp elt [⟨tg, iter, ifs, 0⟩] scope pos) (tComp wi cap g tst te) := by
  intro pins s σ H Q I h
  rw [eval_ListComp]
  refine wpAny_comprehension_free (use := none) rfl hs (closure_eq (I.cellOf S)) S.kind S.names (thn (comp_core (Q := Q) hc S hi hg ht he I h) fun xv s1 h1 => thn h1 fun it s2 h2 => thn h2 fun acc s3 h3 => thn h3 fun cenv s4 h4 => codeAny_mono h4 fun r s5 h5 => ?_)
  cases r with
  | error e => exact False.elim h5
  | ok fl =>
    obtain ⟨p, H', m, rfl, I', F', hn, q⟩ := h5
    refine ⟨m, hn, fun h' sb => ⟨.ref p, H', ?_, rfl, q⟩⟩
    exact I'.turned (t' := s5.toks) (fun b o hb e => sb.extBut b o hb e) F'.1 F'.2.1 F'.2.2.2.1 F'.2.2.2.2.1 F'.2.2.2.2.2
/-- x = [elt for tg in iter (if test)], x a plain local on the comprehension's own line -/
theorem ps_setComp {i : Nat} {x : Str} {elt tg iter : Expr} {ifs : List Expr} {scope : Scope} {pos pos' cpos : Pos} {N' : List Str} {cap : List (Option Nat)} {wi : TI} {g : TG} {tst : TT} {te : TE} (hN : X.N.Nodup) (hx : X.N[i]? = some x) (hl : X.env.scope.names.lookup x = some .local)
    (hc : X.calm = true) (S : CSc X scope N' cap) (hi : PI X tg iter wi)
    (hg : ∀ C s2 H2 fp, PG (compCx X scope N' C s2 H2 fp fun _ _ => False) tg g) (ht : ∀ C s2 H2 fp, PIfs (compCx X scope N' C s2 H2 fp fun _ _ => False) ifs tst)
    (he : ∀ C s2 H2 fp, PE (compCx X scope N' C s2 H2 fp fun _ _ => False) elt te)
    (hsw : swapsWith (.ListComp elt [⟨tg, iter, ifs, 0⟩] scope cpos) (some (.Name x pos')) pos.line X.env = pure true := by rfl) (hs : ∀ x, foldedSetIterable iter X.env x = pure x := by intro _; rfl) :
    PS X (.Assign [.Name x pos'] (.ListComp elt [⟨tg, iter, ifs, 0⟩] scope cpos) pos) (tAsg (tComp wi cap g tst te) (gName i)) := by
  intro pins s σ H D I h
  rw [exec_Assign_Name_used _ _ _ _ hsw]
  refine wpAny_bind (wpAny_standAt (wpAny_bind ?_))
  show wpAny (model X.prog X.w) X.A (do let _ ← comprehension (.ListComp elt [⟨tg, iter, ifs, 0⟩] scope cpos) scope X.env _ (newList []) false (eval iter X.env) (some (assign (.Name x pos') X.env))) _ _ s
  refine wpAny_bind (thn (wpAny_comprehension_free (use := some (assign (.Name x pos') X.env)) (Q := fun _ s' => SP X pins D .next s') rfl hs (closure_eq (I.cellOf S)) S.kind S.names
    (thn (comp_core (Q := fun v H1 => gName i v σ H1 D.nx) hc S hi hg ht he I h) fun xv s1 h1 => thn h1 fun it s2 h2 => thn h2 fun acc s3 h3 => thn h3 fun cenv s4 h4 => codeAny_mono h4 fun r s5 h5 => ?_)) fun _ s' hq => wpAny_pure (wpAny_pure hq))
  cases r with
  | error e => exact False.elim h5
  | ok fl =>
    obtain ⟨p, H', m, rfl, I', F', hn, q⟩ := h5
    refine (wpAny_assign_Name (store_ok2 (v := V.ref p) I' hN hx (.inl hl) rfl (fun s6 I6 ⟨a, sb6, ha⟩ => ?_) (.inr hl)) : wpAny (model X.prog X.w) X.A (assign (.Name x pos') X.env (.ref p)) _ _ s5)
    have aC : cenv.locals ≠ a := by
      rcases ha with z | z
      · rw [z]; exact F'.2.1
      · exact fun w' => F'.2.2.2.2.1 _ _ z w'.symm
    refine ⟨m, hn.sameBut sb6 aC, fun h' sb => ⟨_, H', ?_, q⟩⟩
    exact I6.turned (t' := s6.toks) (fun b o hb e => sb.extBut b o hb e) F'.1 F'.2.1 F'.2.2.2.1 F'.2.2.2.2.1 F'.2.2.2.2.2
end

/-! ### the forms one uses -/
/-- over a list that the block leaves as it is: Pv holds between two turns, the new list's items among what it says -/
theorem turns_list {K : PySem.W.Frag} {a p : Addr} {xs : List V} {g : TG} {tst : TT} {te : TE} {Q : Hp → Prop} {σ : St} {H : Hp} (Pv : Nat → St → Hp → Prop) (h0 : Pv 0 σ H) (hl : ∀ i σ H, i ≤ xs.length → Pv i σ H → SqL K H a xs)
    (hs : ∀ i x σ H, xs[i]? = some x → Pv i σ H → g x σ H fun σ2 H2 => tst σ2 H2 fun c H3 => if c = true then te σ2 H3 fun y H4 => ∃ ys, H4 p = some (.lst ys) ∧ ys.length < sizeLine ∧ Pv (i + 1) σ2 (upd H4 p (.lst (ys ++ [y]))) else Pv (i + 1) σ2 H3)
    (hd : ∀ σ H, Pv xs.length σ H → Q H) : Turns (Itl K a) g tst te p Q σ H := by
  refine ⟨fun i m σ H => m = xs.length - i ∧ i ≤ xs.length ∧ Pv i σ H, ⟨xs.length, by simp, Nat.zero_le _, h0⟩, ?_⟩
  rintro i m σ H ⟨rfl, hi, p⟩
  have q := hl i σ H hi p
  by_cases hlt : i < xs.length
  · refine .inr ⟨⟨xs, xs[i], q, by simp [hlt]⟩, Pv (i + 1), fun σ' H' p' => ⟨xs.length - (i + 1), by omega, rfl, hlt, p'⟩, fun x H' y => ?_⟩
    obtain ⟨e, y⟩ := y
    subst e
    exact hs i x σ _ (y xs q) p
  · have e : i = xs.length := by omega
    subst e
    exact .inl ⟨⟨xs, q, Nat.le_refl _⟩, hd σ H p⟩
end L2
/-! enumerate(list), zip(list, list), walked by a loop or a comprehension with a pair of names. -/
namespace L2
open PySem PySem.Spec PyProof.Rows
section
variable {X : Cx} {pins : List (Addr × Obj)} {σ : St} {H : Hp} {s : Shared} {h' : Heap}
/-- records of ours have turned, a new object is laid and tracked -/
theorem Inv.turnedLaid {t' : Nat} {ch : List Addr} {a : Addr} {o : HO} (I : Inv X pins σ H s) (hf : ∀ b ∈ ch, FpOk X pins H b) (k : ∀ b ob, b ∉ ch → s.heap.get? b = some ob → h'.get? b = some ob) (hp : s.heap.objs.size ≤ a)
    (new : ObjOk X.prog X.w (upd H a o) h' a o) : Inv X pins σ (upd H a o) { s with heap := h', toks := t' } := by
  have hn := I.hok.fresh hp
  have ntr : ∀ b u, H b = some u → b ∉ ch := fun b u e hb => by
    have z := (hf b hb).1
    rw [z] at e; cases e
  have lt : ∀ b ob, s.heap.get? b = some ob → b ≠ a := fun b ob e => Nat.ne_of_lt (Nat.lt_of_lt_of_le (Heap.lt_size e) hp)
  refine I.step (g' := s.gens) (d' := s.drawn) (ch := ch) (fun b hb => ⟨(hf b hb).2.2.2.1, (hf b hb).2.1, (hf b hb).2.2.2.2.1, (hf b hb).2.2.2.2.2⟩) (fun b ob _ _ hc e _ => k b ob hc e) (fun b ob _ _ hc e _ => ⟨ob.slots, k b ob hc e⟩)
    (fun b ob _ e n => by rw [upd_ne (lt b ob e)]; exact n) (fun b ob hc e => ⟨ob, k b ob hc e⟩) (fun b xs e => by rw [upd_ne (ne_of_none e hn)]; exact e) (fun b ob u e => by rw [upd_ne (ne_of_none e hn)]; exact e)
    (fun b pl y e => by rw [upd_ne (ne_of_none e hn)]; exact e) (fun m hm => ?_) (fun b u e => ?_) I.bare
  · obtain ⟨ob, es, ep, ho, r⟩ := hm
    exact ⟨ob, es, ep, k _ ob (fun z => (hf _ z).2.1 rfl) ho, r⟩
  · by_cases hb : b = a
    · subst hb
      rw [upd_same] at e
      cases e
      exact new
    · rw [upd_ne hb] at e
      refine (I.hok b u e).stay (fun c v hc q => k c v ?_ q) (fun c q => by rw [upd_ne (ne_of_none q hn)]; exact q) (fun c xs q => by rw [upd_ne (ne_of_none q hn)]; exact q) fun c ob y q => by rw [upd_ne (ne_of_none q hn)]; exact q
      rcases hc with rfl | hc
      · exact ntr c u e
      · exact ntr c _ hc
/-- records of ours have turned -/
theorem Inv.turnedAll {t' : Nat} {ch : List Addr} (I : Inv X pins σ H s) (hf : ∀ b ∈ ch, FpOk X pins H b) (k : ∀ b ob, b ∉ ch → s.heap.get? b = some ob → h'.get? b = some ob) : Inv X pins σ H { s with heap := h', toks := t' } := by
  have ntr : ∀ b u, H b = some u → b ∉ ch := fun b u e hb => by
    have z := (hf b hb).1
    rw [z] at e; cases e
  refine I.step (g' := s.gens) (d' := s.drawn) (ch := ch) (fun b hb => ⟨(hf b hb).2.2.2.1, (hf b hb).2.1, (hf b hb).2.2.2.2.1, (hf b hb).2.2.2.2.2⟩) (fun b ob _ _ hc e _ => k b ob hc e) (fun b ob _ _ hc e _ => ⟨ob.slots, k b ob hc e⟩)
    (fun b ob _ _ n => n) (fun b ob hc e => ⟨ob, k b ob hc e⟩) (fun b xs e => e) (fun b ob u e => e) (fun b pl y e => e) (fun m hm => ?_) (fun b u e => ?_) I.bare
  · obtain ⟨ob, es, ep, ho, r⟩ := hm
    exact ⟨ob, es, ep, k _ ob (fun z => (hf _ z).2.1 rfl) ho, r⟩
  · refine (I.hok b u e).stay (fun c v hc q => k c v ?_ q) (fun c q => q) (fun c xs q => q) fun c ob y q => q
    rcases hc with rfl | hc
    · exact ntr c u e
    · exact ntr c _ hc
end

theorem tup_new {P : Program} {w : World} {H : Hp} {h : Heap} {a : Addr} {xs : List V} {us : List Value} (r : Vals xs us) (hz : xs.length ≤ sizeLine) {n : Nat} (e : h.get? a = some { cls := .type "tuple", data := .seq us.toArray n }) : ObjOk P w H h a (.tup xs) :=
  ⟨hz, us, r, _, e, rfl, _, rfl⟩

theorem boot_zip' : bootBuiltins ("zip" : Str) = some (.type "zip") := by first | exact PyProof.Rows.Boot.«zip» | exact PySem.boot_zip | rfl | decide +kernel

/-- zip of the lists at a and b: each turn a new pair -/
def Itz (K : PySem.W.Frag) (a b : Addr) : It :=
  ⟨fun i H => ∃ xs ys x y, SqL K H a xs ∧ SqL K H b ys ∧ xs[i]? = some x ∧ ys[i]? = some y,
   fun i H v H' => ∃ t x y, v = .ref t ∧ H t = none ∧ H' = upd H t (.tup [x, y]) ∧ (∀ xs, SqL K H a xs → xs[i]? = some x) ∧ ∀ ys, SqL K H b ys → ys[i]? = some y,
   fun i H => ∃ xs ys, SqL K H a xs ∧ SqL K H b ys ∧ (xs.length ≤ i ∨ ys.length ≤ i)⟩
theorem ap_of {i1 i2 TI TO z l1 l2 : Nat} (h1 : i1 < i2) (h2 : i2 < TI) (h3 : TI < TO) (h4 : TO < z) (ha : l1 < i1) (hb : l2 < i1) : ZipApart z TI TO i1 i2 l1 l2 := by
  refine ⟨?_, ?_, ?_, ?_, ?_, ?_, ?_, ?_, ?_, ?_, ?_, ?_, ?_, ?_, ?_, ?_, ?_, ?_⟩ <;> first | exact Nat.ne_of_lt (by omega) | exact Nat.ne_of_gt (by omega)
theorem turn_zip {P : Program} {w : World} {K : PySem.W.Frag} {es : List Expr} {k : Nat} {pos : Pos} (a b z TI TO i1 i2 : Addr) (D : ZipApart z TI TO i1 i2 a b) :
    Turn P w K (.Tuple es k pos) (Itz K a b) [z, TI, TO, i1, i2] z (fun i h => IsZip h z TI TO .none ∧ IsPair h TI (.ref i1) (.ref i2) ∧ (∃ x y, IsPair h TO x y) ∧ h.IsListIter i1 a i ∧ h.IsListIter i2 b i) where
  mem := by simp
  obj := fun i h st c hb => by
    obtain ⟨hz, hTI, ⟨x, y, hTO⟩, ⟨o1, e1, c1, d1⟩, o2, e2, c2, d2⟩ := st
    simp only [List.mem_cons, List.not_mem_nil, or_false] at hb
    rcases hb with rfl | rfl | rfl | rfl | rfl
    · exact ⟨_, hz, fun v q => by
        have q' : Data.fields _ = Data.cell v := q
        cases q'⟩
    · exact ⟨_, hTI, fun v q => by
        have q' : Data.seq _ _ = Data.cell v := q
        cases q'⟩
    · exact ⟨_, hTO, fun v q => by
        have q' : Data.seq _ _ = Data.cell v := q
        cases q'⟩
    · exact ⟨_, e1, fun v q => by rw [d1] at q; cases q⟩
    · exact ⟨_, e2, fun v q => by rw [d2] at q; cases q⟩
  keep := fun i h h' st k => ⟨k z (by simp) _ st.1, k TI (by simp) _ st.2.1, let ⟨x, y, q⟩ := st.2.2.1; ⟨x, y, k TO (by simp) _ q⟩, st.2.2.2.1.at fun o q => k i1 (by simp) o q, st.2.2.2.2.at fun o q => k i2 (by simp) o q⟩
  item := by
    intro X hP hw hK hc i pins s σ H E I hf st hg
    subst hP hw hK
    obtain ⟨xs, ys, x, y, hq1, hq2, hx, hy⟩ := hg
    obtain ⟨its1, rv1, p1, hz1⟩ := I.list hq1
    obtain ⟨its2, rv2, p2, hz2⟩ := I.list hq2
    obtain ⟨u1, hu1, ru1⟩ := rv1.get hx
    obtain ⟨u2, hu2, ru2⟩ := rv2.get hy
    obtain ⟨hz, hTI, ⟨x0, y0, hTO⟩, hi1, hi2⟩ := st
    refine wpAny_pyNext_zip_item D hz hTI hTO hi1 hi2 p1.isList p2.isList (x := u1) (y := u2) (by simpa using hu1) (by simpa using hu2) fun h1 gz gTO g1 g2 gT gsz gk => ⟨_, rfl, ?_⟩
    have lz : z < s.heap.objs.size := Heap.lt_size hz
    have lT : ∀ c ∈ [z, TI, TO, i1, i2], c < s.heap.objs.size := fun c hb => by
      simp only [List.mem_cons, List.not_mem_nil, or_false] at hb
      rcases hb with rfl | rfl | rfl | rfl | rfl
      · exact lz
      · exact Heap.lt_size hTI
      · exact Heap.lt_size hTO
      · obtain ⟨_, q, _⟩ := hi1; exact Heap.lt_size q
      · obtain ⟨_, q, _⟩ := hi2; exact Heap.lt_size q
    refine wpAny_letOwnedTupleGo_zip gz fun h2 gz2 hs2 => ?_
    refine ⟨.ref s.heap.objs.size, upd H s.heap.objs.size (.tup [x, y]), ?_, rfl, ⟨_, x, y, rfl, I.hok.fresh (Nat.le_refl _), rfl, fun vs hv => by rw [I.list_inj hv hq1]; exact hx, fun vs hv => by rw [I.list_inj hv hq2]; exact hy⟩,
      ⟨gz2, hs2.extBut _ _ D.TIz (gk _ _ D.TIz D.TITO D.TIi1 D.TIi2 hTI), ⟨_, _, hs2.extBut _ _ D.TOz gTO⟩, g1.at fun o q => hs2.extBut _ _ D.i1z q, g2.at fun o q => hs2.extBut _ _ D.i2z q⟩, fun c hb => ?_⟩
    · refine I.turnedLaid (ch := [z, TI, TO, i1, i2]) hf (fun c ob hb q => hs2.extBut _ _ (fun e => hb (by simp [e])) (gk c ob (fun e => hb (by simp [e])) (fun e => hb (by simp [e])) (fun e => hb (by simp [e])) (fun e => hb (by simp [e])) q)) (Nat.le_refl _) ?_
      exact tup_new (us := [u1, u2]) (.cons ru1 (.cons ru2 .nil)) (by show 2 ≤ sizeLine; decide) (hs2.extBut _ _ (Nat.ne_of_gt lz) gT)
    · rw [upd_ne (Nat.ne_of_lt (lT c hb))]
      exact (hf c hb).1
  done := by
    intro X hP hw hK hc i pins s σ H E I hf st hg
    subst hP hw hK
    obtain ⟨xs, ys, hq1, hq2, hx⟩ := hg
    obtain ⟨its1, rv1, p1, hz1⟩ := I.list hq1
    obtain ⟨its2, rv2, p2, hz2⟩ := I.list hq2
    obtain ⟨hz, hTI, ⟨x0, y0, hTO⟩, hi1, hi2⟩ := st
    have hl1 := rv1.length
    have hl2 := rv2.length
    refine wpAny_pyNext_zip_end (I.ok.hd hc) D hz hTI hTO hi1 hi2 p1.isList p2.isList ?_ fun h1 eb => ⟨rfl, I.turnedAll (t' := s.toks) (ch := [z, TI, TO, i1, i2]) hf fun c ob hb q => eb c ob (fun e => hb (by simp [e])) (fun e => hb (by simp [e])) (fun e => hb (by simp [e])) (fun e => hb (by simp [e])) q⟩
    rcases hx with hx | hx
    · exact .inl (by simp; omega)
    · exact .inr (by simp; omega)
  self := fun _ _ _ _ _ st h => wpAny_pyIter_zip st.1 h
def iZip (K : PySem.W.Frag) (ta : TA) : TI := fun σ H R => ta σ H fun vs H1 => ∃ a b, vs = [.ref a, .ref b] ∧ (∃ xs, SqL K H1 a xs) ∧ (∃ ys, SqL K H1 b ys) ∧ R (Itz K a b) H1
theorem pi_zip {X : Cx} {es : List Expr} {k : Nat} {tpos : Pos} {l m : Expr} {ta : TA} {p pos : Pos} (hg : Gl X "zip") (hm : X.mg "zip" = none) (ha : PA X [l, m] ta) (hs : starEach [l, m] X.env = [(false, eval l X.env), (false, eval m X.env)] := by rfl) (hs2 : starEach [m] X.env = [(false, eval m X.env)] := by rfl) :
    PI X (.Tuple es k tpos) (.Call (.Name "zip" p) [l, m] [] pos) (iZip X.K ta) := by
  intro pins s σ H R I h
  refine Call_ (ld_blt I hg hm boot_zip' (PyProof.Rows.callWith_type1 (thn (ha pos pins s σ H _ I h) fun us s1 ⟨vs, H1, I1, r1, q1⟩ => ?_) (by rw [hs, hs2]) (by rw [hs2]; rfl)))
  obtain ⟨a, b, e, ⟨xs, hq1⟩, ⟨ys, hq2⟩, q⟩ := q1
  subst e
  obtain ⟨u, w', rfl, ru, rw'⟩ := vals2 r1
  cases ru
  cases rw'
  obtain ⟨its1, rv1, p1, hz1⟩ := I1.list hq1
  obtain ⟨its2, rv2, p2, hz2⟩ := I1.list hq2
  have la : a < s1.heap.objs.size := by obtain ⟨_, o, _⟩ := p1.isList; exact Heap.lt_size o
  have lb : b < s1.heap.objs.size := by obtain ⟨_, o, _⟩ := p2.isList; exact Heap.lt_size o
  refine call_zip_2 p1.isList p2.isList fun h1 gz gTI gTO g1 g2 gsz hk => ?_
  have I2 : Inv X pins σ H1 { s1 with heap := h1 } := I1.kept (t' := s1.toks) hk
  have D : ZipApart (s1.heap.objs.size + 4) (s1.heap.objs.size + 2) (s1.heap.objs.size + 3) s1.heap.objs.size (s1.heap.objs.size + 1) a b := ap_of (i1 := s1.heap.objs.size) (Nat.lt_succ_self _) (Nat.lt_succ_self _) (Nat.lt_succ_self _) (Nat.lt_succ_self _) la lb
  refine wpAny_pyIter_zip gz ⟨s1.heap.objs.size + 4, [s1.heap.objs.size + 4, s1.heap.objs.size + 2, s1.heap.objs.size + 3, s1.heap.objs.size, s1.heap.objs.size + 1], _, _, H1, rfl, I2, turn_zip a b _ _ _ _ _ D, ⟨gz, gTI, ⟨_, _, gTO⟩, g1, g2⟩, fun c hb => ?_, q⟩
  have hbl : s1.heap.objs.size ≤ c := by
    simp only [List.mem_cons, List.not_mem_nil, or_false] at hb
    rcases hb with rfl | rfl | rfl | rfl | rfl <;> first | exact Nat.le_refl _ | exact Nat.le_add_right _ _
  exact I1.fpOk hbl (I1.hok.fresh hbl)

/-! ### the forms one uses -/
theorem turns_zip {K : PySem.W.Frag} {a b p : Addr} {xs ys : List V} {g : TG} {tst : TT} {te : TE} {Q : Hp → Prop} {σ : St} {H : Hp} (Pv : Nat → St → Hp → Prop) (h0 : Pv 0 σ H) (hl : ∀ i σ H, Pv i σ H → SqL K H a xs ∧ SqL K H b ys)
    (hs : ∀ i x y t σ H, xs[i]? = some x → ys[i]? = some y → Pv i σ H → H t = none → g (.ref t) σ (upd H t (.tup [x, y])) fun σ2 H2 => tst σ2 H2 fun c H3 => if c = true then te σ2 H3 fun y H4 => ∃ zs, H4 p = some (.lst zs) ∧ zs.length < sizeLine ∧ Pv (i + 1) σ2 (upd H4 p (.lst (zs ++ [y]))) else Pv (i + 1) σ2 H3)
    (hd : ∀ σ H, Pv (min xs.length ys.length) σ H → Q H) : Turns (Itz K a b) g tst te p Q σ H := by
  refine ⟨fun i m σ H => m = min xs.length ys.length - i ∧ i ≤ min xs.length ys.length ∧ Pv i σ H, ⟨min xs.length ys.length, by simp, Nat.zero_le _, h0⟩, ?_⟩
  rintro i m σ H ⟨rfl, hi, p⟩
  obtain ⟨q1, q2⟩ := hl i σ H p
  by_cases hlt : i < min xs.length ys.length
  · have l1 : i < xs.length := by omega
    have l2 : i < ys.length := by omega
    refine .inr ⟨⟨xs, ys, xs[i], ys[i], q1, q2, by simp [l1], by simp [l2]⟩, Pv (i + 1), fun σ' H' p' => ⟨min xs.length ys.length - (i + 1), by omega, rfl, hlt, p'⟩, fun x H' y => ?_⟩
    obtain ⟨t, z, z', rfl, hn, rfl, y1, y2⟩ := y
    exact hs i z z' t σ H (y1 xs q1) (y2 ys q2) p hn
  · have e : i = min xs.length ys.length := by omega
    subst e
    exact .inl ⟨⟨xs, ys, q1, q2, by omega⟩, hd σ H p⟩
end L2
/-! sorted, any, all, sum, isinstance, join, f-strings, tuples joined, data compared. -/
namespace L2
open PySem PySem.Spec PyProof.Rows
section
variable {X : Cx}
/-! ### sorted of ints, fewer than 64 -/
theorem call_sortedI : CallR X (.builtin "sorted") (fun xs H Q => ∃ (p : Addr) (ns : List Int), xs = [.ref p] ∧ SqL X.K H p (ns.map V.int) ∧ ns.length < 64 ∧
    ∀ (l : Addr) (ns' : List Int), H l = none → ns'.Perm ns → ns'.Pairwise (· ≤ ·) → Q (.ref l) (upd H l (.lst (ns'.map V.int)))) := by
  intro pins s σ H xs us Q I r h
  obtain ⟨p, ns, rfl, hq, hz, q⟩ := h
  obtain ⟨u, rfl, ru⟩ := vals1 r
  cases ru
  obtain ⟨its, rv, pl, _⟩ := I.list hq
  have hI := intsAre_of rv
  have hl : its.length = ns.length := by rw [← rv.length, List.length_map]
  refine sorted_ints pl.isList hI (by omega) fun out ns' a1 a2 a3 => ?_
  obtain ⟨e, he⟩ := sortedAll_at s.heap its out
  have hlen : ns'.length = ns.length := a2.length_eq
  refine ⟨.ref (s.heap.objs.size + 1), _, I.laid (t' := s.toks) (a := s.heap.objs.size + 1) (o := .lst (ns'.map V.int)) (fun b ob z => sortedAll_old z) (Nat.le_succ _) ?_, rfl, q _ ns' (I.hok.fresh (Nat.le_succ _)) a2 a3⟩
  refine ⟨by rw [List.length_map, hlen, sizeLine_eq]; omega, out.toList, e, vals_ints a1, ?_⟩
  exact he
/-! ### any, all of bools; sum of ints -/
theorem bools_at {bs : List Bool} {us : List Value} (r : Vals (bs.map V.bl) us) {i : Nat} {v : Value} (e : us[i]? = some v) : ∃ b, bs[i]? = some b ∧ v = .bool b := by
  have hi : i < us.length := (List.getElem?_eq_some_iff.mp e).1
  have hb : i < bs.length := by
    have := r.length
    rw [List.length_map] at this
    omega
  obtain ⟨u, hu, ru⟩ := r.get (i := i) (x := .bl bs[i]) (by rw [List.getElem?_map, List.getElem?_eq_getElem hb]; rfl)
  rw [e] at hu
  cases hu
  exact ⟨bs[i], List.getElem?_eq_getElem hb, ru⟩
theorem range_any (bs : List Bool) : (List.range bs.length).any (fun i => bs.getD i false) = bs.any id := by
  rw [Bool.eq_iff_iff]
  simp only [List.any_eq_true, List.mem_range, id_eq]
  constructor
  · rintro ⟨i, hi, e⟩
    exact ⟨bs[i], List.getElem_mem hi, by simpa [List.getD_eq_getElem?_getD, hi] using e⟩
  · rintro ⟨b, hb, e⟩
    obtain ⟨i, hi, q⟩ := List.mem_iff_getElem.mp hb
    exact ⟨i, hi, by simp [List.getD_eq_getElem?_getD, hi, q, e]⟩
theorem range_all (bs : List Bool) : (List.range bs.length).all (fun i => bs.getD i false) = bs.all id := by
  rw [Bool.eq_iff_iff]
  simp only [List.all_eq_true, List.mem_range, id_eq]
  constructor
  · intro h b hb
    obtain ⟨i, hi, q⟩ := List.mem_iff_getElem.mp hb
    have := h i hi
    simpa [List.getD_eq_getElem?_getD, hi, q] using this
  · intro h i hi
    have := h bs[i] (List.getElem_mem hi)
    simpa [List.getD_eq_getElem?_getD, hi] using this
theorem handled_in1 {A : Around} (h : A.handled = none) : A.in1.handled = none := h
/-- what any and all do with the list at p -/
theorem walk_bools {pins : List (Addr × Obj)} {σ : St} {H : Hp} {s : Shared} {p : Addr} {bs : List Bool} {E : Value → Shared → Prop} {R : Nat → (Nat → Bool) → Value → Shared → Prop} (hc : X.calm = true) (I : Inv X pins σ H s) (hq : SqL X.K H p (bs.map V.bl))
    (fin : ∀ (It : Addr) (fp wr : List Addr) (P : Nat → Value → Prop) (St : Nat → Heap → Prop) (s2 : Shared), Walks X.prog X.w X.A.in1 It fp wr bs.length P St → St 0 s2.heap → TruthOf X.prog X.w X.A.in1 P (fun i => bs.getD i false) →
      (∀ h' tk, (∀ b o, b ∉ wr → s2.heap.get? b = some o → h'.get? b = some o) → Inv X pins σ H { s2 with heap := h', toks := tk }) → R bs.length (fun i => bs.getD i false) (.ref It) s2) :
    wpAny (model X.prog X.w) X.A.in1 (pyIter (.ref p)) (fun it s2 => R bs.length (fun i => bs.getD i false) it s2) E s := by
  obtain ⟨its, rv, pl, hz⟩ := I.list hq
  refine wpAny_pyIter_list pl.isList ?_
  have lp : p < s.heap.objs.size := by obtain ⟨_, o, _⟩ := pl.isList; exact Heap.lt_size o
  have hlen : its.toArray.size = bs.length := by rw [List.size_toArray, ← rv.length, List.length_map]
  have W := Walks.list (prog := X.prog) (w := X.w) (A := X.A.in1) (handled_in1 (I.ok.hd hc)) s.heap.objs.size p (Nat.ne_of_lt lp) its.toArray
  rw [hlen] at W
  refine fin _ _ _ _ _ _ W ⟨⟨_, Heap.get?_push_size _ rfl, rfl, rfl⟩, pl.isList.push _⟩ (fun i v s' Q' E' hP hQ => ?_) (fun h' tk hk => ?_)
  · obtain ⟨b, hb, rfl⟩ := bools_at (i := i) (v := v) rv (by simpa using hP)
    refine wpAny_truthy_bool ?_
    have : bs.getD i false = b := by rw [List.getD_eq_getElem?_getD, hb]; rfl
    simpa only [this] using hQ
  · refine I.kept (t' := tk) fun b o e => hk b o (fun z => ?_) (Heap.get?_push_of_some _ e)
    have : b = s.heap.objs.size := by simpa using z
    exact absurd (Heap.lt_size e) (by rw [this]; exact Nat.lt_irrefl _)
theorem call_anyB (hc : X.calm = true) : CallR X (.builtin "any") (fun xs H Q => ∃ (p : Addr) (bs : List Bool), xs = [.ref p] ∧ SqL X.K H p (bs.map V.bl) ∧ Q (.bl (bs.any id)) H) := by
  intro pins s σ H xs us Q I r h
  obtain ⟨p, bs, rfl, hq, q⟩ := h
  obtain ⟨u, rfl, ru⟩ := vals1 r
  cases ru
  refine call_any_walk (walk_bools hc I hq (R := fun n tr it s2 => ∃ It fp wr n P St tr, it = .ref It ∧ Walks X.prog X.w X.A.in1 It fp wr n P St ∧ St 0 s2.heap ∧ TruthOf X.prog X.w X.A.in1 P tr ∧
    ∀ h' tk, (∀ b o, b ∉ wr → s2.heap.get? b = some o → h'.get? b = some o) → EP X pins σ Q (.bool ((List.range n).any tr)) { s2 with heap := h', toks := tk }) ?_)
  intro It fp wr P St s2 W st tr k
  refine ⟨It, fp, wr, _, P, St, _, rfl, W, st, tr, fun h' tk hk => ?_⟩
  rw [range_any]
  exact ⟨.bl (bs.any id), H, k h' tk hk, rfl, q⟩
theorem call_allB (hc : X.calm = true) : CallR X (.builtin "all") (fun xs H Q => ∃ (p : Addr) (bs : List Bool), xs = [.ref p] ∧ SqL X.K H p (bs.map V.bl) ∧ Q (.bl (bs.all id)) H) := by
  intro pins s σ H xs us Q I r h
  obtain ⟨p, bs, rfl, hq, q⟩ := h
  obtain ⟨u, rfl, ru⟩ := vals1 r
  cases ru
  refine call_all_walk (walk_bools hc I hq (R := fun n tr it s2 => ∃ It fp wr n P St tr, it = .ref It ∧ Walks X.prog X.w X.A.in1 It fp wr n P St ∧ St 0 s2.heap ∧ TruthOf X.prog X.w X.A.in1 P tr ∧
    ∀ h' tk, (∀ b o, b ∉ wr → s2.heap.get? b = some o → h'.get? b = some o) → EP X pins σ Q (.bool ((List.range n).all tr)) { s2 with heap := h', toks := tk }) ?_)
  intro It fp wr P St s2 W st tr k
  refine ⟨It, fp, wr, _, P, St, _, rfl, W, st, tr, fun h' tk hk => ?_⟩
  rw [range_all]
  exact ⟨.bl (bs.all id), H, k h' tk hk, rfl, q⟩
theorem call_sumI (hc : X.calm = true) : CallR X (.builtin "sum") (fun xs H Q => ∃ (p : Addr) (ns : List Int), xs = [.ref p] ∧ SqL X.K H p (ns.map V.int) ∧ Q (.int ns.sum) H) := by
  intro pins s σ H xs us Q I r h
  obtain ⟨p, ns, rfl, hq, q⟩ := h
  obtain ⟨u, rfl, ru⟩ := vals1 r
  cases ru
  obtain ⟨its, rv, pl, _⟩ := I.list hq
  have hi := intsAre_of rv
  obtain ⟨ys, hys⟩ := hi.allInts.items
  refine sum_intListG (I.ok.hd hc) (xs := ys) (by rw [← hys]; exact pl.isList) fun h' tk t' hk => ?_
  refine ⟨.int ns.sum, H, I.kept (t' := tk) hk, ?_, q⟩
  have e1 : (numsOf its.toArray.toList).sum = ns.sum := by rw [show its.toArray.toList = its from rfl, hi.numsOf]
  rw [hys, nums_intItems] at e1
  rw [preSum_eq, List.take_of_length_le (by simp), ← e1]
  exact ⟨t', rfl⟩
/-! ### isinstance(x, T), T a built-in or an own class -/
theorem call_isinst : CallR X (.builtin "isinstance") (fun xs H Q => ∃ x c cv t b, xs = [x, c] ∧ RelV c cv ∧ (∀ u, RelV c u → u = cv) ∧ TyOf X.K H x t ∧ PySem.W.kitOne X.K t cv = some b ∧ Q (.bl b) H) := by
  intro pins s σ H xs us Q I r h
  obtain ⟨x, c, cv, t, b, rfl, rc, inj, ty, e, q⟩ := h
  obtain ⟨u, w', rfl, ru, rw'⟩ := vals2 r
  cases inj w' rw'
  exact isinst_ok I ru ty e fun tk => ⟨.bl b, H, I.tok tk, rfl, q⟩
theorem ty_inj {n : String} : ∀ u, RelV (.ty n) u → u = .type n := fun _ h => h
/-! ### t + u, any of the two empty or not -/
def rCatT' (K : PySem.W.Frag) : R2 := fun x y H Q => ∃ a b xs ys, x = .ref a ∧ y = .ref b ∧ SqT K H a xs ∧ SqT K H b ys ∧ xs.length + ys.length ≤ sizeLine ∧
  (xs = [] → Q (.ref b) H) ∧ (xs ≠ [] → ys = [] → Q (.ref a) H) ∧ (xs ≠ [] → ys ≠ [] → ∀ p, H p = none → Q (.ref p) (upd H p (.tup (xs ++ ys))))
theorem op_catT' : OpR X (binaryOp .Add) (rCatT' X.K) := by
  intro pins s σ H x y v u Q I rx ry h
  obtain ⟨a, b, xs, ys, rfl, rfl, ha, hb, hz, q0, q1, q2⟩ := h
  by_cases hx : xs = []
  · cases rx
    cases ry
    obtain ⟨its, r1, p1, _⟩ := I.tuple ha
    obtain ⟨its2, r2, p2, _⟩ := I.tuple hb
    obtain ⟨m, F⟩ := I.fr
    have hv : its = [] := r1.nil_iff.mpr hx
    refine add_tuples (news := []) F (fun q hq => by cases hq) p1 p2 (fun _ => ⟨.ref b, H, I, rfl, q0 hx⟩) (fun z => absurd hv z) (fun z => absurd hv z) (by rw [← r1.length, ← r2.length]; exact hz)
  · exact op_catT pins s σ H _ _ v u Q I rx ry ⟨a, b, xs, ys, rfl, rfl, ha, hb, hx, hz, q1 hx, q2 hx⟩
/-! ### sep.join(list of texts) -/
def rJoin (K : PySem.W.Frag) : V → List V → Hp → VK → Prop := fun x vs H Q => ∃ (z : Str) (p : Addr) (ys : List Str), x = .str z ∧ vs = [.ref p] ∧ SqL K H p (ys.map V.str) ∧ (ys.map (·.length)).sum + ys.length * z.length ≤ 16777216 ∧ Q (.str (Txt.join z ys)) H
theorem strsAre_of : ∀ {ys : List Str} {us : List Value}, Vals (ys.map V.str) us → StrsAre us ys
  | [], _, .nil => .nil
  | _ :: _, _, .cons r t => by
    obtain ⟨k, rfl⟩ := r
    exact .cons _ _ (strsAre_of t)
theorem mt_join : MtM X "str.join" (rJoin X.K) := by
  intro pins s σ H x xs v us Q I rx r h
  obtain ⟨z, p, ys, rfl, rfl, hq, hz, q⟩ := h
  obtain ⟨t, rfl⟩ := rx
  obtain ⟨u, rfl, ru⟩ := Vals.one r
  cases ru
  obtain ⟨its, rv, pl, _⟩ := I.list hq
  exact join_list pl.isList (strsAre_of rv) hz fun t' k => ⟨.str (Txt.join z ys), H, I.tok k, ⟨t', rfl⟩, q⟩
end

/-! ### data compared by == and != -/
open PySem.W (Dat) in
mutual
inductive DV (K : PySem.W.Frag) (H : Hp) : V → PySem.W.Dat → Prop
  | non : DV K H .non .none
  | int (i : Int) : DV K H (.int i) (.int i)
  | str (x : Str) : DV K H (.str x) (.str x)
  | lst {a : Addr} {xs : List V} {ds : List PySem.W.Dat} : SqL K H a xs → DVs K H xs ds → DV K H (.ref a) (.list ds)
  | tup {a : Addr} {xs : List V} {ds : List PySem.W.Dat} : SqT K H a xs → DVs K H xs ds → DV K H (.ref a) (.tuple ds)
inductive DVs (K : PySem.W.Frag) (H : Hp) : List V → List PySem.W.Dat → Prop
  | nil : DVs K H [] []
  | cons {x : V} {d : PySem.W.Dat} {xs : List V} {ds : List PySem.W.Dat} : DV K H x d → DVs K H xs ds → DVs K H (x :: xs) (d :: ds)
end
section
variable {X : Cx} {pins : List (Addr × Obj)} {σ : St} {H : Hp} {s : Shared}
mutual
theorem DV.reads (I : Inv X pins σ H s) : ∀ {x : V} {d : PySem.W.Dat} {u : Value}, DV X.K H x d → RelV x u → ∃ as, Reads s.heap u (PySem.W.kqdP d) as
  | _, _, _, .non, r => by cases r; exact ⟨_, Reads.none⟩
  | _, _, _, .int i, r => by obtain ⟨t, rfl⟩ := r; exact ⟨_, Reads.int i t⟩
  | _, _, _, .str x, r => by obtain ⟨t, rfl⟩ := r; exact ⟨_, Reads.str x t⟩
  | _, _, _, .lst hq hd, r => by
    cases r
    obtain ⟨its, rv, pl, _⟩ := I.list hq
    obtain ⟨as, q⟩ := DVs.reads I hd rv
    obtain ⟨o, ho, hc, n, hd'⟩ := pl.isList
    rw [PySem.W.kqdP]
    exact ⟨_, reads_list_at ho hc hd' (by simpa using q)⟩
  | _, _, _, .tup hq hd, r => by
    cases r
    obtain ⟨its, rv, pl, _⟩ := I.tuple hq
    obtain ⟨as, q⟩ := DVs.reads I hd rv
    obtain ⟨o, ho, hc, n, hd'⟩ := pl
    rw [PySem.W.kqdP]
    exact ⟨_, reads_tuple_at ho hc hd' (by simpa using q)⟩
theorem DVs.reads (I : Inv X pins σ H s) : ∀ {xs : List V} {ds : List PySem.W.Dat} {us : List Value}, DVs X.K H xs ds → Vals xs us → ∃ as, ReadsAll s.heap us (PySem.W.kqdPs ds) as
  | _, _, _, .nil, r => by cases r; exact ⟨_, ReadsAll.nil⟩
  | _, _, _, .cons hd t, r => by
    cases r with
    | cons r1 r2 =>
      obtain ⟨as, q⟩ := DV.reads I hd r1
      obtain ⟨bs, p⟩ := DVs.reads I t r2
      rw [PySem.W.kqdPs]
      exact ⟨_, ReadsAll.cons q p⟩
end
open Classical in
def rEqD (K : PySem.W.Frag) : R2 := fun x y H Q => ∃ d e, DV K H x d ∧ DV K H y e ∧ PySem.W.kqdOk 9 d = true ∧ PySem.W.kqdOk 9 e = true ∧ Q (.bl (decide (d = e))) H
open Classical in
def rNeD (K : PySem.W.Frag) : R2 := fun x y H Q => ∃ d e, DV K H x d ∧ DV K H y e ∧ PySem.W.kqdOk 9 d = true ∧ PySem.W.kqdOk 9 e = true ∧ Q (.bl (!decide (d = e))) H
open Classical in
theorem eqv_dec {d e : PySem.W.Dat} (h1 : PySem.W.kqdOk 9 d = true) (h2 : PySem.W.kqdOk 9 e = true) : PyData.eqv (PySem.W.kqdP d) (PySem.W.kqdP e) = decide (d = e) := by
  have q := PySem.W.kqd_eqv 9 d e 9 h1 h2
  by_cases hq : d = e
  · rw [decide_eq_true hq]; exact q.mpr hq
  · rw [decide_eq_false hq]; exact Bool.eq_false_iff.mpr fun z => hq (q.mp z)
theorem shaped_of {d : PySem.W.Dat} (h : PySem.W.kqdOk 9 d = true) : SeqAt.shaped (PySem.W.kqdP d) = true := by
  have l := PySem.W.kqd_lay 9 d h
  unfold SeqAt.shaped
  rw [l.1, Bool.true_and]
  exact decide_eq_true (Nat.le_trans l.2 (by decide))
theorem op_eqD (hu : X.A.units + 64 < cLine) : OpR X (compareOp .Eq) (rEqD X.K) := by
  intro pins s σ H x y v u Q I rx ry h
  obtain ⟨d, e, hd, he, k1, k2, q⟩ := h
  obtain ⟨as, ra⟩ := hd.reads I rx
  obtain ⟨bs, rb⟩ := he.reads I ry
  refine eq_dataH ra rb (shaped_of k1) (shaped_of k2) hu ?_
  rw [eqv_dec k1 k2]
  exact ⟨.bl _, H, I, rfl, q⟩
theorem op_neD (hu : X.A.units + 64 < cLine) : OpR X (compareOp .NotEq) (rNeD X.K) := by
  intro pins s σ H x y v u Q I rx ry h
  obtain ⟨d, e, hd, he, k1, k2, q⟩ := h
  obtain ⟨as, ra⟩ := hd.reads I rx
  obtain ⟨bs, rb⟩ := he.reads I ry
  refine ne_dataH ra rb (shaped_of k1) (shaped_of k2) hu ?_
  rw [eqv_dec k1 k2]
  exact ⟨.bl _, H, I, rfl, q⟩
end
end L2
/-! Rules that a term generator can name by the construct alone; contracts of defs, methods, classes. -/
namespace L2
open PySem PySem.Spec PyProof.Rows
section
variable {X : Cx}
/-! ### one rule an operator -/
def rAddU (K : PySem.W.Frag) : R2 := fun x y H Q => rI0 (fun i j => .int (i + j)) x y H Q ∨ rCat x y H Q ∨ rCatT' K x y H Q ∨ (∃ i j, x = .str i ∧ y = .str j ∧ i.length + j.length ≤ sizeLine ∧ Q (.str (i ++ j)) H)
theorem op_addU : OpR X (binaryOp .Add) (rAddU X.K) := OpR.or op_add (OpR.or op_cat (OpR.or op_catT' op_add_str))
def rMulU : R2 := fun x y H Q => rI CMul (fun i j => .int (i * j)) x y H Q ∨ rRep x y H Q
theorem op_mulU : OpR X (binaryOp .Mult) rMulU := OpR.or op_mul op_rep
def rEqU (K : PySem.W.Frag) : R2 := fun x y H Q => rEq x y H Q ∨ rEqD K x y H Q
theorem op_eqU (hu : X.A.units + 64 < cLine) : OpR X (compareOp .Eq) (rEqU X.K) := OpR.or op_eq (op_eqD hu)
def rNeU (K : PySem.W.Frag) : R2 := fun x y H Q => rNe x y H Q ∨ rNeD K x y H Q
theorem op_neU (hu : X.A.units + 64 < cLine) : OpR X (compareOp .NotEq) (rNeU X.K) := OpR.or op_ne (op_neD hu)
def rIxLT (K : PySem.W.Frag) : R2 := fun x y H Q => rIxL K x y H Q ∨ rIxT K x y H Q
theorem ix_LT : IxR X (rIxLT X.K) := IxR.or ix_list ix_tup
end

/-! ### contracts -/
structure Ctr (P : Program) (w : World) (K : PySem.W.Frag) (mg : Str → Option Value) (base : Heap) (CX : CXT) (k : Nat) (x : Str) (ps : List Str) (sp : Sp) : Prop where
  ex : ∃ f fd, FnOk P w K mg base CX k f fd ps sp ∧ mg x = some (.ref f) ∧ PySem.W.keepIn K (.ref f) = true ∧ Binds K fd ps []
section
variable {X : Cx} {CX : CXT} {k : Nat} {C : Addr} {ps : List Str} {sp : Sp} {E : XK} {x m : Str} {p pos apos : Pos} {e o : Expr} {es : List Expr} {ta : TE} {t : TA}
theorem pe_callCE (c : Ctr X.prog X.w X.K X.mg X.base CX k x ps sp) (hr : Room k X.A) (hg : Gl X x) (ha : PA X (e :: es) t) (hx : Passes CX X E) (hdb : (x == ("__debug__" : Str)) = false := by decide)
    (he : starEach (e :: es) X.env = (false, eval e X.env) :: starEach es X.env := by rfl) (hpl : (backTo pos (starEach es X.env)).any (·.1) = false := by rfl) : PE X (.Call (.Name x p) (e :: es) [] pos) (tCall sp [] E t) := by
  obtain ⟨f, fd, F, hm, hk, hb⟩ := c.ex
  exact pe_call F hr hg hm hk hb .nil hx ha hdb he hpl
theorem pe_callC (c : Ctr X.prog X.w X.K X.mg X.base CX0 k x ps sp) (hr : Room k X.A) (hg : Gl X x) (ha : PA X (e :: es) t) (hdb : (x == ("__debug__" : Str)) = false := by decide)
    (he : starEach (e :: es) X.env = (false, eval e X.env) :: starEach es X.env := by rfl) (hpl : (backTo pos (starEach es X.env)).any (·.1) = false := by rfl) : PE X (.Call (.Name x p) (e :: es) [] pos) (tCall sp [] E0 t) :=
  pe_callCE c hr hg ha pass0 hdb he hpl
end

/-- a built-in type as a value -/
theorem pe_tyN {X : Cx} {x : Str} {n : String} {pos : Pos} (hg : Gl X x) (hm : X.mg x = none) (hv : bootBuiltins x = some (.type n)) (hn : x ≠ "__name__" := by decide) (hd : (x == ("__debug__" : Str)) = false := by decide) : PE X (.Name x pos) (tC (.ty n)) :=
  pe_bltn (v := .ty n) hg hm hv rfl hn hd
/-- an own class as a value -/
theorem pe_clsN {X : Cx} {x : Str} {C : Addr} {pos : Pos} (hg : Gl X x) (hm : X.mg x = some (.ref C)) (hd : (x == ("__debug__" : Str)) = false := by decide) : PE X (.Name x pos) (tC (.ref C)) := pe_glob (v := .ref C) hg hm rfl hd
/-! ### small words for readings -/
/-- an int of the module -/
theorem pe_gint {X : Cx} {x : Str} {n : Int} {pos : Pos} (hg : Gl X x) (hm : ∃ t, X.mg x = some (.int n t)) (hd : (x == ("__debug__" : Str)) = false := by decide) : PE X (.Name x pos) (tC (.int n)) :=
  let ⟨t, e⟩ := hm; pe_glob hg e ⟨t, rfl⟩ hd
theorem upd_get {H : Hp} {a b : Addr} {o u : HO} (h : H b = some u) (ha : H a = none) : upd H a o b = some u := by rw [upd_ne (ne_of_none h ha)]; exact h
theorem Same.upd {H : Hp} {a : Addr} {o : HO} (h : H a = none) : Same H (L2.upd H a o) := fun b u e => upd_get e h
theorem iteB {c : Bool} {A B : Prop} (h1 : c = true → A) (h2 : c = false → B) : if c = true then A else B := by
  cases c with
  | true => rw [if_pos rfl]; exact h1 rfl
  | false => rw [if_neg Bool.false_ne_true]; exact h2 rfl
end L2
/-! The rules whose readings speak of the text's written part, with that part named (K): so they serve inside a comprehension too. -/
namespace L2
open PySem PySem.Spec PyProof.Rows
section
variable {X : Cx} {K : PySem.W.Frag} {a b c e o l value : Expr} {es : List Expr} {ta tb te tl tv to : TE} {t : TA} {f name : Str} {pos pos' p apos cpos tpos : Pos} {T id : String} {r : V → List V → Hp → VK → Prop}
theorem op_addK (hK : X.K = K) : OpR X (binaryOp .Add) (rAddU K) := by subst hK; exact op_addU
theorem op_eqK (hK : X.K = K) (hu : X.A.units + 64 < cLine) : OpR X (compareOp .Eq) (rEqU K) := by subst hK; exact op_eqU hu
theorem op_neK (hK : X.K = K) (hu : X.A.units + 64 < cLine) : OpR X (compareOp .NotEq) (rNeU K) := by subst hK; exact op_neU hu
theorem op_inK (hK : X.K = K) : OpR X (compareOp .In) (rIn K false) := by subst hK; exact op_in_seq
theorem op_notInK (hK : X.K = K) : OpR X (compareOp .NotIn) (rIn K true) := by subst hK; exact op_notIn_seq
theorem ix_K (hK : X.K = K) : IxR X (rIxLT K) := by subst hK; exact ix_LT
theorem sl_K (hK : X.K = K) : SlR X (rSlL K) := by subst hK; exact sl_list
theorem pi_listK {tg : Expr} (hK : X.K = K) (hl : PE X l tl) : PI X tg l (iList K tl) := by subst hK; exact pi_list hl
theorem pi_zipK {k : Nat} {m : Expr} (hK : X.K = K) (hg : Gl X "zip") (hm : X.mg "zip" = none) (ha : PA X [l, m] t) (hs : starEach [l, m] X.env = [(false, eval l X.env), (false, eval m X.env)] := by rfl) (hs2 : starEach [m] X.env = [(false, eval m X.env)] := by rfl) :
    PI X (.Tuple es k tpos) (.Call (.Name "zip" p) [l, m] [] pos) (iZip K t) := by subst hK; exact pi_zip hg hm ha hs hs2
theorem pg_tupK {k n : Nat} {ts : TGs} (hK : X.K = K) (hc : X.calm = true) (h : PGs X es ts) (hn : (assignEach es X.env).length = n := by rfl) (hst : (assignEach es X.env).findIdx? (·.1) = none := by rfl) : PG X (.Tuple es k pos) (gTup K n ts) := by
  subst hK; exact pg_tup hc h hn hst
theorem callK_len (hK : X.K = K) : CallR X (.builtin "len") (fun xs H Q => ∃ x n, xs = [x] ∧ LenV K x H n ∧ Q (.int n) H) := by subst hK; exact call_len
theorem callK_sorted (hK : X.K = K) : CallR X (.builtin "sorted") (fun xs H Q => ∃ (p : Addr) (ns : List Int), xs = [.ref p] ∧ SqL K H p (ns.map V.int) ∧ ns.length < 64 ∧
    ∀ (l : Addr) (ns' : List Int), H l = none → ns'.Perm ns → ns'.Pairwise (· ≤ ·) → Q (.ref l) (upd H l (.lst (ns'.map V.int)))) := by subst hK; exact call_sortedI
theorem callK_any (hK : X.K = K) (hc : X.calm = true) : CallR X (.builtin "any") (fun xs H Q => ∃ (p : Addr) (bs : List Bool), xs = [.ref p] ∧ SqL K H p (bs.map V.bl) ∧ Q (.bl (bs.any _root_.id)) H) := by subst hK; exact call_anyB hc
theorem callK_all (hK : X.K = K) (hc : X.calm = true) : CallR X (.builtin "all") (fun xs H Q => ∃ (p : Addr) (bs : List Bool), xs = [.ref p] ∧ SqL K H p (bs.map V.bl) ∧ Q (.bl (bs.all _root_.id)) H) := by subst hK; exact call_allB hc
theorem callK_sum (hK : X.K = K) (hc : X.calm = true) : CallR X (.builtin "sum") (fun xs H Q => ∃ (p : Addr) (ns : List Int), xs = [.ref p] ∧ SqL K H p (ns.map V.int) ∧ Q (.int ns.sum) H) := by subst hK; exact call_sumI hc
theorem callK_isinstance (hK : X.K = K) : CallR X (.builtin "isinstance") (fun xs H Q => ∃ x c cv t b, xs = [x, c] ∧ RelV c cv ∧ (∀ u, RelV c u → u = cv) ∧ TyOf K H x t ∧ PySem.W.kitOne K t cv = some b ∧ Q (.bl b) H) := by subst hK; exact call_isinst
theorem pt_truK (hK : X.K = K) (ha : PE X a ta) (he : ∀ whole, isTrue a X.env whole = (do let v ← whole; standAt a.pos; holding [v] (truthy v))) : PT X a (fun σ H Q => ta σ H fun x H' => ∃ k, TruV K x H' k ∧ Q k H') := by subst hK; exact pt_truth ha he
theorem mt_joinK (hK : X.K = K) : MtR X "str.join" (rJoin K) := by subst hK; exact mt_join
end
section
variable {X : Cx} {K : PySem.W.Frag} {o e : Expr} {es : List Expr} {to : TE} {t : TA} {name : Str} {apos cpos : Pos} {T id : String} {r : V → List V → Hp → VK → Prop}
theorem pe_bmK (hK : X.K = K) (pa : PlainAttrs T) (slot : Slot T name id) (hty : typeOf (.builtin id) = pure (.type "method_descriptor")) (hm : MtR X id r) (ho : PE X o to) (ha : PA X (e :: es) t)
    (hbase : attributeBase o name X.env (eval o X.env) = eval o X.env := by rfl)
    (hfew : ((backTo cpos (starEach (e :: es) X.env)).all (fun x => !x.1) && (backToKw cpos (keywordEach [] X.env)).all (fun x => x.1.isSome)
      && decide ((e :: es).length + ([] : List Keyword).length + (if ([] : List Keyword).isEmpty then 0 else 1) < 30)) = true := by rfl)
    (hline : (apos.endLine == cpos.line) = true := by rfl) (hs : starEach (e :: es) X.env = (false, eval e X.env) :: starEach es X.env := by rfl) (hplain : (backTo cpos (starEach es X.env)).any (·.1) = false := by rfl) :
    PE X (.Call (.Attribute o name apos) (e :: es) [] cpos) (tBM K T r to t) := by subst hK; exact pe_bm pa slot hty hm ho ha hbase hfew hline hs hplain
end
end L2
/-! Small facts about lists, cuts, orders. -/
namespace L2
open PySem PySem.Spec PyProof.Rows

theorem cutV_from (xs : List V) (k : Nat) : cutV xs (some (k : Int)) none = xs.drop k := by
  unfold cutV
  rw [HT.sIx_nat, HT.sIx_none]
  by_cases h : k ≤ xs.length
  · rw [Nat.min_eq_left h, List.take_of_length_le (by simp)]
  · rw [Nat.min_eq_right (by omega), List.drop_of_length_le (Nat.le_refl _), List.drop_of_length_le (by omega), List.take_nil]
theorem cutV_to (xs : List V) (k : Nat) : cutV xs none (some (k : Int)) = xs.take k := by
  unfold cutV
  rw [HT.sIx_nat, HT.sIx_none]
  simp only [List.drop_zero, Nat.sub_zero]
  by_cases h : k ≤ xs.length
  · rw [Nat.min_eq_left h]
  · rw [Nat.min_eq_right (by omega), List.take_of_length_le (Nat.le_refl _), List.take_of_length_le (by omega)]
/-- two neighbours alike -/
def adj (ns : List Int) : List Bool := (ns.zip (ns.drop 1)).map fun p => decide (p.1 = p.2)
theorem adj_len (ns : List Int) : (adj ns).length = min ns.length (ns.length - 1) := by
  unfold adj
  rw [List.length_map, List.length_zip, List.length_drop]
theorem adj_cons (a b : Int) (r : List Int) : adj (a :: b :: r) = decide (a = b) :: adj (b :: r) := by
  unfold adj
  simp
theorem adj_get {ns : List Int} {i : Nat} {x y : Int} (hx : ns[i]? = some x) (hy : (ns.drop 1)[i]? = some y) : (adj ns)[i]? = some (decide (x = y)) := by
  unfold adj
  rw [List.getElem?_map, List.getElem?_zip_eq_some (z := (x, y)) |>.mpr ⟨hx, hy⟩]
  rfl
theorem adj_take {ns : List Int} {i : Nat} {x y : Int} (hx : ns[i]? = some x) (hy : (ns.drop 1)[i]? = some y) : (adj ns).take (i + 1) = (adj ns).take i ++ [decide (x = y)] := by
  rw [List.take_add_one, adj_get hx hy]
  rfl
/-- in a rising list two alike stand beside one another -/
theorem adj_nodup : ∀ {ns : List Int}, ns.Pairwise (· ≤ ·) → ((adj ns).any id = !decide ns.Nodup)
  | [], _ => by simp [adj]
  | [a], _ => by simp [adj]
  | a :: b :: r, h => by
    rw [List.pairwise_cons] at h
    have ih := adj_nodup h.2
    rw [adj_cons, List.any_cons, ih]
    have hab : a ≤ b := h.1 b List.mem_cons_self
    by_cases e : a = b
    · subst e
      have : ¬ (a :: a :: r).Nodup := fun z => (List.nodup_cons.mp z).1 List.mem_cons_self
      simp [this]
    · have ne : a ∉ b :: r := fun hm => by
        rcases List.mem_cons.mp hm with z | z
        · exact e z
        · have h1 := (List.pairwise_cons.mp h.2).1 a z
          exact e (by omega)
      have : (a :: b :: r).Nodup ↔ (b :: r).Nodup := by rw [List.nodup_cons]; exact ⟨fun z => z.2, fun z => ⟨ne, z⟩⟩
      by_cases hn : (b :: r).Nodup
      · simp [e, this.mpr hn, hn]
      · simp [e, this, hn]
theorem getMap {α β : Type} {f : α → β} {l : List α} {i : Nat} {y : β} (h : (l.map f)[i]? = some y) : ∃ x, l[i]? = some x ∧ y = f x := by
  rw [List.getElem?_map] at h
  cases e : l[i]? with
  | none => rw [e] at h; cases h
  | some x => rw [e] at h; exact ⟨x, rfl, (Option.some.inj h).symm⟩
theorem take_snoc {α : Type} {l : List α} {i : Nat} {x : α} (h : l[i]? = some x) : l.take (i + 1) = l.take i ++ [x] := by
  rw [List.take_add_one, h]
  rfl
theorem decV (a b : Int) : decide (V.int a = V.int b) = decide (a = b) := decide_eq_decide.mpr ⟨fun h => V.int.inj h, fun h => h ▸ rfl⟩
end L2
/-! A frame's note on an exception that passes: the object itself stays known, its dict too. -/
namespace Xc
open PySem
section
variable {M : Model} {A : Around} {E : Value → Shared → Prop} {s : Shared}
/-- an exception at e: class, dict, its first arguments; its chain of notes begins at T (flight fl) -/
structure Exc (h : Heap) (e : Addr) (cls : Value) (od : Option Addr) (sl : Array (Option Value)) (vs : Array Value) : Prop where
  obj : h.get? e = some { cls := cls, dict := od, data := .fields vs, slots := sl }
  big : 2 < vs.size
structure Tb (h : Heap) (T : Addr) (fl : Value) : Prop where
  ex : ∃ oT ts, h.get? T = some oT ∧ oT.data = .fields ts ∧ ts[3]? = some fl
theorem map_at {h : Heap} {a : Addr} {o : Obj} {vs : Array Value} {i : Nat} {x : Value} (ho : h.get? a = some o) (hd : o.data = .fields vs) :
    (h.update a (Obj.mapFields (·.setIfInBounds i x))).get? a = some { o with data := .fields (vs.setIfInBounds i x) } := by
  rw [Heap.get?_update_self _ ho (Obj.isFreed_of_fields (Obj.data_mapFields hd _))]
  obtain ⟨c, d, dt, sl⟩ := o
  subst hd
  rfl
/-- the note written: a new entry T' over the old one (or the first) -/
theorem entry_new {base : Heap} {env : Env} {outer : List Env} {L e : Addr} {cls : Value} {od : Option Addr} {sl : Array (Option Value)} {vs : Array Value} {head : Value} {had : Bool} {Q : Unit → Shared → Prop}
    (hfr : A.frames = some (env :: outer)) (hl : s.heap.FunFrames base (env :: outer)) (hf : env.frame = some L) (hx : Exc s.heap e cls od sl vs)
    (h : ∀ h' T', (∀ b o, b ∉ (env :: outer).filterMap (·.frame) → b ≠ e → s.heap.get? b = some o → h'.get? b = some o) → (∀ b o, b ≠ e → s.heap.get? b = some o → ∃ k, h'.get? b = some { o with slots := k }) →
      s.heap.objs.size ≤ T' → Exc h' e cls od sl (vs.setIfInBounds 1 (.ref T')) → Tb h' T' (rawInt L) → Q () { s with heap := h' }) :
    wpAny M A (do let a ← frameOf env; let pl ← entryPlaceOf L had; let b ← EntryCells.newEntry head a .none (rawInt L) .none pl; setField (.ref e) 1 b) Q E s := by
  have he := hx.obj
  have nfr : e ∉ (env :: outer).filterMap (·.frame) := fun hm => by
    obtain ⟨_, o, ho, hn⟩ := hl.mem hm
    rw [he] at ho
    cases ho
    exact hn vs rfl
  refine wpAny_bind (wpAny_frameOf_fun hfr hl hf fun g hs => wpAny_bind (wpAny_entryPlaceOf fun pl hpl => ?_))
  unfold EntryCells.newEntry newFields
  refine wpAny_bind (wpAny_newObj_type ?_ (hpl.sizeOk5 _ _ _ _ _))
  have e1 : g.get? e = some { cls := cls, dict := od, data := .fields vs, slots := sl } := (hs.2.1 e nfr).trans he
  generalize eN : ({ cls := .type "traceback", dict := none, data := .fields ([head, Value.ref L, .none, rawInt L, .none] ++ (if pl.isEmpty then List.replicate 6 Value.none else pl)).toArray } : Obj) = oN
  have eD : oN.data = .fields ([head, Value.ref L, .none, rawInt L, .none] ++ (if pl.isEmpty then List.replicate 6 Value.none else pl)).toArray := by rw [← eN]
  have e2 := Heap.get?_push_of_some (h := g) oN e1
  have eT : g.objs.size ≠ e := Nat.ne_of_gt (Heap.lt_size e1)
  refine wpAny_setField e2 rfl (Nat.lt_of_succ_lt hx.big) (h _ g.objs.size (fun b o hb hbe q => ?_) (fun b o hbe q => ?_) (Nat.le_of_eq hs.1.symm) ⟨map_at e2 rfl, by simpa using hx.big⟩ ⟨⟨oN, _, ?_, eD, ?_⟩⟩)
  · exact (Heap.get?_update_other _ _ (Ne.symm hbe)).trans (Heap.get?_push_of_some _ ((hs.2.1 b hb).trans q))
  · obtain ⟨k, z⟩ := hs.2.2 b o q
    exact ⟨k, (Heap.get?_update_other _ _ (Ne.symm hbe)).trans (Heap.get?_push_of_some _ z)⟩
  · exact (Heap.get?_update_other _ _ (Ne.symm eT)).trans (Heap.get?_push_size _ (by rw [← eN]; rfl))
  · rcases hpl with rfl | ⟨_, _, _, _, _, _, _, rfl⟩ <;> simp
/-- noteFrame: nobody has noted yet, or the last note is another frame's that has landed -/
theorem note_step {base : Heap} {env : Env} {outer : List Env} {L e : Addr} {cls : Value} {od : Option Addr} {sl : Array (Option Value)} {vs : Array Value} {Q : Unit → Shared → Prop}
    (hfr : A.frames = some (env :: outer)) (hl : s.heap.FunFrames base (env :: outer)) (hf : env.frame = some L) (hx : Exc s.heap e cls od sl vs)
    (ht : vs[1]? = some .none ∨ ∃ T, vs[1]? = some (.ref T) ∧ T ≠ e ∧ Tb s.heap T .none)
    (h : ∀ h' T', (∀ b o, b ∉ (env :: outer).filterMap (·.frame) → b ≠ e → vs[1]? ≠ some (.ref b) → s.heap.get? b = some o → h'.get? b = some o) →
      (∀ b o, b ≠ e → vs[1]? ≠ some (.ref b) → s.heap.get? b = some o → ∃ k, h'.get? b = some { o with slots := k }) → (∀ b o, vs[1]? = some (.ref b) → s.heap.get? b = some o → ∃ o', h'.get? b = some o') →
      s.heap.objs.size ≤ T' → Exc h' e cls od sl (vs.setIfInBounds 1 (.ref T')) → Tb h' T' (rawInt L) → Q () { s with heap := h' }) :
    wpAny M A (noteFrame (.ref e) env) Q E s := by
  unfold noteFrame
  simp only [hf]
  rcases ht with h1 | ⟨T, h1, hTe, ⟨oT, ts, hT, hdT, h3⟩⟩
  · refine wpAny_bind (wpAny_field hx.obj rfl h1 ?_)
    rw [if_neg (by decide)]
    exact entry_new hfr hl hf hx fun h' T' k1 k2 k3 k4 k5 => h h' T' (fun b o b1 b2 _ => k1 b o b1 b2) (fun b o b2 _ => k2 b o b2) (fun b o z => by rw [h1] at z; cases z) k3 k4 k5
  · refine wpAny_bind (wpAny_field hx.obj rfl h1 ?_)
    rw [if_pos (show (Value.ref T != Value.none) = true from by simp)]
    refine wpAny_bind (wpAny_field hT hdT h3 ?_)
    rw [if_neg (show ¬ ((Value.none == rawInt L) = true) from by simp [rawInt])]
    refine wpAny_bind (wpAny_setField hT hdT (Array.getElem?_eq_some_iff.mp h3).1 ?_)
    have oth : ∀ b, b ≠ T → (s.heap.update T (Obj.mapFields (·.setIfInBounds 3 Value.none))).get? b = s.heap.get? b := fun b hb => Heap.get?_update_other _ _ (Ne.symm hb)
    have hTn := map_at (i := 3) (x := Value.none) hT hdT
    refine entry_new (base := base) (had := true) hfr (hl.of_keeps fun b o hb hn => ?_) hf ⟨(oth e (Ne.symm hTe)).trans hx.obj, hx.big⟩ fun h' T' k1 k2 k3 k4 k5 => h h' T' (fun b o b1 b2 b3 q => ?_) (fun b o b2 b3 q => ?_) (fun b o b3 q => ?_) (by simpa using k3) k4 k5
    · have bT : b ≠ T := fun z => by
        rw [z, hT] at hb
        cases hb
        exact hn ts hdT
      exact ⟨o, (oth b bT).trans hb, rfl⟩
    · have bT : b ≠ T := fun z => b3 (by rw [z]; exact h1)
      exact k1 b o b1 b2 ((oth b bT).trans q)
    · have bT : b ≠ T := fun z => b3 (by rw [z]; exact h1)
      exact k2 b o b2 ((oth b bT).trans q)
    · have bT : b = T := by
        rw [h1] at b3
        cases b3
        rfl
      subst bT
      obtain ⟨k, z⟩ := k2 b _ hTe hTn
      exact ⟨_, z⟩
/-- setFlight e none -/
theorem land {e T : Addr} {cls : Value} {od : Option Addr} {sl : Array (Option Value)} {vs : Array Value} {fl : Value} {Q : Unit → Shared → Prop} (hx : Exc s.heap e cls od sl vs) (h1 : vs[1]? = some (.ref T)) (hTe : T ≠ e) (ht : Tb s.heap T fl)
    (h : ∀ h', (∀ b o, b ≠ T → s.heap.get? b = some o → h'.get? b = some o) → Tb h' T .none → Q () { s with heap := h' }) : wpAny M A (setFlight (.ref e) none) Q E s := by
  obtain ⟨oT, ts, hT, hdT, h3⟩ := ht.ex
  have hz : 3 < ts.size := (Array.getElem?_eq_some_iff.mp h3).1
  unfold setFlight
  refine wpAny_bind (wpAny_field hx.obj rfl h1 ?_)
  rw [if_pos (show (Value.ref T != Value.none) = true from by simp)]
  refine wpAny_setField hT hdT hz (h _ (fun b o hb q => (Heap.get?_update_other _ _ (Ne.symm hb)).trans q) ⟨⟨_, _, map_at hT hdT, rfl, ?_⟩⟩)
  simp [hz]
end
end Xc
/-! An own exception class under own ones, with an __init__ of its own: the object made, then handed to __init__. -/
namespace Xc
open PySem
section
variable {prog : Program} {w : World} {A : Around} {E : Value → Shared → Prop} {h : Heap} {g : Array GenState} {d : Drawn} {t : Nat} {os : OsState}
variable {nm q : Str} {C N : Addr} {bs bm bmB : List Value} {hdct : Bool} {sn : List Str} {sub : List Value} {ab : Bool} {col : Option Bool} {dd : Option Addr} {k0 k1 k2 k3 k5 : Option Value} {B newId initId : String}
end
end Xc
namespace Xc
open PySem
section
variable {M : Model} {A : Around} {E : Value → Shared → Prop} {s : Shared} {env : Env}
variable {nm q : Str} {C N : Addr} {bs bm : List Value} {hdct : Bool} {sn : List Str} {sub : List Value} {ab : Bool} {col : Option Bool} {dd : Option Addr} {k0 k1 k2 k3 k5 : Option Value} {newId : String}
/-- raise x, x an exception of an own class that nobody has noted yet -/
theorem raise_made {x : Sem Value} {Q : Flow → Shared → Prop} (hbase : bm.contains (.type "BaseException") = true) (hh : A.handled = none)
    (h : wpAny M A x (fun v s1 => ∃ e od sl vs, v = .ref e ∧ s1.heap.get? C = some (excClassObj nm q C N bs bm hdct sn sub ab col dd k0 k1 k2 k3 k5 newId) ∧ Exc s1.heap e (.ref C) od sl vs ∧ vs[1]? = some .none ∧ E (.ref e) s1) E s) :
    wpAny M A (raiseStmt env (some x) none) Q E s := by
  have hcB : (Value.ref C :: bm).contains (.type "BaseException") = true := by rw [List.contains_cons, hbase, Bool.or_true]
  unfold raiseStmt
  refine wpAny_bind (wpAny_mono h (fun v s1 h1 => ?_) fun _ _ x => x)
  obtain ⟨e, od, sl, vs, rfl, hC, ⟨he, hb⟩, hv, hE⟩ := h1
  obtain ⟨hp, g, d, tk, os⟩ := s1
  repeat (first | with_reducible refine wpAny_field he rfl hv ?_ | with_reducible refine wpAny_loadPart_at he ?_ | with_reducible refine wpAny_loadPart_at hC ?_ | (with_reducible refine wpAny_isSubtype_exc hC ?_; rw [hcB]) | wp_step)
  exact wpAny_raiseNew_none hh hE
end
end Xc
/-! Exceptions over the hand layer: how one lies behind a call, how it leaves a frame, how it passes a caller. -/
namespace L2
open PySem PySem.Spec PyProof.Rows
/-- an exception behind a call: the object at ea (class, dict), its notes begin at T; the heap behind it -/
def CXe (P : Program) (w : World) : CXT := fun outer H s E e s' => ∃ (ea T : Addr) (cls : Value) (od : Option Addr) (sl : Array (Option Value)) (vs : Array Value) (H' : Hp),
  e = .ref ea ∧ s'.os = s.os ∧ AllBare s'.gens ∧ Un (frs outer) [] H H' s.heap s'.heap ∧ HOk P w H' s'.heap ∧ H' ea = none ∧ H' T = none ∧ s.heap.objs.size ≤ ea ∧ s.heap.objs.size ≤ T ∧
  Xc.Exc s'.heap ea cls od sl vs ∧ vs[1]? = some (.ref T) ∧ T ≠ ea ∧ vs[2]? = some .none ∧ Xc.Tb s'.heap T .none ∧ E cls od H'
/-- one that is raised in this body, not noted yet -/
structure Flying (X : Cx) (H : Hp) (s : Shared) (ea : Addr) (cls : Value) (od : Option Addr) (sl : Array (Option Value)) (vs : Array Value) : Prop where
  exc : Xc.Exc s.heap ea cls od sl vs
  h2 : vs[2]? = some .none
  free : H ea = none
  new : X.s₀.heap.objs.size ≤ ea
  nofr : ∀ x c, X.env.cells.lookup x = some c → c ≠ ea
  tb : vs[1]? = some .none ∨ ∃ T, vs[1]? = some (.ref T) ∧ T ≠ ea ∧ Xc.Tb s.heap T .none ∧ H T = none ∧ X.s₀.heap.objs.size ≤ T
section
variable {P : Program} {w : World} {K : PySem.W.Frag} {mg : Str → Option Value} {base : Heap} {N : List Str} {qual : Str} {scope : Scope} {f : Addr} {cd : Value} {A : Around} {outer : List Env} {s : Shared} {H : Hp} {E : XK}
theorem hok_kept {H' : Hp} {h h' : Heap} (ok : HOk P w H' h) (k : ∀ b o u, H' b = some u → h.get? b = some o → h'.get? b = some o) : HOk P w H' h' := fun b u e =>
  (ok b u e).stay (fun c v hc q => by
    rcases hc with rfl | hc
    · exact k c v _ e q
    · exact k c v _ hc q) (fun _ q => q) (fun _ _ q => q) fun _ _ _ q => q
/-- it leaves the frame -/
theorem fly_out {pins : List (Addr × Obj)} {σ : St} {H' : Hp} {s' : Shared} {ea : Addr} {cls : Value} {od : Option Addr} {sl : Array (Option Value)} {vs : Array Value}
    (I : Inv (cxOf (CXe P w) P w K mg base N qual scope f cd A outer s H E) pins σ H' s') (F : Flying (cxOf (CXe P w) P w K mg base N qual scope f cd A outer s H E) H' s' ea cls od sl vs) (q : E cls od H') :
    (cxOf (CXe P w) P w K mg base N qual scope f cd A outer s H E).xe (.ref ea) s' := by
  have hst : s'.heap.FunFrames base (envOfC qual scope s.heap.objs.size f cd :: outer) := I.stack
  have hfr : (A.deeper (envOfC qual scope s.heap.objs.size f cd)).frames = some (envOfC qual scope s.heap.objs.size f cd :: outer) := I.ok.frames
  have sfree : ∀ b ∈ (envOfC qual scope s.heap.objs.size f cd :: outer).filterMap (·.frame), H' b = none := I.stkFree
  have sub : ∀ b ∈ (envOfC qual scope s.heap.objs.size f cd :: outer).filterMap (·.frame), b ∈ s.heap.objs.size :: frs outer := I.stkSub
  have bs := I.base
  have new0 : s.heap.get? ea = none := Heap.get?_none_of_le F.new
  show wpAny (model P w) (A.deeper (envOfC qual scope s.heap.objs.size f cd)) (leaving (envOfC qual scope s.heap.objs.size f cd) (.ref ea)) (fun _ s'' => CXe P w outer H s E (.ref ea) s'') (fun e' s'' => CXe P w outer H s E e' s'') s'
  unfold leaving
  refine wpAny_bind (Xc.note_step hfr hst rfl F.exc (F.tb.imp id fun ⟨T, a, b, c, _⟩ => ⟨T, a, b, c⟩) fun h1 T1 k1 k2 k3 k4 k5 k6 => ?_)
  have hv1 : (vs.setIfInBounds 1 (.ref T1))[1]? = some (.ref T1) := by simp [Nat.lt_of_succ_lt F.exc.big]
  have hv2 : (vs.setIfInBounds 1 (.ref T1))[2]? = some .none := by rw [Array.getElem?_setIfInBounds_ne (by decide)]; exact F.h2
  have hTe : T1 ≠ ea := Nat.ne_of_gt (Nat.lt_of_lt_of_le (Heap.lt_size F.exc.obj) k4)
  refine Xc.land k5 hv1 hTe k6 fun h2 g1 g2 => ?_
  have ltT : ∀ b o, s'.heap.get? b = some o → b ≠ T1 := fun b o e => Nat.ne_of_lt (Nat.lt_of_lt_of_le (Heap.lt_size e) k4)
  have oldT : ∀ b, vs[1]? = some (.ref b) → H' b = none ∧ s.heap.get? b = none := fun b e => by
    rcases F.tb with z | ⟨T, a, _, _, d, n⟩
    · rw [z] at e; cases e
    · rw [a] at e; cases e; exact ⟨d, Heap.get?_none_of_le n⟩
  -- what was there at the entry
  have kept : ∀ b o, s.heap.get? b = some o → s'.heap.get? b = some o → b ∉ frs outer → h2.get? b = some o := fun b o e0 e hb => by
    refine g1 b o (ltT b o e) (k1 b o (fun z => ?_) (fun z => ?_) (fun z => ?_) e)
    · rcases List.mem_cons.mp (sub b z) with y | y
      · rw [y] at e0
        exact absurd (Heap.lt_size e0) (Nat.lt_irrefl _)
      · exact hb y
    · rw [z, new0] at e0; cases e0
    · rw [(oldT b z).2] at e0; cases e0
  have slots : ∀ b o, s.heap.get? b = some o → s'.heap.get? b = some o → ∃ k, h2.get? b = some { o with slots := k } := fun b o e0 e => by
    obtain ⟨k, z⟩ := k2 b o (fun z => by rw [z, new0] at e0; cases e0) (fun z => by rw [(oldT b z).2] at e0; cases e0) e
    exact ⟨k, g1 b _ (ltT b o e) z⟩
  have there : ∀ b o, s.heap.get? b = some o → ∀ o', s'.heap.get? b = some o' → ∃ o'', h2.get? b = some o'' := fun b o e0 o' e => by
    obtain ⟨k, z⟩ := k2 b o' (fun z => by rw [z, new0] at e0; cases e0) (fun z => by rw [(oldT b z).2] at e0; cases e0) e
    exact ⟨_, g1 b _ (ltT b o' e) z⟩
  refine ⟨ea, T1, cls, od, sl, _, H', rfl, I.os, I.bare, ⟨fun b o e n hb hx => ?_, fun b o e n hb hx => ?_, fun b o e n hx => bs.free b o e n (by show b ∉ ([] : List Addr); simp), fun b o e hx => ?_, bs.tups, bs.frzs, bs.tbls⟩, ?_, F.free, I.hok.fresh k4, F.new, ?_, ⟨g1 _ _ hTe.symm k5.obj, k5.big⟩, hv1, hTe, hv2, g2, q⟩
  · exact kept b o e (bs.keep b o e n hb (by show b ∉ ([] : List Addr); simp)) hb
  · obtain ⟨k0, e0⟩ := bs.slot b o e n hb (by show b ∉ ([] : List Addr); simp)
    obtain ⟨k, z⟩ := k2 b _ (fun z => by rw [z, new0] at e; cases e) (fun z => by rw [(oldT b z).2] at e; cases e) e0
    exact ⟨k, g1 b _ (ltT b _ e0) z⟩
  · obtain ⟨o', e1⟩ := bs.there b o e (by show b ∉ ([] : List Addr); simp)
    exact there b o e o' e1
  · exact hok_kept I.hok fun b o u hu e => g1 b o (ltT b o e) (k1 b o (fun z => by rw [sfree b z] at hu; cases hu) (fun z => by rw [z, F.free] at hu; cases hu) (fun z => by rw [(oldT b z).1] at hu; cases hu) e)
  · exact Nat.le_trans I.sz k4
/-- a callee's passes through -/
theorem passE {E' : XK} (h : ∀ c d H, E' c d H → E c d H) : Passes (CXe P w) (cxOf (CXe P w) P w K mg base N qual scope f cd A outer s H E) E' := by
  intro pins σ H1 s1 e s' I hx
  obtain ⟨ea, T, cls, od, sl, vs, H', rfl, ho, hb, hu, hok, n1, n2, m1, m2, ex, v1, ne, v2, tb, q⟩ := hx
  have I' := I.call' (ch := []) ho hu hok hb (fun _ z => nomatch z)
  refine fly_out I' ⟨ex, v2, n1, Nat.le_trans I.sz m1, fun x c e z => ?_, .inr ⟨T, v1, ne, tb, n2, Nat.le_trans I.sz m2⟩⟩ (h _ _ _ q)
  obtain ⟨v, o, y, _⟩ := I.cell x c e
  rw [z] at y
  exact absurd (Heap.lt_size y) (Nat.not_lt.mpr m1)
end
/-- what a raise in a body needs of its context -/
def Raises (X : Cx) (E : XK) : Prop := ∀ (pins : List (Addr × Obj)) (σ : St) (H : Hp) (s : Shared) (ea : Addr) (cls : Value) (od : Option Addr) (sl : Array (Option Value)) (vs : Array Value), Inv X pins σ H s → Flying X H s ea cls od sl vs → E cls od H → X.xe (.ref ea) s
theorem raisesE {P : Program} {w : World} {K : PySem.W.Frag} {mg : Str → Option Value} {base : Heap} {N : List Str} {qual : Str} {scope : Scope} {f : Addr} {cd : Value} {A : Around} {outer : List Env} {s : Shared} {H : Hp} {E : XK} :
    Raises (cxOf (CXe P w) P w K mg base N qual scope f cd A outer s H E) E := fun _ _ _ _ _ _ _ _ _ I F q => fly_out I F q
/-- the rule for a def whose exceptions are told -/
theorem Fun.okE {P : Program} {w : World} {K : PySem.W.Frag} {mg : Str → Option Value} {base : Heap} {x qual : Str} {st : Stmt} {f : Addr} {fd : FuncData} {N ps : List Str} {k : Nat} {sp : Sp} (F : Fun K x qual st f fd) (S : FnScope N ps (defScope st)) (len : ∀ vs H Q E, sp vs H Q E → vs.length = ps.length)
    (hbody : ∀ (cdv : Value) (A : Around) (outer : List Env) (s : Shared) (H : Hp) (vs : List V) (Q : VK) (E : XK), Room k (A.deeper (envOfC qual (defScope st) s.heap.objs.size f cdv)) → sp vs H Q E →
      ∃ t, PSs (cxOf (CXe P w) P w K mg base N qual (defScope st) f cdv A outer s H E) (defBody st) t ∧ t { nx := fun _ H' => Q .non H', rt := Q } (start N vs) H) : FnOk P w K mg base (CXe P w) (k + 1) f fd ps sp := by
  obtain ⟨oc, od, kV, doc, pm, an, cdv, ct, osl, rfl, lk, hcd⟩ := F.ex
  exact fn_of lk hcd S len fun A outer s H vs Q E hr hsp => hbody cdv A outer s H vs Q E hr hsp
end L2
/-! An exception of an own class as an object of the module's text: its attributes, isinstance. -/
namespace Xc
open PySem PySem.W PySem.Calls PyProof.Rows Builtin Builtin.ObjectAttr
/-- own classes over ValueError's own -/
def overVE : List Value → Bool
  | .ref _ :: r => overVE r
  | l => l == [.type "ValueError", .type "Exception", .type "BaseException", .type "object"]
theorem ve_not {l : List Value} (h : overVE l = true) (h' : ∀ a r, l ≠ .ref a :: r) : l = [.type "ValueError", .type "Exception", .type "BaseException", .type "object"] := by
  unfold overVE at h
  split at h
  · exact absurd rfl (h' _ _)
  · exact beq_iff_eq.mp h
theorem ve_has (n : String) (hn : ([.type "ValueError", .type "Exception", .type "BaseException", .type "object"] : List Value).contains (.type n) = true) : ∀ {l : List Value}, overVE l = true → l.contains (.type n) = true
  | l, e => by
    induction l with
    | nil => cases ve_not e (by simp)
    | cons v r ih =>
      cases v with
      | ref c => rw [List.contains_cons, ih (by rw [overVE] at e; exact e), Bool.or_true]
      | _ => rw [ve_not e (by simp)]; exact hn
structure XC (K : Frag) (C : Addr) : Prop where
  mro : (clsIn K C).any (fun cd => overVE cd.mro) = true
  hd : hasDictIn K C = true
  ga : findIn K (.ref C) "__getattribute__" = some (some (.builtin "BaseException.__getattribute__"))
  gh : findIn K (.ref C) "__getattr__" = some none
  sa : findIn K (.ref C) "__setattr__" = some (some (.builtin "object.__setattr__"))
  ca : findIn K (.ref C) "__class__" = some (some (.builtin "object.__class__"))
  cg : specialIn K (.builtin "object.__class__") "__get__" = some (some (.builtin "getset_descriptor.__get__"))
  ct : takesIn K (.builtin "object.__class__") = some true
section
variable {prog : Program} {w : World} {A : Around} {E : Value → Shared → Prop} {s : Shared} {K : Frag} {x C : Addr} {ox : Obj} {od : Option Obj} {name : Str}
theorem XC.has (c : XC K C) {n : String} (hn : ([.type "ValueError", .type "Exception", .type "BaseException", .type "object"] : List Value).contains (.type n) = true) : mroIn K C (.type n) = some true := by
  obtain ⟨cd, hc, ho⟩ := any_some c.mro
  have ne : cd.mro.isEmpty = false := by cases q : cd.mro with | nil => rw [q] at ho; cases ve_not ho (by simp) | cons _ _ => rfl
  unfold mroIn
  rw [hc, Option.bind_some, if_neg (by rw [ne]; decide), ve_has n hn ho]
theorem slot_ga : Slot "BaseException" "__getattribute__" "BaseException.__getattribute__" :=
  .of (owner := "BaseException") (n := "__getattribute__") (by rw [typeLookup_type, builtinLookup_eq_fast]; kernel_rfl) (by decide +kernel) (by decide +kernel) (by decide +kernel)
    (by first | exact .inl (by decide +kernel) | exact .inr (by decide +kernel)) (by rw [isSubtype_type]; kernel_rfl)
/-- x.name, by BaseException's own way -/
theorem by_own {fill expr : Bool} {tk : Tok} {Q : Value → Shared → Prop} (c : XC K C) (X : K.In s.heap) (I : InstAt s.heap x ox C od)
    (h : wpAny (model prog w) A.in1 (Builtin.«object.__getattribute__» ⟨[.ref x, .str name tk], []⟩)
      (fun fin s' => match fin with | .done (.ret v) => wpAny (model prog w) A (handedOut v) Q E s' | _ => False) (fun _ _ => False) s) :
    wpAny (model prog w) A (getAttrBy (.ref x) (.str name tk) fill expr) Q E s := by
  have L0 := I.type (M := model prog w)
  unfold getAttrBy
  refine wpAny_holding (wpAny_bind (L0.here (wpAny_bind ((looks_findIn X c.ga).here ?_))))
  dsimp only
  rw [show (onTheHeap (Value.ref C) && Value.builtin "BaseException.__getattribute__" == Value.builtin "object.__getattribute__") = false from by rw [show (Value.builtin "BaseException.__getattribute__" == Value.builtin "object.__getattribute__") = false from by decide +kernel, Bool.and_false], if_neg (by decide)]
  unfold getAttrByItsOwn
  refine wpAny_bind ((looks_hook (r := none) X (by rw [if_pos (show onTheHeap (Value.ref C) = true from rfl)]; exact c.gh)).here (wpAny_bind (wpAny_attempt (wpAny_holding ?_))))
  unfold callGetattribute
  rw [show (expr && onTheHeap (Value.builtin "BaseException.__getattribute__")) = false from Bool.and_false _, if_neg (by decide)]
  unfold boundAndCalled
  rw [slot_ga.bind]
  refine wpAny_bind (wpAny_pure ?_)
  show wpAny _ _ (call (.builtin "BaseException.__getattribute__") [.ref x, .str name tk]) _ _ _
  refine wpAny_call (codeAny_call_builtin slot_ga.plain PySem.F.entry_bexc_ga ?_)
  refine @check_slot (model prog w) _ _ s "BaseException.__getattribute__" "BaseException" "__getattribute__" (.ref x) [.str name tk] [] _ (by decide +kernel) (by decide +kernel) (L0.andThen (looks_mroIn X (c.has (by decide +kernel)))) (PySem.F.args_bexc_ga _ _) ?_
  refine wpAny_mono h (fun fin s' z => ?_) fun _ _ z => z.elim
  rcases fin with (_ | _ | _ | _) | _ <;> first | exact z | exact z.elim
theorem oga_bind {g a : Value} {tk : Tok} {Q : Fin → Shared → Prop} (X : K.In s.heap) (I : InstAt s.heap x ox C od) (hf : findObj K C od name = some (.bind g a)) (h : wpAny (model prog w) A (call g [a, .ref x, .ref C]) (fun v s' => Q (.done (.ret v)) s') E s) :
    wpAny (model prog w) A (Builtin.«object.__getattribute__» ⟨[.ref x, .str name tk], []⟩) Q E s := by
  obtain ⟨hh', gg, d, t, os⟩ := s
  have L0 := I.type (M := model prog w)
  have L1 := looks_find (M := model prog w) X I hf
  refine wpAny_bind (wpAny_pure (wpAny_bind (wpAny_pure (wpAny_bind (L0.at (wpAny_bind (L1.at ?_)))))))
  show wpAny _ _ (holding [a] (call g [a, .ref x, .ref C]) >>= ret) _ _ _
  exact wpAny_bind (wpAny_holding (wpAny_mono h (fun v s' z => wpAny_pure z) fun _ _ z => z))
theorem find_data {a g : Value} (hc : (clsIn K C).isSome = true) (ha : findIn K (.ref C) name = some (some a)) (hg : specialIn K a "__get__" = some (some g)) (ht : takesIn K a = some true) : findObj K C od name = some (.bind g a) := by
  obtain ⟨cd, hc⟩ := Option.isSome_iff_exists.mp hc
  unfold findObj
  rw [hc, Option.bind_some, ha, Option.bind_some]
  simp [hg, ht]
theorem get_class {Q : Option Value → Shared → Prop} (c : XC K C) (X : K.In s.heap) (I : InstAt s.heap x ox C od) (h : Q (some (.ref C)) { s with toks := s.toks + 1 }) : wpAny (model prog w) A (getAttr? (.ref x) "__class__") Q E s := by
  have hc : (clsIn K C).isSome = true := by obtain ⟨cd, hc, _⟩ := any_some c.hd; rw [hc]; rfl
  unfold getAttr? getAttrBy?
  refine wpAny_bind (wpAny_mkText (wpAny_bind (wpAny_attempt ?_)))
  refine by_own (s := { s with toks := s.toks + 1 }) c X I (oga_bind (s := { s with toks := s.toks + 1 }) X I (find_data hc c.ca c.cg c.ct) (wpAny_call (class_get (s := { s with toks := s.toks + 1 }) X I (c.has (by decide +kernel)) ?_)))
  exact handed_on rfl (wpAny_pure h)
theorem kitx (c : XC K C) : KitX K (.ref x) (.ref C) (fun h => ∃ ox od, InstAt h x ox C od) where
  ty := fun _ _ _ ⟨_, _, I⟩ => I.type
  it := fun _ _ X _ => by
    obtain ⟨cdD, hcD, _⟩ := any_some c.hd
    unfold clsIn at hcD
    split at hcD
    · rename_i c' d' cd' sl' ho
      intro A' Q' E' s' k q
      unfold isType loadHead
      exact wpAny_bind (wpAny_loadPart (k _ _ (X _ _ ho)) (wpAny_pure q))
    · cases hcD
  ne := fun h tp dd its n sl X htp => by
    obtain ⟨cdD, hcD, _⟩ := any_some c.hd
    refine Bool.eq_false_iff.mpr fun q => ?_
    have e : C = tp := Value.ref.inj (beq_iff_eq.mp q)
    subst e
    unfold clsIn at hcD
    split at hcD
    · rename_i c' d' cd' sl' ho
      have z := (X _ _ ho).symm.trans htp
      cases z
    · cases hcD
  ca := fun X ⟨_, _, I⟩ k => get_class c X I k
end
end Xc
/-! raise C(..) of an own class with its own __init__: the object, its base's __init__, its first attribute. -/
namespace L2
open PySem PySem.Spec PyProof.Rows
abbrev veM : List Value := [.type "ValueError", .type "Exception", .type "BaseException", .type "object"]
/-- what the text says of an own exception class -/
def xIn (K : PySem.W.Frag) (C : Addr) : Bool := match K.lookup C with
  | some ⟨.type "type", _, .cls cd, sl⟩ => (match cd.mro, sl.toList with
    | .ref C' :: bm, [_, _, _, _, some (.builtin n), _] => C' == C && n == "ValueError.__new__" && !cd.hasDel && PySem.W.tailIn K veM bm && PySem.W.nsOkIn K cd.ns
    | _, _ => false)
  | _ => false
/-- a class object as the library's rules name it -/
structure XAt (K : PySem.W.Frag) (h : Heap) (C : Addr) (cd : ClassData) : Prop where
  ex : ∃ (nm q : Str) (bs bm : List Value) (hdct : Bool) (sn : List Str) (sub : List Value) (ab : Bool) (col : Option Bool) (dd : Option Addr) (k0 k1 k2 k3 k5 : Option Value),
    h.get? C = some (excClassObj nm q C cd.ns bs bm hdct sn sub ab col dd k0 k1 k2 k3 k5 "ValueError.__new__") ∧ OwnTail h veM bm ∧ ∃ mN, h.Ns cd.ns mN
theorem xat_of {K : PySem.W.Frag} {h : Heap} {C : Addr} (X : K.In h) (q : xIn K C = true) : ∃ cd, PySem.W.clsIn K C = some cd ∧ XAt K h C cd := by
  unfold xIn at q
  split at q
  · rename_i dd cd sl ho
    split at q
    · rename_i C' bm k0 k1 k2 k3 n k5 hm hs
      simp only [Bool.and_eq_true, beq_iff_eq, Bool.not_eq_true'] at q
      obtain ⟨⟨⟨⟨rfl, rfl⟩, hdel⟩, ht⟩, hok⟩ := q
      refine ⟨cd, by unfold PySem.W.clsIn; rw [ho], ?_⟩
      obtain ⟨nm, bs, mro, ns, qn, hd, sn, sub, ab, col, del⟩ := cd
      dsimp only at hm hdel hok
      subst hm hdel
      have hsl : sl = #[k0, k1, k2, k3, some (.builtin "ValueError.__new__"), k5] := by
        obtain ⟨l⟩ := sl
        simp only at hs
        rw [hs]
      subst hsl
      exact ⟨⟨nm, qn, bs, bm, hd, sn, sub, ab, col, dd, k0, k1, k2, k3, k5, X _ _ ho, PySem.W.tail_of_in X ht, _, .of_isNs (PySem.W.isNs_of_in X hok)⟩⟩
    · cases q
  · cases q
section
variable {X : Cx} {CX : CXT} {k : Nat} {f C : Addr} {fd : FuncData} {ps : List Str} {sp : Sp} {E : XK} {x : Str} {p pos apos rpos : Pos} {e o : Expr} {es : List Expr} {ta tv : TE} {t : TA}
/-! ### a text with one int in it -/
/-! ### the base's own __init__ -/
/-! ### the first attribute -/
/-! ### raise -/
structure XMk (K : PySem.W.Frag) (C f : Addr) : Prop where
  x : xIn K C = true
  init : ((PySem.W.clsIn K C).bind fun cd => PySem.W.nsIn K cd.ns "__init__") = some (some (.ref f))
  fn : PySem.W.isFn K (.ref f) = true
  kp : PySem.W.keepIn K (.ref C) = true
end
end L2
/-! Within an except suite: an exception is held; a walk's end is raised over it. -/
namespace Xc
open PySem
theorem entry_unchain : entryFor table "proto.unchain" = some Builtin.«proto.unchain» := entryFor_of_tree (by kernel_rfl)
/-- the held one: no context of its own -/
def Held (h : Heap) (ea : Addr) : Prop := ∃ o vs, h.get? ea = some o ∧ o.data = .fields vs ∧ vs[2]? = some .none
theorem Held.at {h h' : Heap} {ea : Addr} (x : Held h ea) (k : ∀ o, h.get? ea = some o → h'.get? ea = some o) : Held h' ea := let ⟨o, vs, a, b, c⟩ := x; ⟨o, vs, k _ a, b, c⟩
section
variable {prog : Program} {w : World} {A : Around} {E : Value → Shared → Prop} {s : Shared}
theorem raiseNew_held {α : Type} {e ea : Addr} {oe : Obj} {vs : Array Value} {Q : α → Shared → Prop} (hh : A.handled = some (.ref ea)) (ne : ea ≠ e) (H : Held s.heap ea) (he : s.heap.get? e = some oe) (hd : oe.data = .fields vs) (hz : 2 < vs.size)
    (h : E (.ref e) { s with heap := s.heap.update e (Obj.mapFields (·.setIfInBounds 2 (.ref ea))) }) : wpAny (model prog w) A (raiseNew (.ref e) : Sem α) Q E s := by
  obtain ⟨o, ws, h1, h2, h3⟩ := H
  unfold raiseNew
  refine wpAny_bind (wpAny_handled ?_)
  rw [hh]
  dsimp only
  rw [if_pos (show (Value.ref ea != Value.ref e) = true from by simp [ne])]
  refine wpAny_bind (wpAny_holding (wpAny_runValue (codeAny_builtin entry_unchain ?_)))
  unfold Builtin.«proto.unchain»
  refine wpAny_bind (wpAny_field h1 h2 h3 ?_)
  rw [if_pos (by rfl)]
  refine wpAny_bind (wpAny_pure ?_)
  refine wpAny_pure ?_
  refine wpAny_bind ?_
  have := wpAny_setField (M := model prog w) (A := A) (E := E) (i := 2) (x := Value.ref ea) (Q := fun _ s' => wpAny (model prog w) A (throw (.ref e) : Sem α) Q E s') he hd hz (wpAny_throw h)
  exact this
theorem next_list_end_held {it l ea : Addr} {i : Nat} {items} {Q : Option Value → Shared → Prop} (hh : A.handled = some (.ref ea)) (H : Held s.heap ea) (nit : ea ≠ it)
    (hit : s.heap.IsListIter it l i) (hl : s.heap.IsList l items) (hx : items[i]? = none)
    (hQ : ∀ h', Heap.ExtBut it s.heap h' → Q none { s with heap := h' }) : wpAny (model prog w) A (pyNext (.ref it)) Q E s := by
  obtain ⟨o, ho, hc, hd⟩ := id hit
  obtain ⟨ol, hol, _, nl, hdl⟩ := hl
  unfold pyNext
  refine wpAny_bind (wpAny_attempt (wpAny_callSpecial?_slot (name := Str.ofString "__next__") hit.typeIs slot_listiter_next
    (wpAny_call_entry slot_listiter_next hit.typeIs entry_listiter_next ?_ (args_listiter_next _))))
  show wpAny _ _ (field (.ref it) 0 >>= _) _ _ s
  refine wpAny_bind (wpAny_field ho hd (x := .ref l) rfl ?_)
  show wpAny _ _ (if (Value.ref l == Value.none) = true then _ else _) _ _ s
  rw [if_neg (show ¬ ((Value.ref l == Value.none) = true) from Bool.false_ne_true)]
  show wpAny _ _ (field (.ref it) 1 >>= _) _ _ s
  refine wpAny_bind (wpAny_field ho hd (x := .int i 0) rfl ?_)
  show wpAny _ _ (seqItems? (.ref l) >>= _) _ _ s
  refine wpAny_bind (wpAny_seqItems hol hdl ?_)
  simp only [Int.toNat_natCast, hx]
  refine wpAny_bind (wpAny_rule (wpAny_bind (wpAny_setField ho hd (by simp) ?_)))
  show wpAny _ _ (newExc (.type "StopIteration") [] >>= _) _ _ _
  refine wpAny_bind ?_
  simp only [newExc, newTuple]
  refine wpAny_bind (wpAny_newObj_type ?_ (by size_fits))
  refine wpAny_bind (m := firstArgMember _ _) (wpAny_of_eq (a := Value.none) (by first | rfl | (simp only [firstArgMember]; rfl)) ?_)
  refine wpAny_newObj_type ?_ (by size_fits)
  have hea : ea < s.heap.objs.size := by obtain ⟨_, _, a, _⟩ := H; exact Heap.lt_size a
  generalize e1 : (s.heap.update it (Obj.mapFields fun x => x.setIfInBounds 0 Value.none)).push { cls := .type "tuple", data := .seq (List.toArray []) } = h1
  have z0 : (s.heap.update it (Obj.mapFields fun x => x.setIfInBounds 0 Value.none)).objs.size = s.heap.objs.size := (Heap.SameBut.update ..).1
  have z1 : h1.objs.size = s.heap.objs.size + 1 := by rw [← e1, Heap.size_push, z0]
  have x1 : Heap.ExtBut it s.heap h1 := by rw [← e1]; exact (Heap.SameBut.update ..).extBut.push _
  refine raiseNew_held (ea := ea) (e := h1.objs.size) (show A.in1.handled = some (.ref ea) from hh) (by rw [z1]; exact Nat.ne_of_lt (Nat.lt_succ_of_lt hea)) (H.at fun o e => ?_) (Heap.get?_push_size _ rfl) rfl (by simp; exact Nat.lt_of_lt_of_le (by decide) (Nat.le_add_right 6 _)) ?_
  · exact Heap.get?_push_of_some _ (x1 ea o nit e)
  · refine wpAny_bind (wpAny_isInstance (T := "StopIteration") (b := true) ⟨_, map_at (Heap.get?_push_size _ rfl) rfl, rfl⟩ isSubtype_stop ?_)
    refine wpAny_pure (hQ _ fun b o hb e => ?_)
    rw [Heap.get?_update_other _ _ (by rw [z1]; exact Nat.ne_of_gt (Nat.lt_succ_of_lt (Heap.lt_size e)))]
    exact Heap.get?_push_of_some _ (x1 b o hb e)
end
theorem walks_held {prog : Program} {w : World} {A : Around} {ea : Addr} (hh : A.handled = some (.ref ea)) (I ax : Addr) (hne : ax ≠ I) (nit : ea ≠ I) (items : Array Value) :
    Walks prog w A I [I, ax, ea] [I] items.size (fun i v => items[i]? = some v) (fun i h => h.IsListIter I ax i ∧ h.IsList ax items ∧ Held h ea) where
  sub := fun b hb => by simp at hb; simp [hb]
  frame := fun _ _ _ st hk => ⟨st.1.at fun o e => hk I (by simp) o e, st.2.1.at fun o e => hk ax (by simp) o e, st.2.2.at fun o e => hk ea (by simp) o e⟩
  item := fun i s Q E hi st hQ => by
    refine wpAny_pyNext_list_item st.1 st.2.1 (x := items[i]) (by simp [hi]) fun h' hit' hs' => ?_
    exact hQ _ h' s.toks (by simp [hi]) ⟨hit', st.2.1.extBut hs'.extBut hne, st.2.2.at fun o e => hs'.extBut ea o nit e⟩ fun b o hb e => hs'.extBut b o (fun h => hb (by simp [h])) e
  done := fun s Q E st hQ => next_list_end_held hh st.2.2 nit st.1 st.2.1 (by simp) fun h' he' => hQ h' s.toks fun b o hb e => he' b o (fun h => hb (by simp [h])) e
  self := fun _ _ _ _ st hQ => wpAny_pyIter_listiter st.1 hQ
end Xc
namespace L2
open PySem PySem.Spec PyProof.Rows
/-- an exception that was caught -/
def XH (a C : Addr) (od : Option Addr) : HO := .ext fun h => ∃ sl vs, Xc.Exc h a (.ref C) od sl vs ∧ vs[2]? = some .none
theorem XH.mk {P : Program} {w : World} {H : Hp} {h : Heap} {a C : Addr} {od : Option Addr} {sl : Array (Option Value)} {vs : Array Value} (e : Xc.Exc h a (.ref C) od sl vs) (h2 : vs[2]? = some .none) :
    ObjOk P w H h a (XH a C od) := ⟨⟨sl, vs, e, h2⟩, ⟨_, e.obj⟩, fun h1 h2 ⟨sl', vs', e', z⟩ k => ⟨sl', vs', ⟨k _ e'.obj, e'.big⟩, z⟩⟩
theorem XH.get {P : Program} {w : World} {H : Hp} {h : Heap} {a C : Addr} {od : Option Addr} (hok : HOk P w H h) (e : H a = some (XH a C od)) : ∃ sl vs, Xc.Exc h a (.ref C) od sl vs ∧ vs[2]? = some .none := (hok a _ e).1
section
variable {X : Cx} {K : PySem.W.Frag}
theorem ObjOk.is {P : Program} {w : World} {H : Hp} {h : Heap} {a : Addr} {o : HO} (x : ObjOk P w H h a o) : ∃ u, h.get? a = some u := by
  cases o with
  | lst xs => obtain ⟨_, _, _, _, e⟩ := x; exact ⟨_, e⟩
  | tup xs => obtain ⟨_, _, _, o, e, _⟩ := x; exact ⟨_, e⟩
  | dK kvs => obtain ⟨_, _, _, _, o, _, _, e, _⟩ := x; exact ⟨_, e⟩
  | dT kvs => obtain ⟨_, _, _, _, o, _, _, e, _⟩ := x; exact ⟨_, e⟩
  | set S n => obtain ⟨o, _, _, _, e, _⟩ := x; exact ⟨_, e⟩
  | ins C dx fs => obtain ⟨_, _, _, e, _⟩ := x; exact ⟨_, e⟩
  | own y => exact x
  | xd fs => obtain ⟨_, ⟨_, _, _, e, _⟩, _⟩ := x; exact ⟨_, e⟩
  | rng lo hi => obtain ⟨_, _, _, e⟩ := x; exact ⟨_, e⟩
  | frz ob u => obtain ⟨e, _⟩ := x; exact ⟨_, e⟩
  | tbl pl q => obtain ⟨_, e, _⟩ := x; exact ⟨_, e⟩
  | met f y => exact ⟨_, (show h.get? a = some _ from x)⟩
  | ext φ => obtain ⟨_, e, _⟩ := x; exact e
theorem walk_boolsH {pins : List (Addr × Obj)} {σ : St} {H : Hp} {s : Shared} {p ea C : Addr} {od : Option Addr} {bs : List Bool} {E : Value → Shared → Prop} {R : Nat → (Nat → Bool) → Value → Shared → Prop} (hh : X.A.handled = some (.ref ea)) (I : Inv X pins σ H s)
    (hx : H ea = some (XH ea C od)) (hq : SqL X.K H p (bs.map V.bl))
    (fin : ∀ (It : Addr) (fp wr : List Addr) (P : Nat → Value → Prop) (St : Nat → Heap → Prop) (s2 : Shared), Walks X.prog X.w X.A.in1 It fp wr bs.length P St → St 0 s2.heap → TruthOf X.prog X.w X.A.in1 P (fun i => bs.getD i false) →
      (∀ h' tk, (∀ b o, b ∉ wr → s2.heap.get? b = some o → h'.get? b = some o) → Inv X pins σ H { s2 with heap := h', toks := tk }) → R bs.length (fun i => bs.getD i false) (.ref It) s2) :
    wpAny (model X.prog X.w) X.A.in1 (pyIter (.ref p)) (fun it s2 => R bs.length (fun i => bs.getD i false) it s2) E s := by
  obtain ⟨its, rv, pl, hz⟩ := I.list hq
  obtain ⟨sl, vs, ex, h2⟩ := XH.get I.hok hx
  refine wpAny_pyIter_list pl.isList ?_
  have lp : p < s.heap.objs.size := by obtain ⟨_, o, _⟩ := pl.isList; exact Heap.lt_size o
  have le : ea < s.heap.objs.size := Heap.lt_size ex.obj
  have hlen : its.toArray.size = bs.length := by rw [List.size_toArray, ← rv.length, List.length_map]
  have W := Xc.walks_held (prog := X.prog) (w := X.w) (A := X.A.in1) (show X.A.in1.handled = some (.ref ea) from hh) s.heap.objs.size p (Nat.ne_of_lt lp) (Nat.ne_of_lt le) its.toArray
  rw [hlen] at W
  refine fin _ _ _ _ _ _ W ⟨⟨_, Heap.get?_push_size _ rfl, rfl, rfl⟩, pl.isList.push _, ⟨_, vs, Heap.get?_push_of_some _ ex.obj, rfl, h2⟩⟩ (fun i v s' Q' E' hP hQ => ?_) (fun h' tk hk => ?_)
  · obtain ⟨b, hb, rfl⟩ := bools_at (i := i) (v := v) rv (by simpa using hP)
    refine wpAny_truthy_bool ?_
    have : bs.getD i false = b := by rw [List.getD_eq_getElem?_getD, hb]; rfl
    simpa only [this] using hQ
  · refine I.kept (t' := tk) fun b o e => hk b o (fun z => ?_) (Heap.get?_push_of_some _ e)
    have : b = s.heap.objs.size := by simpa using z
    exact absurd (Heap.lt_size e) (by rw [this]; exact Nat.lt_irrefl _)
theorem callH_any {ea : Addr} (hK : X.K = K) (hh : X.A.handled = some (.ref ea)) : CallR X (.builtin "any") (fun xs H Q => ∃ (p C : Addr) (od : Option Addr) (bs : List Bool), xs = [.ref p] ∧ H ea = some (XH ea C od) ∧ SqL K H p (bs.map V.bl) ∧ Q (.bl (bs.any id)) H) := by
  subst hK
  intro pins s σ H xs us Q I r h
  obtain ⟨p, C, od, bs, rfl, hx, hq, q⟩ := h
  obtain ⟨u, rfl, ru⟩ := vals1 r
  cases ru
  refine call_any_walk (walk_boolsH hh I hx hq (R := fun n tr it s2 => ∃ It fp wr n P St tr, it = .ref It ∧ Walks X.prog X.w X.A.in1 It fp wr n P St ∧ St 0 s2.heap ∧ TruthOf X.prog X.w X.A.in1 P tr ∧
    ∀ h' tk, (∀ b o, b ∉ wr → s2.heap.get? b = some o → h'.get? b = some o) → EP X pins σ Q (.bool ((List.range n).any tr)) { s2 with heap := h', toks := tk }) ?_)
  intro It fp wr P St s2 W st tr k
  refine ⟨It, fp, wr, _, P, St, _, rfl, W, st, tr, fun h' tk hk => ?_⟩
  rw [range_any]
  exact ⟨.bl (bs.any id), H, k h' tk hk, rfl, q⟩
theorem XH.inst {P : Program} {w : World} {H : Hp} {h : Heap} {a C : Addr} {od : Option Addr} (hok : HOk P w H h) (e : H a = some (XH a C od)) (hd : ∀ d, od = some d → ∃ o, h.get? d = some o) : ∃ ox oo, PySem.W.InstAt h a ox C oo := by
  obtain ⟨sl, vs, ex, _⟩ := XH.get hok e
  cases od with
  | none => exact ⟨_, none, ex.obj, rfl, rfl, trivial⟩
  | some d =>
    obtain ⟨o, ho⟩ := hd d rfl
    exact ⟨_, some o, ex.obj, rfl, rfl, ho⟩
/-- isinstance(error, D) -/
theorem callX_isinstance (hK : X.K = K) : CallR X (.builtin "isinstance") (fun xs H Q => ∃ (a C D : Addr) (od : Option Addr) (b : Bool), xs = [.ref a, .ref D] ∧ H a = some (XH a C od) ∧ (∀ d, od = some d → ∃ u, H d = some u) ∧ Xc.XC K C ∧ PySem.W.kitOne K (.ref C) (.ref D) = some b ∧ Q (.bl b) H) := by
  subst hK
  intro pins s σ H xs us Q I r h
  obtain ⟨a, C, D, od, b, rfl, hx, hd, c, k, q⟩ := h
  obtain ⟨u1, u2, rfl, r1, r2⟩ : ∃ u1 u2, us = [u1, u2] ∧ RelV (.ref a) u1 ∧ RelV (.ref D) u2 := by
    cases r with | cons r1 r2 => cases r2 with | cons r2 r3 => cases r3; exact ⟨_, _, rfl, r1, r2⟩
  cases r1
  cases r2
  refine PySem.W.kia_one (Xc.kitx c) I.kIn (XH.inst I.hok hx fun d e => ?_) k (fun z => nomatch z) fun tk => ⟨.bl b, H, I.tok _, rfl, q⟩
  obtain ⟨u, hu⟩ := hd d e
  exact (I.hok d u hu).is
end
end L2
/-! try: f(..) except Y as n: a call's exception, caught. -/
namespace Xc
open PySem PySem.W PySem.Calls PyProof.Rows
section
variable {prog : Program} {w : World} {A : Around} {E : Value → Shared → Prop} {s : Shared} {K : Frag} {x C Y : Addr} {ox : Obj} {od : Option Obj}
theorem looks_isType {M : Model} {h : Heap} (X : K.In h) (c : XC K Y) : Looks M h (isType (.ref Y)) true := by
  obtain ⟨cdD, hcD, _⟩ := any_some c.hd
  unfold clsIn at hcD
  split at hcD
  · rename_i c' d' cd' sl' ho
    intro A' Q' E' s' k q
    unfold isType loadHead
    exact wpAny_bind (wpAny_loadPart (k _ _ (X _ _ ho)) (wpAny_pure q))
  · cases hcD
theorem matches_own {M : Model} {b : Bool} {Q : Bool → Shared → Prop} (X : K.In s.heap) (I : InstAt s.heap x ox C od) (hm : mroIn K C (.ref Y) = some b) (c : XC K Y) (t : typeIn K (.ref Y) = some (.type "type")) (h : Q b s) :
    wpAny M A (excMatches (.ref x) (.ref Y)) Q E s := by
  have L1 : Looks M s.heap (isInstance (.ref Y) (.type "tuple")) false := (looks_typeIn X t).andThen (Looks.of_pure tc_notTuple)
  have L2 : Looks M s.heap (isExcClass (.ref Y)) true := (looks_isType X c).andThen (by rw [if_pos rfl]; exact looks_mroIn X (c.has (by decide +kernel)))
  unfold excMatches
  refine wpAny_bind (L1.here ?_)
  rw [if_neg Bool.false_ne_true]
  refine wpAny_bind (wpAny_pure ?_)
  simp only [List.forIn_cons, List.forIn_nil]
  refine wpAny_bind (wpAny_bind (wpAny_bind (L2.here ?_)))
  simp only [Bool.not_true, Bool.false_eq_true, if_false]
  refine wpAny_pure (wpAny_pure ?_)
  refine wpAny_bind (I.type.here (wpAny_bind (wpAny_bind (wpAny_bind ((looks_mroIn X hm).here ?_)))))
  cases b with
  | true => rw [if_pos rfl]; exact wpAny_pure (wpAny_pure (wpAny_pure h))
  | false => rw [if_neg Bool.false_ne_true]; exact wpAny_pure (wpAny_pure (wpAny_pure h))
end
end Xc
namespace L2
open PySem PySem.Spec PyProof.Rows
section
variable {X : Cx} {K : PySem.W.Frag} {pins : List (Addr × Obj)} {σ : St} {H : Hp} {s : Shared} {ea : Addr}
/-- within an except suite -/
abbrev Cx.held (X : Cx) (ea : Addr) : Cx := { X with A := X.A.mark (some (.ref ea)), calm := false, xe := fun _ _ => False }
theorem Cx.Ok.held (ok : X.Ok) : (X.held ea).Ok :=
  ⟨ok.mod, ok.kind, ok.glob, ok.blt, ok.above, ok.inj, ok.has, ok.cab, (fun z => by cases z), ok.frames, ok.stk, ok.exf, ok.bs, ok.bsz, ok.noex, ok.exfs, ok.funs, ok.frf⟩
theorem Inv.held (I : Inv X pins σ H s) : Inv (X.held ea) pins σ H s := ⟨I.ok.held, I.os, I.bare, I.base, I.loc, I.cell, I.free, I.freeC, I.pin, I.hok, I.len⟩
theorem Inv.unheld (ok : X.Ok) (I : Inv (X.held ea) pins σ H s) : Inv X pins σ H s := ⟨ok, I.os, I.bare, I.base, I.loc, I.cell, I.free, I.freeC, I.pin, I.hok, I.len⟩
/-- an exception is followed from here on -/
theorem Inv.track {C : Addr} {od : Option Addr} {sl : Array (Option Value)} {vs : Array Value} (I : Inv X pins σ H s) (ex : Xc.Exc s.heap ea (.ref C) od sl vs) (h2 : vs[2]? = some .none) (n1 : H ea = none) (n2 : X.s₀.heap.objs.size ≤ ea) (n3 : ea ≠ X.env.locals)
    (n4 : ∀ x c, X.env.cells.lookup x = some c → c ≠ ea) (n5 : ∀ p ∈ X.pn ++ pins, p.1 ≠ ea) : Inv X pins σ (upd H ea (XH ea C od)) s := by
  refine ⟨I.ok, I.os, I.bare, ⟨I.base.keep, I.base.slot, fun b o q n hx => ?_, I.base.there, fun b xs q => upd_get (I.base.tups b xs q) n1, fun b o u q => upd_get (I.base.frzs b o u q) n1, fun b pl y q => upd_get (I.base.tbls b pl y q) n1⟩, I.loc, I.cell, by rw [upd_ne n3.symm]; exact I.free, fun y c q => by rw [upd_ne (n4 y c q)]; exact I.freeC y c q, fun p hp => ?_, fun b o q => ?_, I.len⟩
  · rw [upd_ne (fun z => by rw [z, Heap.get?_none_of_le n2] at q; cases q)]
    exact I.base.free b o q n hx
  · obtain ⟨p1, p2, p3⟩ := I.pin p hp
    exact ⟨p1, by rw [upd_ne (n5 p hp)]; exact p2, p3⟩
  · by_cases hb : b = ea
    · subst hb
      rw [upd_same] at q
      cases q
      exact XH.mk ex h2
    · rw [upd_ne hb] at q
      exact (I.hok b o q).stay (fun c v _ r => r) (fun c r => upd_get r n1) (fun c xs r => upd_get r n1) fun c ob y r => upd_get r n1
/-- the name behind the suite -/
theorem name_goes {M : Model} {A : Around} {E : Value → Shared → Prop} {i : Nat} {x : Str} {pos : Pos} {Q : Unit → Shared → Prop} (I : Inv X pins σ H s) (hN : X.N.Nodup) (hi : X.N[i]? = some x) (hx : X.env.scope.names.lookup x = some .local)
    (h : ∀ s', Inv X pins (σ.set i none) H s' → Q () s') : wpAny M A (do bindName X.env x .none; unbindBehindTheSuite X.env x pos) Q E s := by
  obtain ⟨m, hn, hl⟩ := id I.loc
  have hcls : (X.env.scope.kind == .class || (X.env.scope.kind == .module && X.env.locals != X.env.globals)) = false := by rw [I.ok.kind]; rfl
  have hiσ : i < σ.length := by rw [I.len]; exact (List.getElem?_eq_some_iff.mp hi).1
  have cne := I.cne
  obtain ⟨oL, _, _, hoL, _⟩ := id hn
  refine wpAny_nameGoes_keeps hx hn hcls fun h' v hn' hs => h _ ⟨I.ok, I.os, I.bare, ⟨fun b o e n hb hx => ?_, fun b o e n hb hx => ?_, I.base.free, fun b o e hx => ?_, I.base.tups, I.base.frzs, I.base.tbls⟩, ⟨_, hn', fun j y v' e1 e2 e3 => ?_⟩, fun y c e => ?_, I.free, I.freeC, fun p hp => ?_, fun b ob e => ?_, by simpa using I.len⟩
  · exact (hs.2 b (Nat.ne_of_lt (Nat.lt_of_lt_of_le (Heap.lt_size e) I.ok.above))).trans (I.base.keep b o e n hb hx)
  · obtain ⟨sl, e1⟩ := I.base.slot b o e n hb hx
    exact ⟨sl, (hs.2 b (Nat.ne_of_lt (Nat.lt_of_lt_of_le (Heap.lt_size e) I.ok.above))).trans e1⟩
  · obtain ⟨o', e1⟩ := I.base.there b o e hx
    exact ⟨o', (hs.2 b (Nat.ne_of_lt (Nat.lt_of_lt_of_le (Heap.lt_size e) I.ok.above))).trans e1⟩
  · by_cases hj : j = i
    · subst hj
      rw [List.getElem?_set_self hiσ] at e2
      cases e2
    · rw [List.getElem?_set_ne (Ne.symm hj)] at e2
      obtain ⟨u', r', q⟩ := hl j y v' e1 e2 e3
      refine ⟨u', r', ?_⟩
      rcases q with ⟨k, e⟩ | ⟨k, c, e, z⟩
      · refine .inl ⟨k, ?_⟩
        have : y ≠ x := fun e => hj (nodup_ix hN e1 (e ▸ hi))
        simp [this, e]
      · exact .inr ⟨k, c, e, z.sameBut hs (cne y c e)⟩
  · obtain ⟨w', z⟩ := I.cell y c e
    exact ⟨w', z.sameBut hs (cne y c e)⟩
  · obtain ⟨e, n, ne, nf, d⟩ := I.pin p hp
    exact ⟨(hs.2 p.1 ne).trans e, n, ne, nf, d⟩
  · refine (I.hok b ob e).stay (fun c w' hc q => (hs.2 c ?_).trans q) (fun _ q => q) (fun _ _ q => q) fun _ _ _ q => q
    rintro rfl
    rcases hc with rfl | hc
    · rw [I.free] at e; cases e
    · rw [I.free] at hc; cases hc
end
end L2
/-! try: a call, except Y as n: what a call raises is caught in the body that made it. -/
namespace L2
open PySem PySem.Spec PyProof.Rows
/-- an exception of a call made from this body -/
def XFrom (X : Cx) (pins : List (Addr × Obj)) (σ : St) (E : XK) : Value → Shared → Prop := fun e s' => ∃ H1 s1, Inv X pins σ H1 s1 ∧ CXe X.prog X.w X.stack H1 s1 E e s'
/-- an expression, a statement that may raise -/
abbrev TX := St → Hp → VK → XK → Prop
abbrev TSX := Ends → St → Hp → XK → Prop
def PX (X : Cx) (e : Expr) (t : TX) : Prop :=
  ∀ (pins : List (Addr × Obj)) (s : Shared) (σ : St) (H : Hp) (Q : VK) (E : XK), Inv X pins σ H s → t σ H Q E → wpAny (model X.prog X.w) X.A (eval e X.env) (EP X pins σ Q) (XFrom X pins σ E) s
def PSX (X : Cx) (st : Stmt) (t : TSX) : Prop :=
  ∀ (pins : List (Addr × Obj)) (s : Shared) (σ : St) (H : Hp) (D : Ends) (E : XK), Inv X pins σ H s → t D σ H E → wpAny (model X.prog X.w) X.A (exec st X.env) (SP X pins D) (XFrom X pins σ E) s
def tCallX (sp : Sp) (t : TA) : TX := fun σ H Q E => t σ H fun vs H1 => sp vs H1 Q E
section
variable {X : Cx} {K : PySem.W.Frag} {pins : List (Addr × Obj)} {σ : St} {H : Hp} {s : Shared} {k : Nat} {x : Str} {ps : List Str} {sp : Sp} {p pos : Pos} {e : Expr} {es : List Expr} {t : TA} {tx : TX}
theorem runX {f : Addr} {fd : FuncData} {Q : VK} {E : XK} {us : List Value} {vs : List V} (F : FnOk X.prog X.w X.K X.mg X.base (CXe X.prog X.w) k f fd ps sp) (hr : Room k X.A) (hb : Binds X.K fd ps []) (I : Inv X pins σ H s) (r : Vals vs us) (h : sp vs H Q E) :
    wpAny (model X.prog X.w) X.A (call (.ref f) us) (EP X pins σ Q) (XFrom X pins σ E) s := by
  have hl : (us ++ []).length = ps.length := by rw [List.append_nil, ← r.length]; exact F.len _ _ _ _ h
  have hb' := hb s us I.kIn hl
  rw [List.append_nil] at hb'
  refine wpAny_call (codeAny_mono (F.run X.A X.stack s H ⟨us, []⟩ us vs Q E hr I.env0 hb' r h) fun r s' hq => ?_)
  cases r with
  | error e => exact ⟨H, s, I, hq⟩
  | ok fl =>
    cases fl with
    | ret u => exact I.after hq
    | next => exact False.elim hq
    | brk => exact False.elim hq
    | cont => exact False.elim hq
theorem px_call (c : Ctr X.prog X.w X.K X.mg X.base (CXe X.prog X.w) k x ps sp) (hr : Room k X.A) (hg : Gl X x) (ha : PA X.nox (e :: es) t) (hdb : (x == ("__debug__" : Str)) = false := by decide)
    (he : starEach (e :: es) X.env = (false, eval e X.env) :: starEach es X.env := by rfl) (hpl : (backTo pos (starEach es X.env)).any (·.1) = false := by rfl) : PX X (.Call (.Name x p) (e :: es) [] pos) (tCallX sp t) := by
  intro pins s σ H Q E I h
  obtain ⟨f, fd, F, hm, hk, hb⟩ := c.ex
  refine wpAny_Call_Name_kw (ld_glob I hg hm ?_ hdb)
  refine PySem.W.callWith_K (h₀ := X.base) I.ok.mod.kin hk (wpAny_mono (ha pos pins s σ H _ (I.wish _) h) (fun us s1 ⟨vs, H1, I1, r, q⟩ => ⟨I1.kIn, ?_⟩) fun _ _ z => False.elim z) he hpl
  exact runX F hr hb I1.unwish r q
def sExprX (t : TX) : TSX := fun D σ H E => t σ H (fun _ H' => D.nx σ H') E
theorem psx_expr (he : PX X e tx) (hs : swapsWith e none pos.line X.env = pure false := by rfl) : PSX X (.Expr e pos) (sExprX tx) := by
  intro pins s σ H D E I h
  exact wpAny_Expr_any (thn (he pins s σ H _ E I h) fun v s1 ⟨x, H1, I1, r1, q1⟩ => ⟨σ, H1, I1, q1⟩) I.quiet hs
def sSetX (i : Nat) (t : TX) : TSX := fun D σ H E => t σ H (fun v H' => D.nx (σ.set i (some v)) H') E
theorem psx_set {i : Nat} {pos' : Pos} (hN : X.N.Nodup) (hi : X.N[i]? = some x) (hx : Loc X.env.scope x) (he : PX X e tx) (hs : swapsWith e (some (.Name x pos')) pos.line X.env = pure false := by rfl) (hf : X.fn x = true ∨ X.env.scope.names.lookup x = some .local := by first | exact .inl rfl | exact .inr rfl | assumption) :
    PSX X (.Assign [.Name x pos'] e pos) (sSetX i tx) := by
  intro pins s σ H D E I h
  refine wpAny_Assign_Name (thn (he pins s σ H _ E I h) fun v s1 ⟨y, H1, I1, r1, q1⟩ => ?_) hs
  exact store_ok I1 hN hi hx r1 (fun s2 I2 => ⟨_, H1, I2, q1⟩) hf
/-! ### the catch -/
theorem caught {M : Model} {A : Around} {XE : Value → Shared → Prop} {R : Unit → Shared → Prop} {E : XK} {ev : Value} {s' : Shared} (h : XFrom X pins σ E ev s') (hfr : A.frames = some X.stack) (hs : X.stack = X.env :: X.outer) (hl : X.env.frame = some X.env.locals)
    (k : ∀ (ea T : Addr) (cls : Value) (od : Option Addr) (sl : Array (Option Value)) (vs : Array Value) (H' : Hp) (s3 : Shared), ev = .ref ea → Inv X pins σ H' s3 → Xc.Exc s3.heap ea cls od sl vs → vs[1]? = some (.ref T) → T ≠ ea → vs[2]? = some .none → Xc.Tb s3.heap T .none →
      FpOk X pins H' ea → FpOk X pins H' T → X.s₀.heap.objs.size ≤ ea → E cls od H' → R () s3) :
    wpAny M A (noteFrame ev X.env) (fun _ s2 => wpAny M A (setFlight ev none) R XE s2) XE s' := by
  obtain ⟨H1, s1, I, ea, T, cls, od, sl, vs, H', rfl, ho, hb, hu, hok, n1, n2, m1, m2, ex, v1, ne, v2, tb, q⟩ := h
  have I' := I.call' (ch := []) ho hu hok hb (fun _ z => nomatch z)
  have hst : s'.heap.FunFrames X.base (X.env :: X.outer) := by rw [← hs]; exact I'.stack
  have sfree : ∀ b ∈ (X.env :: X.outer).filterMap (·.frame), H' b = none := by
    have z := I'.stkFree
    rw [hs] at z
    exact z
  have hfs : frs X.stack = (X.env :: X.outer).filterMap (·.frame) := by rw [hs]; rfl
  have new1 : s1.heap.get? ea = none := Heap.get?_none_of_le m1
  have newT : ∀ b, vs[1]? = some (.ref b) → H' b = none ∧ s1.heap.get? b = none := fun b e => by
    rw [v1] at e; cases e
    exact ⟨n2, Heap.get?_none_of_le m2⟩
  refine Xc.note_step (base := X.base) (hfr.trans (by rw [hs])) hst hl ex (.inr ⟨T, v1, ne, tb⟩) fun h1 T1 k1 k2 k3 k4 k5 k6 => ?_
  have hv1 : (vs.setIfInBounds 1 (.ref T1))[1]? = some (.ref T1) := by simp [Nat.lt_of_succ_lt ex.big]
  have hv2 : (vs.setIfInBounds 1 (.ref T1))[2]? = some .none := by rw [Array.getElem?_setIfInBounds_ne (by decide)]; exact v2
  have hTe : T1 ≠ ea := Nat.ne_of_gt (Nat.lt_of_lt_of_le (Heap.lt_size ex.obj) k4)
  refine Xc.land k5 hv1 hTe k6 fun h2 g1 g2 => ?_
  have ltT : ∀ b o, s'.heap.get? b = some o → b ≠ T1 := fun b o e => Nat.ne_of_lt (Nat.lt_of_lt_of_le (Heap.lt_size e) k4)
  have lT1 : s1.heap.objs.size ≤ T1 := by
    obtain ⟨oT, _, e, _⟩ := tb.ex
    exact Nat.le_trans m2 (Nat.le_trans (Nat.le_of_lt (Heap.lt_size e)) k4)
  have slots : ∀ b o o', s1.heap.get? b = some o → s'.heap.get? b = some o' → ∃ k, h2.get? b = some { o' with slots := k } := fun b o o' e0 e => by
    obtain ⟨k, z⟩ := k2 b o' (fun z => by rw [z, new1] at e0; cases e0) (fun z => by rw [(newT b z).2] at e0; cases e0) e
    exact ⟨k, g1 b _ (ltT b o' e) z⟩
  have hok2 : HOk X.prog X.w H' h2 := hok_kept hok fun b o u hu e => g1 b o (ltT b o e) (k1 b o (fun z => by rw [sfree b z] at hu; cases hu) (fun z => by rw [z, n1] at hu; cases hu) (fun z => by rw [(newT b z).1] at hu; cases hu) e)
  have u2 : Un (frs X.stack) [] H1 H' s1.heap h2 := by
    refine ⟨fun b o e n hb hx => ?_, fun b o e n hb hx => ?_, hu.free, fun b o e hx => ?_, hu.tups, hu.frzs, hu.tbls⟩
    · have e1 := hu.keep b o e n hb hx
      exact g1 b o (ltT b o e1) (k1 b o (by rw [← hfs]; exact hb) (fun z => by rw [z, new1] at e; cases e) (fun z => by rw [(newT b z).2] at e; cases e) e1)
    · obtain ⟨k0, e0⟩ := hu.slot b o e n hb hx
      obtain ⟨k, z⟩ := slots b o _ e e0
      exact ⟨k, z⟩
    · obtain ⟨o', e1⟩ := hu.there b o e hx
      obtain ⟨k, z⟩ := slots b o o' e e1
      exact ⟨_, z⟩
  have I2 : Inv X pins σ H' { s' with heap := h2 } := I.call' (s' := { s' with heap := h2 }) (ch := []) ho u2 hok2 hb (fun _ z => nomatch z)
  exact k ea T1 cls od sl _ H' _ rfl I2 ⟨g1 _ _ hTe.symm k5.obj, k5.big⟩ hv1 hTe hv2 g2 (I.fpOk m1 n1) (I.fpOk lT1 (I'.hok.fresh k4)) (Nat.le_trans I.sz m1) q
/-! ### the statement -/
def Ends.behind (D : Ends) (i : Nat) : Ends := ⟨fun σ H => D.nx (σ.set i none) H, D.rt, fun σ H => D.bk (σ.set i none) H, fun σ H => D.ct (σ.set i none) H⟩
def tTry (K : PySem.W.Frag) (Y : Addr) (i : Nat) (tb : TSX) (th : Addr → TS) : TS := fun D σ H => tb D σ H fun cls od H1 => ∃ C, cls = .ref C ∧ (∀ d, od = some d → ∃ u, H1 d = some u) ∧ PySem.W.mroIn K C (.ref Y) = some true ∧
  ∀ ea, H1 ea = none → th ea (D.behind i) (σ.set i (some (.ref ea))) (upd H1 ea (XH ea C od))
theorem ps_try {st b₀ : Stmt} {suite : List Stmt} {y n : Str} {Y : Addr} {i : Nat} {np hpos : Pos} {tb : TSX} {th : Addr → TS} (hK : X.K = K) (hs : X.stack = X.env :: X.outer) (hl : X.env.frame = some X.env.locals) (hst : PSX X st tb) (hg : Gl X y) (hm : X.mg y = some (.ref Y))
    (hY : Xc.XC K Y) (tY : PySem.W.typeIn K (.ref Y) = some (.type "type")) (hN : X.N.Nodup) (hi : X.N[i]? = some n) (hx : X.env.scope.names.lookup n = some .local) (hh : ∀ ea, PSs (X.held ea) (b₀ :: suite) (th ea)) (hdb : (y == ("__debug__" : Str)) = false := by decide) :
    PS X (.Try [st] [.ExceptHandler (some (.Name y np)) (some n) (b₀ :: suite) hpos] [] [] pos) (tTry K Y i tb th) := by
  subst hK
  intro pins s σ H D I h
  have hbody : wpAny (model X.prog X.w) X.A (execs [st] X.env) (SP X pins D) (XFrom X pins σ fun cls od H1 => ∃ C, cls = .ref C ∧ (∀ d, od = some d → ∃ u, H1 d = some u) ∧ PySem.W.mroIn X.K C (.ref Y) = some true ∧
      ∀ ea, H1 ea = none → th ea (D.behind i) (σ.set i (some (.ref ea))) (upd H1 ea (XH ea C od))) s := by
    refine wpAny_execs_cons (thn (hst pins s σ H D _ I h) fun f s1 q => ?_)
    cases f with
    | next => exact wpAny_execs_nil q
    | ret v => exact q
    | brk => exact q
    | cont => exact q
  refine wpAny_Try_except (wpAny_mono hbody (fun f s1 q => ?_) fun e s1 hxx => ?_)
  · cases f with
    | next => exact wpAny_execs_nil q
    | ret v => exact q
    | brk => exact q
    | cont => exact q
  refine caught hxx I.ok.frames hs hl fun ea T cls od sl vs H' s3 ee I3 ex hv1 hTe hv2 tb3 fE fT le ⟨C, ec, hd, hmro, hth⟩ => ?_
  subst ee ec
  have stay : ∀ (e : Value) (s' : Shared), (X.held ea).xe e s' → notedBy (model X.prog X.w) (X.A.mark (some (.ref ea))) X.env (cameBackBy (model X.prog X.w) X.A X.env X.xe) e s' := fun _ _ z => False.elim z
  refine wpAny_handleBy_cons (codeAny_handlers_test (ld_glob (X := X.held ea) I3.held hg hm ?_ hdb)) (by intro q; cases q)
  have inst : ∃ ox oo, PySem.W.InstAt s3.heap ea ox C oo := by
    cases od with
    | none => exact ⟨_, none, ex.obj, rfl, rfl, trivial⟩
    | some d =>
      obtain ⟨u, hu⟩ := hd d rfl
      obtain ⟨o, ho⟩ := (I3.hok d u hu).is
      exact ⟨_, some o, ex.obj, rfl, rfl, ho⟩
  obtain ⟨ox, oo, inst⟩ := inst
  refine Xc.matches_own (K := X.K) I3.kIn inst hmro hY tY ?_
  refine codeAny_handlers_suite_as (Xc.land ex hv1 hTe tb3 fun h3 g1 g2 => ?_)
  have I4 : Inv X pins σ H' { s3 with heap := h3 } := I3.turned (t' := s3.toks) (it := T) g1 fT.1 fT.2.1 fT.2.2.2.1 fT.2.2.2.2.1 fT.2.2.2.2.2
  have I5 := I4.track (C := C) (od := od) (ea := ea) (s := { s3 with heap := h3 }) ⟨g1 _ _ hTe.symm ex.obj, ex.big⟩ hv2 fE.1 le fE.2.1 fE.2.2.2.2.1 fE.2.2.2.2.2
  refine store_ok (X := X.held ea) (v := .ref ea) (I5.held (ea := ea)) hN hi (.inl hx) rfl (fun s5 I6 => ?_) (.inr hx)
  refine wpAny_mono (hh ea pins s5 _ _ _ I6 (hth ea fE.1)) (fun f s6 q => ?_) fun _ _ z => False.elim z
  cases f with
  | next =>
    obtain ⟨σ', H6, I7, q⟩ := q
    exact name_goes (I7.unheld I.ok) hN hi hx fun s7 I8 => ⟨_, _, I8, q⟩
  | ret u =>
    obtain ⟨v, σ', H6, I7, r, q⟩ := q
    exact name_goes (I7.unheld I.ok) hN hi hx fun s7 I8 => ⟨v, _, _, I8, r, q⟩
  | brk =>
    obtain ⟨σ', H6, I7, q⟩ := q
    exact name_goes (I7.unheld I.ok) hN hi hx fun s7 I8 => ⟨_, _, I8, q⟩
  | cont =>
    obtain ⟨σ', H6, I7, q⟩ := q
    exact name_goes (I7.unheld I.ok) hN hi hx fun s7 I8 => ⟨_, _, I8, q⟩
/-- a call whose exceptions are not wanted -/
theorem passE0 {P : Program} {w : World} : Passes (CXe P w) X E0 := by
  intro pins σ H s e s' I h
  obtain ⟨_, _, _, _, _, _, _, _, _, _, _, _, _, _, _, _, _, _, _, _, _, q⟩ := h
  exact False.elim q
theorem pe_callX (c : Ctr X.prog X.w X.K X.mg X.base (CXe X.prog X.w) k x ps sp) (hr : Room k X.A) (hg : Gl X x) (ha : PA X (e :: es) t) (hdb : (x == ("__debug__" : Str)) = false := by decide)
    (he : starEach (e :: es) X.env = (false, eval e X.env) :: starEach es X.env := by rfl) (hpl : (backTo pos (starEach es X.env)).any (·.1) = false := by rfl) : PE X (.Call (.Name x p) (e :: es) [] pos) (tCall sp [] E0 t) :=
  pe_callCE c hr hg ha passE0 hdb he hpl
end
end L2
/-! What a proof takes of a program's text: its defs, methods, tables. -/
namespace L2
open PySem PySem.Spec PyProof.Rows
structure FnT (K : PySem.W.Frag) (mg : Str → Option Value) (x : Str) (st : Stmt) (ps : List Str) : Prop where
  ex : ∃ f fd, Fun K x x st f fd ∧ mg x = some (.ref f) ∧ Binds K fd ps []
section
variable {P : Program} {w : World} {K : PySem.W.Frag} {mg : Str → Option Value} {base : Heap} {CX : CXT} {k : Nat} {x m qual : Str} {st : Stmt} {ps : List Str} {sp : Sp} {C : Addr}
theorem ctr_of (F : FnT K mg x st ps) (h : ∀ f fd, Fun K x x st f fd → FnOk P w K mg base CX k f fd ps sp) : Ctr P w K mg base CX k x ps sp := by
  obtain ⟨f, fd, F, e, b⟩ := F.ex
  exact ⟨⟨f, fd, h f fd F, e, F.kp, b⟩⟩
end
theorem kit_same {K : PySem.W.Frag} {t : Value} : PySem.W.kitOne K t t = some true := by
  unfold PySem.W.kitOne
  rw [if_pos (beq_self_eq_true t)]
theorem kit_int_bool {K : PySem.W.Frag} : PySem.W.kitOne K (.type "int") (.type "bool") = some false := by first | rfl | kernel_rfl
theorem b_isinstance : bootBuiltins ("isinstance" : Str) = some (.builtin "isinstance") := by decide +kernel
theorem b_sorted : bootBuiltins ("sorted" : Str) = some (.builtin "sorted") := by decide +kernel
theorem b_any : bootBuiltins ("any" : Str) = some (.builtin "any") := by decide +kernel
theorem b_all : bootBuiltins ("all" : Str) = some (.builtin "all") := by decide +kernel
theorem b_sum : bootBuiltins ("sum" : Str) = some (.builtin "sum") := by decide +kernel
theorem b_len : bootBuiltins ("len" : Str) = some (.builtin "len") := by decide +kernel
theorem b_abs : bootBuiltins ("abs" : Str) = some (.builtin "abs") := by decide +kernel
theorem b_int : bootBuiltins ("int" : Str) = some (.type "int") := by decide +kernel
theorem b_list : bootBuiltins ("list" : Str) = some (.type "list") := by decide +kernel
theorem b_str : bootBuiltins ("str" : Str) = some (.type "str") := by decide +kernel
theorem b_bool : bootBuiltins ("bool" : Str) = some (.type "bool") := by decide +kernel
end L2
/-! Contracts of own exceptions. -/
namespace L2
open PySem PySem.Spec PyProof.Rows
structure BaseInit (K : PySem.W.Frag) (Y : Addr) : Prop where
  h1 : PySem.W.specialIn K (.ref Y) "__getattribute__" = some (some (.builtin "type.__getattribute__"))
  h2 : PySem.W.readsIn K Y (.type "type") = true
  h3 : PySem.W.findCls K (.ref Y) (.type "type") "__init__" = some (.val (.builtin "ValueError.__init__"))
structure XiT (K : PySem.W.Frag) (C : Addr) (qual : Str) (st : Stmt) (ps : List Str) : Prop where
  ex : ∃ f fd, Fun K "__init__" qual st f fd ∧ XMk K C f ∧ Binds K fd ps []
section
variable {X : Cx} {K : PySem.W.Frag} {k : Nat} {C : Addr} {ps : List Str} {sp : Sp} {E : XK} {x : Str} {p pos apos rpos : Pos} {e o : Expr} {es : List Expr} {ta tv : TE} {t : TA}
end
end L2

/-! A train put together cell by cell: places by insertion, wagons that differ. -/
namespace Ins
theorem perm_ins {ps : List Nat} {k a : Nat} (h : ps.Perm (List.range k)) : (ps.take a ++ [k] ++ ps.drop a).Perm (List.range (k + 1)) := by
  rw [List.range_succ]
  have e : (ps.take a ++ [k] ++ ps.drop a).Perm (ps.take a ++ ps.drop a ++ [k]) := by
    rw [List.append_assoc, List.append_assoc]
    exact List.Perm.append_left _ List.perm_append_comm
  rw [List.take_append_drop] at e
  exact e.trans (List.Perm.append_right _ h)
def wag (sc : List Int) (far : Int) (j : Nat) : Int := (7 * (j : Int) + (sc.getD j 0) / 3 % 7 - 90) * far
theorem wag_lt (sc : List Int) {far : Int} (hf : 0 < far) {i j : Nat} (h : i < j) : wag sc far i < wag sc far j := by
  unfold wag
  refine Int.mul_lt_mul_of_pos_right ?_ hf
  have a1 := Int.emod_nonneg ((sc.getD i 0) / 3) (show (7 : Int) ≠ 0 by decide)
  have a2 := Int.emod_lt_of_pos ((sc.getD i 0) / 3) (show (0 : Int) < 7 by decide)
  have b1 := Int.emod_nonneg ((sc.getD j 0) / 3) (show (7 : Int) ≠ 0 by decide)
  omega
theorem wag_inj (sc : List Int) {far : Int} (hf : 0 < far) {i j : Nat} (h : wag sc far i = wag sc far j) : i = j := by
  rcases Nat.lt_trichotomy i j with z | z | z
  · have := wag_lt sc hf z; omega
  · exact z
  · have := wag_lt sc hf z; omega
theorem nodup_map {ps : List Nat} {f : Nat → Int} (h : ps.Nodup) (hf : ∀ i j, f i = f j → i = j) : (ps.map f).Nodup := by
  induction ps with
  | nil => exact List.nodup_nil
  | cons a r ih =>
    obtain ⟨h1, h2⟩ := List.nodup_cons.mp h
    rw [List.map_cons]
    refine List.nodup_cons.mpr ⟨fun m => ?_, ih h2⟩
    obtain ⟨b, hb, e⟩ := List.mem_map.mp m
    exact h1 (hf _ _ e ▸ hb)
theorem train_nodup (sc : List Int) {far : Int} (hf : 0 < far) {n : Nat} {ps : List Nat} (h : ps.Perm (List.range n)) : (ps.map (wag sc far)).Nodup :=
  nodup_map (h.nodup_iff.mpr List.nodup_range) fun _ _ e => wag_inj sc hf e
theorem perm_lt {n : Nat} {ps : List Nat} (h : ps.Perm (List.range n)) {x : Nat} (hx : x ∈ ps) : x < n := List.mem_range.mp (h.mem_iff.mp hx)
end Ins
/-! Small words that no row is needed for: heaps, lists, moves as pairs. -/
namespace My
open PySem L2
theorem HP {M : Model} {A : Around} {env : Env} : PassesOwn M A env (fun _ _ => False) := PassesOwn.never
theorem Same.updN {H H' : Hp} {a : Addr} {o : HO} (s : Same H H') (h : H a = none) : Same H (upd H' a o) := fun b u e => by
  rw [upd_ne (ne_of_none e h)]
  exact s b u e
end My
/-! Data read off heaps: lists of ints, lists of lists, moves; a few small tests. -/
namespace L2
open PySem PySem.Spec PyProof.Rows
open PySem.W (Dat)
def dI (xs : List Int) : Dat := .list (xs.map .int)
theorem DVs.ints {K : PySem.W.Frag} {H : Hp} : ∀ (xs : List Int), DVs K H (xs.map V.int) (xs.map .int)
  | [] => .nil
  | x :: r => .cons (.int x) (DVs.ints r)
theorem DV.ints {K : PySem.W.Frag} {H : Hp} {a : Addr} {xs : List Int} (h : SqL K H a (xs.map V.int)) : DV K H (.ref a) (dI xs) := .lst h (DVs.ints xs)
theorem ok_list {n : Nat} {ds : List Dat} (h : ∀ d ∈ ds, PySem.W.kqdOk n d = true) : PySem.W.kqdOk (n + 1) (.list ds) = true := by
  rw [PySem.W.kqdOk, List.all_eq_true]; exact h
end L2
namespace My
open PySem L2
open PySem.W (Dat)
theorem iteNT {c A B : Prop} {inst : Decidable c} (hc : ¬ c) (h : A) : if (!decide c) = true then A else B := by
  rw [decide_eq_false hc]
  exact iteT h
theorem iteNB {c A B : Prop} {inst : Decidable c} (h1 : ¬ c → A) (h2 : c → B) : if (!decide c) = true then A else B := by
  by_cases h : c
  · exact iteNS h (h2 h)
  · exact iteNT h (h1 h)
/-! ### tracks that are plain lists -/
variable {H0 H H' : Hp} {kA : Addr} {ls : List Addr} {tr : List (List Int)}
end My
namespace L2
open PySem PySem.Spec PyProof.Rows
end L2
namespace My
open PySem L2
end My
/-! Answers: own classes by isinstance; what moves and places show. -/
namespace L2
open PySem PySem.Spec PyProof.Rows
end L2
namespace My
open PySem L2
open PySem.W (Dat)
/-! ### answers as objects -/
theorem bl_yes {c : Prop} {inst : Decidable c} {H : Hp} {Q : VK} (h : c) (q : Q (.bl true) H) : Q (.bl (decide c)) H := by rw [decide_eq_true h]; exact q
/-! ### falling places -/
/-! ### fewest tracks -/
/-! ### given orders -/
end My
/-! The law's call where defs of the text make lambdas: the tables of their code objects are tracked. -/
namespace L2
open PySem PySem.Spec PyProof.Rows

/-- which addresses are tables, with the place and the name of the one lambda that is made there -/
abbrev Tabs := Addr → Option (Pos × Str)
def tabsOf (K : PySem.W.Frag) (L : List (Str × Pos × Str)) : Tabs := fun b => L.findSome? fun e => match PySem.W.tabIn K e.1 with
  | some p => if b = p.2 then some e.2 else none
  | none => none
theorem tabs_mem {K : PySem.W.Frag} {L : List (Str × Pos × Str)} {b : Addr} {p : Pos × Str} (h : tabsOf K L b = some p) : ∃ e ∈ L, ∃ c, PySem.W.tabIn K e.1 = some (c, b) := by
  unfold tabsOf at h
  obtain ⟨e, he, q⟩ := List.exists_of_findSome?_eq_some h
  refine ⟨e, he, ?_⟩
  cases z : PySem.W.tabIn K e.1 with
  | none => rw [z] at q; cases q
  | some r =>
    rw [z] at q
    dsimp only at q
    split at q
    · rename_i hb
      exact ⟨r.1, by rw [hb]⟩
    · cases q
/-- a law's wish of the abstract heap -/
def TabsIn (K : PySem.W.Frag) (L : List (Str × Pos × Str)) (H : Hp) : Prop := ∀ b p, tabsOf K L b = some p → H b = some (.tbl p.1 p.2)

theorem law_callT {P : Program} {w : World} {K : PySem.W.Frag} {mg mb : Str → Option Value} {CX : CXT} {k : Nat} {fa a : Addr} {fd : FuncData} {x : Str} {sp : Sp} {s₁ : Shared} {vs : List Value} {ns : List Int} (τ : Tabs)
    (KX : K.In s₁.heap) (hns : s₁.heap.Ns mainGlobals mg) (hb : s₁.heap.Ns builtinsNs mb) (hbb : ∀ x : Str, x ≠ "__name__" → mb x = bootBuiltins x) (hlim : s₁.heap.NoLimit) (hg : s₁.gens = #[])
    (hbm : ∃ bm ob, mg "__builtins__" = some (.ref bm) ∧ bm ≠ builtinsNs ∧ s₁.heap.get? bm = some ob ∧ ob.cls = .type "module" ∧ ob.dict = some builtinsNs ∧ ob.data = .plain)
    (hτ : ∀ b p, τ b = some p → ∃ c, PySem.W.CodeHd s₁.heap c b ∧ s₁.heap.get? b = some (PySem.W.tabObj #[])) (hτK : ∀ b p, τ b = some p → K.lookup b = none)
    (ha : s₁.heap.get? a = some { cls := .type "list", data := .seq vs.toArray }) (hi : IntsAre vs ns) (hl : ns.length ≤ sizeLine) (hr : Room k callerA)
    (F : ∀ base : Heap, K.In base → base.Ns mainGlobals mg → FnOk P w K mg base CX k fa fd [x] sp) (hbind : ∀ (s : Shared) (u : Value), BindsTo s fd ⟨[u], []⟩ [(x, u)])
    (hsp : ∀ H : Hp, (∀ b p, τ b = some p → H b = some (.tbl p.1 p.2)) → SqL K H a (ns.map V.int) → sp [.ref a] H (fun v _ => v = .bl true) fun _ _ _ => False)
    (hCX : ∀ H e s', CX [] H s₁ (fun _ _ _ => False) e s' → False) :
    codeAny (model P w) callerA (.call (.ref fa) ⟨[.ref a], []⟩) (fun r s' => r = .ok (.ret (.bool true)) ∧ OldK s₁.heap s'.heap ∧ s'.os = s₁.os ∧ AllBare s'.gens) s₁ := by
  have rv := vals_ints hi
  have lenV := hi.length
  have hta : ∀ p, τ a ≠ some p := fun p z => by
    obtain ⟨c, _, e⟩ := hτ a p z
    rw [ha] at e; cases e
  have core : ∀ H : Hp, (∀ b p, τ b = some p → H b = some (.tbl p.1 p.2)) → SqL K H a (ns.map V.int) → HOk P w H s₁.heap →
      (∀ b u, H b = some u → (b = a ∧ (∃ o xs, u = .frz o (.lst xs)) ∧ K.lookup a = none) ∨ ∃ p, τ b = some p ∧ u = .tbl p.1 p.2) →
      codeAny (model P w) callerA (.call (.ref fa) ⟨[.ref a], []⟩) (fun r s' => r = .ok (.ret (.bool true)) ∧ OldK s₁.heap s'.heap ∧ s'.os = s₁.os ∧ AllBare s'.gens) s₁ := by
    intro H hT hS hok hA
    have obj_of : ∀ {b : Addr} {o : Obj} {u : HO}, s₁.heap.get? b = some o → H b = some u → (∃ xs n, o.data = .seq xs n) ∨ ∃ ps, o.data = .fields ps ∧ o.cls = .none := fun {b o u} e q => by
      rcases hA b u q with ⟨rfl, _⟩ | ⟨p, hp, _⟩
      · rw [ha] at e; cases e; exact .inl ⟨_, _, rfl⟩
      · obtain ⟨c, _, e'⟩ := hτ b p hp
        rw [e'] at e; cases e; exact .inr ⟨_, rfl, rfl⟩
    have base_of : ∀ {b : Addr} {o : Obj}, s₁.heap.get? b = some o → H b = none → (hidT s₁.heap H).get? b = some o := fun e n => hidT_get e n
    have noA : ∀ {b : Addr} {o : Obj} {es : Array DictEntry} {ep : Nat}, s₁.heap.get? b = some o → o.data = .dict es ep → H b = none := fun {b o es ep} e d => by
      cases q : H b with
      | none => rfl
      | some u =>
        rcases obj_of e q with ⟨xs, n, z⟩ | ⟨ps, z, _⟩
        · rw [d] at z; cases z
        · rw [d] at z; cases z
    have nsK : ∀ {b : Addr} {m : Str → Option Value}, s₁.heap.Ns b m → (hidT s₁.heap H).Ns b m := fun {b m} ⟨o, es, ep, e, d, r⟩ => ⟨o, es, ep, base_of e (noA e d), d, r⟩
    have hKb : K.In (hidT s₁.heap H) := fun b o e => base_of (KX b o e) (by
      cases q : H b with
      | none => rfl
      | some u =>
        rcases hA b u q with ⟨rfl, _, z⟩ | ⟨p, hp, _⟩
        · rw [z] at e; cases e
        · rw [hτK b p hp] at e; cases e)
    obtain ⟨bm, ob, m1, m2, m3, m4, m5, m6⟩ := hbm
    have hbmH : H bm = none := by
      cases q : H bm with
      | none => rfl
      | some u =>
        rcases obj_of m3 q with ⟨xs, n, z⟩ | ⟨ps, z, _⟩
        · rw [m6] at z; cases z
        · rw [m6] at z; cases z
    have hM : Mod K mg (hidT s₁.heap H) := ⟨hKb, nsK hns, ⟨mb, nsK hb, hbb⟩, let ⟨mc, h1, h2⟩ := hlim; ⟨mc, nsK h1, h2⟩, ⟨bm, ob, m1, m2, base_of m3 hbmH, m4, m5, m6⟩⟩
    have e0 : Env0 P w K mg (hidT s₁.heap H) callerA [] s₁ H := ⟨rfl, hM, fun b o e => of_hidT e, Nat.le_of_eq (hidT_size _ _), trivial, fun b hb => absurd (show b ∈ ([] : List Addr) from hb) (by simp), hok, .of_eq hg⟩
    refine codeAny_mono ((F _ hKb (nsK hns)).run callerA [] s₁ H ⟨[.ref a], []⟩ [.ref a] [.ref a] _ _ hr e0 (hbind s₁ (.ref a)) (.cons rfl .nil) (hsp H hT hS)) fun r s' h => ?_
    cases r with
    | error e => exact (hCX H e s' h).elim
    | ok fl =>
      cases fl with
      | next => exact False.elim h
      | brk => exact False.elim h
      | cont => exact False.elim h
      | ret u =>
        obtain ⟨v, H', os, bare, un, hok', r', q⟩ := h
        have q' : v = .bl true := q
        subst q'
        obtain rfl : u = Value.bool true := r'
        have was : ∀ b o, s₁.heap.get? b = some o → asItWas s₁.heap s'.heap b o := fun b o e => by
          cases q : H b with
          | none => exact .inl (un.keep b o e q (by intro z; exact absurd (show b ∈ ([] : List Addr) from z) (by simp)) (by simp))
          | some u =>
            rcases hA b u q with ⟨rfl, ⟨ob', xs, rfl⟩, _⟩ | ⟨p, hp, rfl⟩
            · have z2 := un.frzs b ob' _ q
              obtain ⟨e1, _⟩ := hok b _ q
              obtain ⟨e2, _⟩ := hok' b _ z2
              rw [e] at e1; cases e1
              exact .inl e2
            · obtain ⟨c, C, e'⟩ := hτ b p hp
              rw [e'] at e; cases e
              obtain ⟨ps, z, _⟩ := hok' b _ (un.tbls b _ _ q)
              refine .inr (.inl ⟨(C.tab e').isCodeTable, rfl, #[], ps, rfl, ?_⟩)
              rw [z]
              simp
        exact ⟨rfl, ⟨was, fun b o e => un.there b o e (by simp)⟩, os, bare⟩
  have tok : ∀ (H : Hp) b p, τ b = some p → ObjOk P w H s₁.heap b (.tbl p.1 p.2) := fun H b p hp => by
    obtain ⟨c, _, e⟩ := hτ b p hp
    refine ⟨#[], e, trivial, fun cv z => ?_⟩
    simp [codeAmong] at z
  cases hk : K.lookup a with
  | some o =>
    have e := KX a o hk
    rw [ha] at e
    cases e
    refine core (fun b => (τ b).map fun p => .tbl p.1 p.2) (fun b p hp => by simp [hp]) (.inr ⟨_, vs.toArray, _, hk, rfl, rfl, rfl, by rw [List.size_toArray, lenV]; exact hl, by simpa using rv⟩) (fun b u z => ?_) (fun b u z => ?_)
    · obtain ⟨p, hp, rfl⟩ := Option.map_eq_some_iff.mp z
      exact tok _ b p hp
    · obtain ⟨p, hp, rfl⟩ := Option.map_eq_some_iff.mp z
      exact .inr ⟨p, hp, rfl⟩
  | none =>
    refine core (fun b => if b = a then some (.frz { cls := .type "list", data := .seq vs.toArray } (.lst (ns.map V.int))) else (τ b).map fun p => .tbl p.1 p.2) (fun b p hp => ?_) (.inl (.inr ⟨{ cls := .type "list", data := .seq vs.toArray }, if_pos rfl⟩)) (fun b u z => ?_) (fun b u z => ?_)
    · have hb : b ≠ a := fun q => hta p (q ▸ hp)
      show (if b = a then _ else _) = _
      rw [if_neg hb, hp]; rfl
    · by_cases hb : b = a
      · have z' := (if_pos hb).symm.trans z
        cases z'
        subst hb
        exact ⟨ha, by rw [List.length_map]; exact hl, vs, _, rv, ha⟩
      · have z' := (if_neg hb).symm.trans z
        obtain ⟨p, hp, rfl⟩ := Option.map_eq_some_iff.mp z'
        exact tok _ b p hp
    · by_cases hb : b = a
      · have z' := (if_pos hb).symm.trans z
        cases z'
        exact .inl ⟨hb, ⟨_, _, rfl⟩, hk⟩
      · have z' := (if_neg hb).symm.trans z
        obtain ⟨p, hp, rfl⟩ := Option.map_eq_some_iff.mp z'
        exact .inr ⟨p, hp, rfl⟩

theorem walk_ofT {l : PySem.W.OpenLaw} {n k : Nat} {q : Program} {loose : List Str} {XP : (Str → Option Value) → Heap → Prop} {YP : World → Heap → Prop} {d : DefRec} {K : Params → PySem.W.Frag} {CX : World → CXT} {sp : World → Sp} {x : Str} (L : List (Str × Pos × Str))
    (hn : l.most = some n) (hn2 : n ≤ sizeLine) (hdf : d.params.defaults = []) (hr : Room k callerA)
    (hY : ∀ (w : World) (h : Heap), YP w h → (K w.params).In h)
    (hL : ∀ e ∈ L, ∃ d', (recsOf q).find? (fun r => r.name == e.1) = some d') (hK : ∀ (w : World), ∀ e ∈ L, ∀ c P, PySem.W.tabIn (K w.params) e.1 = some (c, P) → (K w.params).lookup P = none)
    (F : ∀ (w : World) (mg : Str → Option Value) (fa : Addr) (h : Heap), (K w.params).In h → h.Ns mainGlobals mg → mg d.name = some (.ref fa) →
      ∃ fd : FuncData, (∀ (s : Shared) (u : Value), BindsTo s fd ⟨[u], []⟩ [(x, u)]) ∧
        ∀ base : Heap, (K w.params).In base → base.Ns mainGlobals mg → FnOk l.prog w (K w.params) mg base (CX w) k fa fd [x] (sp w))
    (hsp : ∀ (w : World) (H : Hp) (a : Addr) (ns : List Int), ns.length ≤ n → TabsIn (K w.params) L H → SqL (K w.params) H a (ns.map V.int) → sp w [.ref a] H (fun v _ => v = .bl true) fun _ _ _ => False)
    (hCX : ∀ (w : World) (H : Hp) (s : Shared) (e : Value) (s' : Shared), CX w [] H s (fun _ _ _ => False) e s' → False) :
    PySem.W.WalkO q loose XP YP l.row.toRowW d [] (fun f vs => PySem.call f vs) := by
  refine Att.attach_call hn hdf fun w s₀ s₁ mg mb fa o pm cd doc a vs ns G Y ho hd hcd hmg hobj hints hlen hg => ?_
  have KX := hY w _ Y
  obtain ⟨fd, hb, hF⟩ := F w mg fa _ KX G.T.g hmg
  refine law_callT (tabsOf (K w.params) L) KX G.T.g G.T.b G.T.builtins G.T.nolimit hg G.T.bmain (fun b p hp => ?_) (fun b p hp => ?_) hobj hints (Nat.le_trans hlen hn2) hr hF hb (fun H hO hS => hsp w H a ns hlen hO hS) fun H e s' => hCX w H s₁ e s'
  · obtain ⟨e, he, c, z⟩ := tabs_mem hp
    obtain ⟨d', hd'⟩ := hL e he
    obtain ⟨h1, h2⟩ := PySem.W.tab_of G.T KX hd' z
    exact ⟨c, h1, h2⟩
  · obtain ⟨e, he, c, z⟩ := tabs_mem hp
    exact hK w e he c b z
end L2
/-! Exceptions that pass a comprehension: noted there, then in flight in the same frame. -/
namespace Xc
open PySem
section
variable {M : Model} {A : Around} {E : Value → Shared → Prop} {s : Shared}
/-- noteFrame where a note T stands: in flight here already, or another's -/
theorem note_any {base : Heap} {env : Env} {outer : List Env} {L e T : Addr} {cls fl : Value} {od : Option Addr} {sl : Array (Option Value)} {vs : Array Value} {Q : Unit → Shared → Prop}
    (hfr : A.frames = some (env :: outer)) (hl : s.heap.FunFrames base (env :: outer)) (hf : env.frame = some L) (hx : Exc s.heap e cls od sl vs)
    (h1 : vs[1]? = some (.ref T)) (hTe : T ≠ e) (ht : Tb s.heap T fl) (h0 : fl = rawInt L → Q () s)
    (h : ∀ h' T', (∀ b o, b ∉ (env :: outer).filterMap (·.frame) → b ≠ e → b ≠ T → s.heap.get? b = some o → h'.get? b = some o) →
      (∀ b o, b ≠ e → b ≠ T → s.heap.get? b = some o → ∃ k, h'.get? b = some { o with slots := k }) →
      s.heap.objs.size ≤ T' → Exc h' e cls od sl (vs.setIfInBounds 1 (.ref T')) → Tb h' T' (rawInt L) → Q () { s with heap := h' }) :
    wpAny M A (noteFrame (.ref e) env) Q E s := by
  obtain ⟨oT, ts, hT, hdT, h3⟩ := ht.ex
  unfold noteFrame
  simp only [hf]
  refine wpAny_bind (wpAny_field hx.obj rfl h1 ?_)
  rw [if_pos (show (Value.ref T != Value.none) = true from by simp)]
  refine wpAny_bind (wpAny_field hT hdT h3 ?_)
  by_cases hq : fl = rawInt L
  · rw [if_pos (show (fl == rawInt L) = true from by rw [hq]; exact beq_self_eq_true _)]
    exact wpAny_pure (h0 hq)
  · rw [if_neg (show ¬ ((fl == rawInt L) = true) from fun z => hq (eq_of_beq z))]
    refine wpAny_bind (wpAny_setField hT hdT (Array.getElem?_eq_some_iff.mp h3).1 ?_)
    have oth : ∀ b, b ≠ T → (s.heap.update T (Obj.mapFields (·.setIfInBounds 3 Value.none))).get? b = s.heap.get? b := fun b hb => Heap.get?_update_other _ _ (Ne.symm hb)
    refine entry_new (base := base) (had := true) hfr (hl.of_keeps fun b o hb hn => ?_) hf ⟨(oth e (Ne.symm hTe)).trans hx.obj, hx.big⟩ fun h' T' k1 k2 k3 k4 k5 => h h' T' (fun b o b1 b2 b3 q => ?_) (fun b o b2 b3 q => ?_) (by simpa using k3) k4 k5
    · have bT : b ≠ T := fun z => by
        rw [z, hT] at hb
        cases hb
        exact hn ts hdT
      exact ⟨o, (oth b bT).trans hb, rfl⟩
    · exact k1 b o b1 b2 ((oth b b3).trans q)
    · exact k2 b o b2 ((oth b b3).trans q)
/-- setFlight e fr -/
theorem flight {e T : Addr} {fr : Option Addr} {cls : Value} {od : Option Addr} {sl : Array (Option Value)} {vs : Array Value} {fl : Value} {Q : Unit → Shared → Prop} (hx : Exc s.heap e cls od sl vs) (h1 : vs[1]? = some (.ref T)) (ht : Tb s.heap T fl)
    (h : ∀ h', (∀ b o, b ≠ T → s.heap.get? b = some o → h'.get? b = some o) → (∃ fl', Tb h' T fl') → Q () { s with heap := h' }) : wpAny M A (setFlight (.ref e) fr) Q E s := by
  obtain ⟨oT, ts, hT, hdT, h3⟩ := ht.ex
  have hz : 3 < ts.size := (Array.getElem?_eq_some_iff.mp h3).1
  unfold setFlight
  refine wpAny_bind (wpAny_field hx.obj rfl h1 ?_)
  rw [if_pos (show (Value.ref T != Value.none) = true from by simp)]
  refine wpAny_setField hT hdT hz (h _ (fun b o hb q => (Heap.get?_update_other _ _ (Ne.symm hb)).trans q) ⟨fr.elim .none fun f => rawInt f, ⟨⟨_, _, map_at hT hdT, rfl, ?_⟩⟩⟩)
  rw [Array.getElem?_setIfInBounds_self_of_lt hz]
end
end Xc
namespace L2
open PySem PySem.Spec PyProof.Rows
/-- one that is noted already leaves this body -/
def RaisesF (X : Cx) (E : XK) : Prop := ∀ (pins : List (Addr × Obj)) (σ : St) (H : Hp) (s : Shared) (ea T : Addr) (cls fl : Value) (od : Option Addr) (sl : Array (Option Value)) (vs : Array Value), Inv X pins σ H s → Xc.Exc s.heap ea cls od sl vs →
  vs[1]? = some (.ref T) → T ≠ ea → vs[2]? = some .none → Xc.Tb s.heap T fl → H ea = none → H T = none → X.s₀.heap.objs.size ≤ ea → X.s₀.heap.objs.size ≤ T → E cls od H → X.xe (.ref ea) s
section
variable {P : Program} {w : World} {K : PySem.W.Frag} {mg : Str → Option Value} {base : Heap} {N : List Str} {qual : Str} {scope : Scope} {f : Addr} {cd : Value} {A : Around} {outer : List Env} {s : Shared} {H : Hp} {E : XK}
theorem raisesF : RaisesF (cxOf (CXe P w) P w K mg base N qual scope f cd A outer s H E) E := by
  intro pins σ H' s' ea T cls fl od sl vs I ex hv1 hTe hv2 tb n1 n2 m1 m2 q
  have hst : s'.heap.FunFrames base (envOfC qual scope s.heap.objs.size f cd :: outer) := I.stack
  have hfr : (A.deeper (envOfC qual scope s.heap.objs.size f cd)).frames = some (envOfC qual scope s.heap.objs.size f cd :: outer) := I.ok.frames
  have sfree : ∀ b ∈ (envOfC qual scope s.heap.objs.size f cd :: outer).filterMap (·.frame), H' b = none := I.stkFree
  have sub : ∀ b ∈ (envOfC qual scope s.heap.objs.size f cd :: outer).filterMap (·.frame), b ∈ s.heap.objs.size :: frs outer := I.stkSub
  have bs := I.base
  have m1 : s.heap.objs.size ≤ ea := m1
  have m2 : s.heap.objs.size ≤ T := m2
  have ne1 : ∀ b o, s.heap.get? b = some o → b ≠ ea := fun b o e z => by rw [z, Heap.get?_none_of_le m1] at e; cases e
  have ne2 : ∀ b o, s.heap.get? b = some o → b ≠ T := fun b o e z => by rw [z, Heap.get?_none_of_le m2] at e; cases e
  show wpAny (model P w) (A.deeper (envOfC qual scope s.heap.objs.size f cd)) (leaving (envOfC qual scope s.heap.objs.size f cd) (.ref ea)) (fun _ s'' => CXe P w outer H s E (.ref ea) s'') (fun e' s'' => CXe P w outer H s E e' s'') s'
  unfold leaving
  -- behind the note
  have fin : ∀ (h1 : Heap) (T1 : Addr) (vs1 : Array Value) (fl1 : Value), (∀ b o, b ∉ (envOfC qual scope s.heap.objs.size f cd :: outer).filterMap (·.frame) → b ≠ ea → b ≠ T → s'.heap.get? b = some o → h1.get? b = some o) →
      (∀ b o, b ≠ ea → b ≠ T → s'.heap.get? b = some o → ∃ k, h1.get? b = some { o with slots := k }) → s.heap.objs.size ≤ T1 → H' T1 = none → Xc.Exc h1 ea cls od sl vs1 → vs1[1]? = some (.ref T1) → vs1[2]? = some .none → T1 ≠ ea → Xc.Tb h1 T1 fl1 →
      wpAny (model P w) (A.deeper (envOfC qual scope s.heap.objs.size f cd)) (setFlight (.ref ea) none) (fun _ s'' => CXe P w outer H s E (.ref ea) s'') (fun e' s'' => CXe P w outer H s E e' s'') { s' with heap := h1 } := by
    intro h1 T1 vs1 fl1 k1 k2 k4 kf k5 hv1' hv2' hTe' k6
    refine Xc.land k5 hv1' hTe' k6 fun h2 g1 g2 => ?_
    have ne3 : ∀ b o, s.heap.get? b = some o → b ≠ T1 := fun b o e z => by rw [z, Heap.get?_none_of_le k4] at e; cases e
    have kept : ∀ b o, s.heap.get? b = some o → s'.heap.get? b = some o → b ∉ frs outer → h2.get? b = some o := fun b o e0 e hb => by
      refine g1 b o (ne3 b o e0) (k1 b o (fun z => ?_) (ne1 b o e0) (ne2 b o e0) e)
      rcases List.mem_cons.mp (sub b z) with y | y
      · rw [y] at e0
        exact absurd (Heap.lt_size e0) (Nat.lt_irrefl _)
      · exact hb y
    refine ⟨ea, T1, cls, od, sl, _, H', rfl, I.os, I.bare, ⟨fun b o e n hb hx => ?_, fun b o e n hb hx => ?_, fun b o e n hx => bs.free b o e n (by show b ∉ ([] : List Addr); simp), fun b o e hx => ?_, bs.tups, bs.frzs, bs.tbls⟩, ?_, n1, kf, m1, k4, ⟨g1 _ _ hTe'.symm k5.obj, k5.big⟩, hv1', hTe', hv2', g2, q⟩
    · exact kept b o e (bs.keep b o e n hb (by show b ∉ ([] : List Addr); simp)) hb
    · obtain ⟨k0, e0⟩ := bs.slot b o e n hb (by show b ∉ ([] : List Addr); simp)
      obtain ⟨k, z⟩ := k2 b _ (ne1 b o e) (ne2 b o e) e0
      exact ⟨k, g1 b _ (ne3 b o e) z⟩
    · obtain ⟨o', e1⟩ := bs.there b o e (by show b ∉ ([] : List Addr); simp)
      obtain ⟨k, z⟩ := k2 b o' (ne1 b o e) (ne2 b o e) e1
      exact ⟨_, g1 b _ (ne3 b o e) z⟩
    · refine hok_kept I.hok fun b o u hu e => g1 b o (fun z => by rw [z, kf] at hu; cases hu) (k1 b o (fun z => by rw [sfree b z] at hu; cases hu) (fun z => by rw [z, n1] at hu; cases hu) (fun z => by rw [z, n2] at hu; cases hu) e)
  refine wpAny_bind (Xc.note_any hfr hst rfl ex hv1 hTe tb (fun hq => ?_) fun h1 T1 k1 k2 k4 k5 k6 => ?_)
  · exact fin s'.heap T vs fl (fun b o _ _ _ e => e) (fun b o _ _ e => ⟨o.slots, e⟩) m2 n2 ex hv1 hv2 hTe tb
  · refine fin h1 T1 _ _ k1 k2 (Nat.le_trans I.sz k4) (I.hok.fresh k4) k5 (by simp [Nat.lt_of_succ_lt ex.big]) (by rw [Array.getElem?_setIfInBounds_ne (by decide)]; exact hv2) (Nat.ne_of_gt (Nat.lt_of_lt_of_le (Heap.lt_size ex.obj) k4)) k6
end
section
variable {X : Cx} {K : PySem.W.Frag} {pins : List (Addr × Obj)} {σ : St} {H : Hp} {s : Shared}
/-- a call's exception, noted in this frame -/
theorem noted {M : Model} {A : Around} {XE : Value → Shared → Prop} {R : Unit → Shared → Prop} {E : XK} {ev : Value} {s1 s' : Shared} {H1 : Hp} (I : Inv X pins σ H1 s1) (hx : CXe X.prog X.w X.stack H1 s1 E ev s') (hfr : A.frames = some X.stack) (hs : X.stack = X.env :: X.outer) (hl : X.env.frame = some X.env.locals)
    (k : ∀ (ea T : Addr) (cls fl : Value) (od : Option Addr) (sl : Array (Option Value)) (vs : Array Value) (H' : Hp) (s3 : Shared), ev = .ref ea → Inv X pins σ H' s3 → Xc.Exc s3.heap ea cls od sl vs → vs[1]? = some (.ref T) → T ≠ ea → vs[2]? = some .none → Xc.Tb s3.heap T fl →
      H' ea = none → H' T = none → s1.heap.objs.size ≤ ea → s1.heap.objs.size ≤ T → E cls od H' → (∀ b o, s1.heap.get? b = some o → H1 b = none → b ∉ frs X.stack → s3.heap.get? b = some o ∧ H' b = none) → R () s3) :
    wpAny M A (noteFrame ev X.env) R XE s' := by
  obtain ⟨ea, T, cls, od, sl, vs, H', rfl, ho, hb, hu, hok, n1, n2, m1, m2, ex, v1, ne, v2, tb, q⟩ := hx
  have I' := I.call' (ch := []) ho hu hok hb (fun _ z => nomatch z)
  have hst : s'.heap.FunFrames X.base (X.env :: X.outer) := by rw [← hs]; exact I'.stack
  have sfree : ∀ b ∈ (X.env :: X.outer).filterMap (·.frame), H' b = none := by
    have z := I'.stkFree
    rw [hs] at z
    exact z
  have hfs : frs X.stack = (X.env :: X.outer).filterMap (·.frame) := by rw [hs]; rfl
  have new1 : ∀ b o, s1.heap.get? b = some o → b ≠ ea := fun b o e z => by rw [z, Heap.get?_none_of_le m1] at e; cases e
  have newT : ∀ b o, s1.heap.get? b = some o → b ≠ T := fun b o e z => by rw [z, Heap.get?_none_of_le m2] at e; cases e
  have fin : ∀ (h1 : Heap) (T1 : Addr) (vs1 : Array Value) (fl1 : Value), (∀ b o, b ∉ (X.env :: X.outer).filterMap (·.frame) → b ≠ ea → b ≠ T → s'.heap.get? b = some o → h1.get? b = some o) →
      (∀ b o, b ≠ ea → b ≠ T → s'.heap.get? b = some o → ∃ k, h1.get? b = some { o with slots := k }) → s1.heap.objs.size ≤ T1 → H' T1 = none → Xc.Exc h1 ea cls od sl vs1 → vs1[1]? = some (.ref T1) → vs1[2]? = some .none → T1 ≠ ea → Xc.Tb h1 T1 fl1 → R () { s' with heap := h1 } := by
    intro h1 T1 vs1 fl1 k1 k2 k4 kf k5 hv1' hv2' hTe' k6
    have hok2 : HOk X.prog X.w H' h1 := hok_kept hok fun b o u hu e => k1 b o (fun z => by rw [sfree b z] at hu; cases hu) (fun z => by rw [z, n1] at hu; cases hu) (fun z => by rw [z, n2] at hu; cases hu) e
    have u2 : Un (frs X.stack) [] H1 H' s1.heap h1 := by
      refine ⟨fun b o e n hb hx => ?_, fun b o e n hb hx => ?_, hu.free, fun b o e hx => ?_, hu.tups, hu.frzs, hu.tbls⟩
      · exact k1 b o (by rw [← hfs]; exact hb) (new1 b o e) (newT b o e) (hu.keep b o e n hb hx)
      · obtain ⟨k0, e0⟩ := hu.slot b o e n hb hx
        obtain ⟨k, z⟩ := k2 b _ (new1 b o e) (newT b o e) e0
        exact ⟨k, z⟩
      · obtain ⟨o', e1⟩ := hu.there b o e hx
        obtain ⟨k, z⟩ := k2 b o' (new1 b o e) (newT b o e) e1
        exact ⟨_, z⟩
    have I2 : Inv X pins σ H' { s' with heap := h1 } := I.call' (s' := { s' with heap := h1 }) (ch := []) ho u2 hok2 hb (fun _ z => nomatch z)
    exact k ea T1 cls fl1 od sl vs1 H' _ rfl I2 k5 hv1' hTe' hv2' k6 n1 kf m1 k4 q fun b o e n hb => ⟨u2.keep b o e n hb (by simp), u2.free b o e n (by simp)⟩
  refine Xc.note_any (base := X.base) (hfr.trans (by rw [hs])) hst hl ex v1 ne tb (fun hq => ?_) fun h1 T1 k1 k2 k4 k5 k6 => ?_
  · exact fin s'.heap T vs .none (fun b o _ _ _ e => e) (fun b o _ _ e => ⟨o.slots, e⟩) m2 n2 ex v1 v2 ne tb
  · refine fin h1 T1 _ _ k1 k2 ?_ (I'.hok.fresh k4) k5 (by simp [Nat.lt_of_succ_lt ex.big]) (by rw [Array.getElem?_setIfInBounds_ne (by decide)]; exact v2) (Nat.ne_of_gt (Nat.lt_of_lt_of_le (Heap.lt_size ex.obj) k4)) k6
    obtain ⟨oT, _, e, _⟩ := tb.ex
    exact Nat.le_trans m2 (Nat.le_trans (Nat.le_of_lt (Heap.lt_size e)) k4)
end
end L2
/-! A comprehension whose element may raise. -/
namespace L2
open PySem PySem.Spec PyProof.Rows
/-- an exception of a call made within the block -/
def XIn (X : Cx) (scope : Scope) (N' : List Str) (C : Addr) (s2 : Shared) (H2 : Hp) (fp : List Addr) (E : XK) : Value → Shared → Prop := fun e s' =>
  ∃ pins' σ' H1 s1, Inv (compCx X scope N' C s2 H2 fp fun _ _ => False) pins' σ' H1 s1 ∧ CXe X.prog X.w X.stack H1 s1 E e s'
abbrev compX (X : Cx) (scope : Scope) (N' : List Str) (E : XK) (C : Addr) (s2 : Shared) (H2 : Hp) (fp : List Addr) : Cx := compCx X scope N' C s2 H2 fp (XIn X scope N' C s2 H2 fp E)
section
variable {X : Cx} {K : PySem.W.Frag} {pins : List (Addr × Obj)} {σ : St} {H : Hp} {s : Shared}
theorem passC {scope : Scope} {N' : List Str} {E : XK} {C : Addr} {s2 : Shared} {H2 : Hp} {fp : List Addr} : Passes (CXe X.prog X.w) (compX X scope N' E C s2 H2 fp) E := by
  intro pins' σ' H1 s1 e s' I hx
  exact ⟨pins', σ', H1, s1, I.wish (fun _ _ => False), hx⟩
def CompEndE (X : Cx) (pins : List (Addr × Obj)) (σ : St) (Q : VK) (E : XK) (acc : Value) (C : Addr) (r : Result) (s' : Shared) : Prop :=
  match r with
  | .ok _ => ∃ p H' m, acc = .ref p ∧ Inv X pins σ H' s' ∧ FpOk X pins H' C ∧ s'.heap.Ns C m ∧ Q (.ref p) H'
  | .error e => ∃ (ea T : Addr) (cls fl : Value) (od : Option Addr) (sl : Array (Option Value)) (vs : Array Value) (H' : Hp) (m : Str → Option Value), e = .ref ea ∧ Inv X pins σ H' s' ∧ Xc.Exc s'.heap ea cls od sl vs ∧ vs[1]? = some (.ref T) ∧ T ≠ ea ∧ vs[2]? = some .none ∧ Xc.Tb s'.heap T fl ∧
      FpOk X pins H' ea ∧ FpOk X pins H' T ∧ FpOk X pins H' C ∧ X.s₀.heap.objs.size ≤ ea ∧ X.s₀.heap.objs.size ≤ T ∧ ea ≠ C ∧ T ≠ C ∧ s'.heap.Ns C m ∧ E cls od H'
theorem comp_coreE {elt tg iter : Expr} {ifs : List Expr} {scope : Scope} {pos : Pos} {N' : List Str} {cap : List (Option Nat)} {wi : TI} {g : TG} {tst : TT} {te : TE} {Q : VK} {E : XK} (hc : X.calm = true) (hs : X.stack = X.env :: X.outer) (hl : X.env.frame = some X.env.locals) (S : CSc X scope N' cap) (hi : PI X tg iter wi)
    (hg : ∀ C s2 H2 fp, PG (compX X scope N' E C s2 H2 fp) tg g) (ht : ∀ C s2 H2 fp, PIfs (compX X scope N' E C s2 H2 fp) ifs tst)
    (he : ∀ C s2 H2 fp, PE (compX X scope N' E C s2 H2 fp) elt te) (I : Inv X pins σ H s) (h : tComp wi cap g tst te σ H Q) :
    wpAny (model X.prog X.w) X.A (eval iter X.env) (fun x s1 => wpAny (model X.prog X.w) X.A (pyIter x) (fun it s2 => wpAny (model X.prog X.w) X.A (newList []) (fun acc s3 =>
      wpAny (model X.prog X.w) X.A (newFunctionEnv scope X.env.globals (compCl X.env scope.names []) [] X.env.qual none .none (some X.env)) (fun cenv s4 =>
        codeAny (model X.prog X.w) X.A (.compStart (.ListComp elt [⟨tg, iter, ifs, 0⟩] scope pos) 0 it acc { cenv with scope := relabel scope X.env }) (CompEndE X pins σ Q E acc cenv.locals) s4) X.xe s3) X.xe s2) X.xe s1) X.xe s := by
  refine thn (hi pins s σ H _ I h) fun v s1 h1 => thn h1 fun itv s2 h2 => ?_
  obtain ⟨it, fp, tn, J, H2, e, I2, T, st2, f2, q⟩ := h2
  subst e
  have ho : ∀ b ∈ fp, b < s2.heap.objs.size := fun b hb => by
    obtain ⟨o, e, _⟩ := T.obj _ _ st2 b hb
    exact Heap.lt_size e
  refine wpAny_newObj_type (wpAny_newFunctionEnv S.nocell (by intro y hy; simp at hy) (fun hp1 hns1 hsb1 => ?_) S.kind)
  have hDn : s2.heap.objs.size ≠ (s2.heap.push { cls := .type "list", dict := none, data := .seq ([] : List Value).toArray }).objs.size := by rw [Heap.size_push]; exact Nat.ne_of_lt (Nat.lt_succ_self _)
  have hCle : s2.heap.objs.size ≤ (s2.heap.push { cls := .type "list", dict := none, data := .seq ([] : List Value).toArray }).objs.size := by rw [Heap.size_push]; exact Nat.le_succ _
  have old : ∀ b o, s2.heap.get? b = some o → hp1.get? b = some o := fun b o e =>
    hsb1.extBut b o (Nat.ne_of_lt (Nat.lt_of_lt_of_le (Heap.lt_size e) hCle)) (Heap.get?_push_of_some _ (Heap.get?_push_of_some _ e))
  have hacc : hp1.get? s2.heap.objs.size = some { cls := .type "list", data := .seq #[] } := hsb1.extBut _ _ hDn (Heap.get?_push_of_some _ (Heap.get?_push_size _ rfl))
  let X' : Cx := compX X scope N' E (s2.heap.push { cls := .type "list", dict := none, data := .seq ([] : List Value).toArray }).objs.size s2 H2 fp
  obtain ⟨W, ⟨m0, w0⟩, turn⟩ := q s2.heap.objs.size (I2.hok.fresh (Nat.le_refl _))
  have J0 : Inv X' [] (capS cap σ) (upd H2 s2.heap.objs.size (.lst [])) { s2 with heap := hp1, toks := s2.toks + ([] : List (Str × Value)).length } := I2.compStart S (Nat.le_refl _) hCle hDn f2 ho old hacc hns1
  have stat : ∀ {H' : Hp}, (∀ b ∈ fp, H' b = none) → ∀ b ∈ fp, FpOk X' [] H' b := fun hn b hb => by
    obtain ⟨_, g1, g2, g3, g4, g5⟩ := f2 b hb
    refine ⟨hn b hb, Nat.ne_of_lt (Nat.lt_of_lt_of_le (ho b hb) hCle), J0.ok.exfs b hb, .inl hb, fun x c e => g4 x c (I2.clLook S e), fun p hp => absurd (show p ∈ ([] : List (Addr × Obj)) from hp) (by simp)⟩
  have fr0 : ∀ b ∈ fp, upd H2 s2.heap.objs.size (.lst []) b = none := fun b hb => by rw [upd_ne (Nat.ne_of_lt (ho b hb))]; exact (f2 b hb).1
  have loop : codeAny (model X.prog X.w) X.A (.compLoop (.ListComp elt [⟨tg, iter, ifs, 0⟩] scope pos) 0 (.ref it) (.ref s2.heap.objs.size) X'.env)
      (CompEndE X pins σ Q E (.ref s2.heap.objs.size) (s2.heap.push { cls := .type "list", dict := none, data := .seq ([] : List Value).toArray }).objs.size) { s2 with heap := hp1, toks := s2.toks + ([] : List (Str × Value)).length } := by
    refine comp_loop rfl (fun n s' => ∃ i σ' H', Inv X' [] σ' H' s' ∧ tn i s'.heap ∧ (∀ b ∈ fp, H' b = none) ∧ W i n σ' H') ?_ m0 ⟨0, _, _, J0, T.keep _ _ _ st2 fun b _ o e => old b o e, fr0, w0⟩
    rintro n s3 ⟨i, σ3, H3, I3, st3, fr3, w3⟩
    have no : ∀ (e : Value) (s' : Shared), X'.xe e s' → notedBy (model X.prog X.w) X.A X'.env (fun e s' => CompEndE X pins σ Q E (.ref s2.heap.objs.size) (s2.heap.push { cls := .type "list", dict := none, data := .seq ([] : List Value).toArray }).objs.size (.error e) s') e s' := by
      rintro e s' ⟨pins', σ', H1, s1', J, hx⟩
      have I1 : Inv X pins σ H1 s1' := I2.compBack f2 J
      obtain ⟨mC, hmC, _⟩ := id J.loc
      obtain ⟨oC, esC, epC, hoC, rC⟩ := hmC
      show wpAny (model X.prog X.w) X.A (noteFrame e X.env) _ _ s'
      refine noted I1 hx I.ok.frames hs hl fun ea T' cls fl od sl vs H' s3' ee I3' ex hv1 hTe hv2 tb n1 n2 m1 m2 qE kept => ?_
      subst ee
      have fC : ∀ {H'' : Hp}, H'' (s2.heap.push { cls := .type "list", dict := none, data := .seq ([] : List Value).toArray }).objs.size = none → FpOk X pins H'' _ := fun z => I2.fpOk hCle z
      have nC : (s2.heap.push { cls := .type "list", dict := none, data := .seq ([] : List Value).toArray }).objs.size ∉ frs X.stack := by
        rw [hs]
        intro z
        have z' : _ ∈ (X.env :: X.outer).filterMap (·.frame) := z
        rw [List.filterMap_cons, hl] at z'
        rcases List.mem_cons.mp z' with y | y
        · exact (fC (H'' := fun _ => none) rfl).2.1 y
        · exact (fC (H'' := fun _ => none) rfl).2.2.1 y
      obtain ⟨kC, kH⟩ := kept _ oC hoC J.free nC
      have ltC := Heap.lt_size hoC
      exact ⟨ea, T', cls, fl, od, sl, vs, H', mC, rfl, I3', ex, hv1, hTe, hv2, tb, I1.fpOk m1 n1, I1.fpOk m2 n2, fC kH, Nat.le_trans I1.sz m1, Nat.le_trans I1.sz m2, Nat.ne_of_gt (Nat.lt_of_lt_of_le ltC m1), Nat.ne_of_gt (Nat.lt_of_lt_of_le ltC m2), ⟨oC, esC, epC, kC, rC⟩, qE⟩
    rcases turn i n σ3 H3 w3 with ⟨stop, qn⟩ | ⟨go, N, hN, step⟩
    · refine wpAny_mono (T.done X' rfl rfl rfl hc i [] s3 σ3 H3 X'.xe I3 (stat fr3) st3 stop) (fun r s4 ⟨hr, I4⟩ => ?_) no
      subst hr
      obtain ⟨mC, hmC, _⟩ := I4.loc
      exact ⟨_, H3, mC, rfl, I2.compBack f2 I4, I2.fpOk hCle I4.free, hmC, qn⟩
    · refine wpAny_mono (T.item X' rfl rfl rfl hc i [] s3 σ3 H3 X'.xe I3 (stat fr3) st3 go) (fun r s4 ⟨u, hr, h4⟩ => ?_) no
      subst hr
      refine wpAny_mono h4 (fun _ s5 ⟨x, H5, I5, r5, y5, st5, fr5⟩ => ?_) no
      have I5' := I5.pinned (stat fr5) (T.obj _ _ st5)
      refine wpAny_mono (hg _ _ _ _ _ s5 σ3 H5 x u _ I5' r5 (step x H5 y5)) (fun _ s6 ⟨σ6, H6, I6, q6⟩ => ?_) no
      refine wpAny_mono (ht _ _ _ _ _ s6 σ6 H6 _ I6 q6) (fun ok s7 ⟨H7, I7, q7⟩ => ?_) no
      have again : ∀ {σ7 : St} {H7 : Hp} {s7 : Shared}, Inv X' ([] ++ pinsAt fp s5.heap) σ7 H7 s7 → N σ7 H7 → ∃ m, m < n ∧ ∃ i σ' H', Inv X' [] σ' H' s7 ∧ tn i s7.heap ∧ (∀ b ∈ fp, H' b = none) ∧ W i m σ' H' := fun {σ7 H7 s7} I7 n7 => by
        obtain ⟨m', hm, w7⟩ := hN σ7 H7 n7
        refine ⟨m', hm, i + 1, σ7, H7, I7.unpinned, T.keep _ _ _ st5 fun b hb o e => (I7.pin (b, o) (List.mem_append_right _ (List.mem_append_right _ (mem_pinsAt hb e)))).1, fun b hb => ?_, w7⟩
        obtain ⟨o, e, d⟩ := T.obj _ _ st5 b hb
        exact (I7.pin (b, o) (List.mem_append_right _ (List.mem_append_right _ (mem_pinsAt hb e)))).2.1
      cases ok with
      | false => exact again I7 q7
      | true =>
        refine wpAny_mono (he _ _ _ _ _ s7 σ6 H7 _ I7 q7) (fun y s8 ⟨z, H8, I8, r8, xs, e8, l8, q8⟩ => ?_) no
        refine wpAny_mono (mt_append (X := X') _ s8 σ6 H8 (.ref s2.heap.objs.size) [z] (.ref s2.heap.objs.size) [y] (fun _ H9 => N σ6 H9) I8 rfl (.cons r8 .nil) ⟨_, xs, z, rfl, rfl, e8, l8, q8⟩) (fun _ s9 ⟨_, H9, I9, _, q9⟩ => ?_) no
        exact again I9 q9
  exact codeAny_compStart_list loop (T.self _ 0 _ _ _ (T.keep _ _ _ st2 fun b _ o e => old b o e) loop)
end
end L2
/-! raise C(..) of an own class that has no __init__ of its own. -/
namespace Xc
open PySem
section
variable {prog : Program} {w : World} {A : Around} {E : Value → Shared → Prop} {h : Heap} {g : Array GenState} {d : Drawn} {t : Nat} {os : OsState}
variable {nm q : Str} {C N : Addr} {bs bm bmB : List Value} {hdct : Bool} {sn : List Str} {sub : List Value} {ab : Bool} {col : Option Bool} {dd : Option Addr} {k0 k1 k2 k3 k5 : Option Value} {B newId initId : String}
theorem made0 (F : ExcBaseFacts B newId initId bmB) (T : OwnTail h bmB bm) {mN : Str → Option Value} {rest : List Value} {Q : PySem.Fin → Shared → Prop}
    (hC : h.get? C = some (excClassObj nm q C N bs bm hdct sn sub ab col dd k0 k1 k2 k3 k5 newId)) (hn : h.Ns N mN) (hi : mN "__init__" = none)
    (hq : ∀ h' e, Heap.MadeExcOf h h' e (.ref C) rest → h.objs.size ≤ e → Q (.done (.ret (.ref e))) ⟨h', g, d, t, os⟩) (hrest : rest.length ≤ sizeLine) :
    wpAny (model prog w) A (Builtin.«type.__call__» ⟨.ref C :: rest, []⟩) Q E ⟨h, g, d, t, os⟩ := by
  repeat (first | with_reducible refine wpAny_loadPart_at hC ?_ | with_reducible refine wpAny_madeBy_exc hC ?_ | wp_step)
  refine codeAny_call_builtin_code (Code.quiet_builtin _ F.quiet) (wpAny_check_new_subT F T hC (codeAny_exc_new_subT F T hC ?_ hrest))
  show wpAny _ _ _ _ _ _
  have up : ∀ b o, h.get? b = some o → ((h.push { cls := .type "tuple", data := .seq rest.toArray }).push { cls := .ref C, data := .fields #[.ref h.objs.size, .none, .none, .none, .bool false, .none] }).get? b = some o := fun b o e => Heap.get?_push_of_some _ (Heap.get?_push_of_some _ e)
  have hget : ((h.push { cls := .type "tuple", data := .seq rest.toArray }).push { cls := .ref C, data := .fields #[.ref h.objs.size, .none, .none, .none, .bool false, .none] }).get? (h.objs.size + 1) = some { cls := .ref C, data := .fields #[.ref h.objs.size, .none, .none, .none, .bool false, .none] } := by heap_get
  have hcC : (Value.ref C :: bm).contains (.ref C) = true := by simp
  have hC1 := up _ _ hC
  have hn1 : ((h.push { cls := .type "tuple", data := .seq rest.toArray }).push { cls := .ref C, data := .fields #[.ref h.objs.size, .none, .none, .none, .bool false, .none] }).Ns N mN := let ⟨o, es, ep, e, r⟩ := hn; ⟨o, es, ep, up _ _ e, r⟩
  unfold isInstance
  repeat (first | with_reducible refine wpAny_loadPart_at hget ?_ | (with_reducible refine wpAny_isSubtype_exc hC1 ?_; rw [hcC]) | wp_step)
  show wpAny _ _ (typeLookup (.ref C) _) _ _ _
  refine wpAny_typeLookup_tail hC1 hn1 (T.keeps up) F.mroIs F.init.lookup ?_
  rw [hi]
  refine wpAny_holding (wpAny_bind (wpAny_of_eq (F.init.bind _) ?_))
  refine wpAny_bind (wpAny_call (codeAny_call_builtin F.init.plain F.initEntry (wpAny_check_init_subT F (T.keeps up) hC1 hget rfl ?_)))
  wp_walk
  refine hq _ _ ⟨fun b o hb => ?_, Heap.get?_none_of_le (Nat.le_succ _), h.objs.size + 2, ?_, Heap.get?_none_of_le (by omega), ?_⟩ (Nat.le_succ _)
  · rw [Heap.get?_update_other _ _ (Nat.ne_of_gt (Nat.lt_succ_of_lt (Heap.lt_size hb)))]
    exact Heap.get?_push_of_some _ (up b o hb)
  · rw [Heap.get?_update_self _ (Heap.get?_push_of_some _ hget) rfl]
    simp only [Heap.size_push]
    rfl
  · rw [Heap.get?_update_other _ _ (show h.objs.size + 1 ≠ h.objs.size + 2 by omega)]
    exact Heap.get?_push_at (by simp only [Heap.size_push]) rfl
theorem call0 (F : ExcBaseFacts B newId initId bmB) (T : OwnTail h bmB bm) {mN : Str → Option Value} {rest : List Value} {Q : Value → Shared → Prop}
    (hC : h.get? C = some (excClassObj nm q C N bs bm hdct sn sub ab col dd k0 k1 k2 k3 k5 newId)) (hn : h.Ns N mN) (hi : mN "__init__" = none)
    (hq : ∀ h' e, Heap.MadeExcOf h h' e (.ref C) rest → h.objs.size ≤ e → Q (.ref e) ⟨h', g, d, t, os⟩) (hrest : rest.length ≤ sizeLine) :
    wpAny (model prog w) A (call (.ref C) rest) Q E ⟨h, g, d, t, os⟩ := by
  have f1 := tc_lookup
  have f2 := tc_bind (.ref C)
  have hT : (⟨h, g, d, t, os⟩ : Shared).TypeIs (.ref C) "type" := ⟨_, hC, rfl⟩
  refine wpAny_call (codeAny_of_tree (?_ : wpAny _ _ (callAny (.ref C) _) _ _ _))
  repeat (any_goals (first | assumption | with_reducible refine wpAny_loadPart_at hC ?_ | wp_step))
  refine ⟨rfl, codeAny_call_builtin_at (Code.quiet_builtin _ (by decide +kernel)) entry_typeCall (wpAny_check_type_call_sub hC (made0 F T hC hn hi (fun h' e hm hs => ?_) hrest))⟩
  exact hq h' e hm hs
end
end Xc
namespace L2
open PySem PySem.Spec PyProof.Rows
theorem ns_none {K : PySem.W.Frag} {h : Heap} {N : Addr} {mg : Str → Option Value} {n : Str} (X : K.In h) (G : h.Ns N mg) (e : PySem.W.nsIn K N n = some none) : mg n = none := by
  obtain ⟨o, es, ep, ho, hd, _, hf⟩ := G
  unfold PySem.W.nsIn at e
  split at e
  · rename_i c d es' n' sl q
    have := X _ _ q
    rw [ho] at this
    cases this
    cases hd
    split at e
    · cases e
    · rename_i he
      rw [← hf]
      unfold nsFind findBy
      rw [← Array.find?_toList, he]
      rfl
  · cases e
/-- what the text says of such a class -/
structure X0 (K : PySem.W.Frag) (C : Addr) : Prop where
  x : xIn K C = true
  init : ((PySem.W.clsIn K C).bind fun cd => PySem.W.nsIn K cd.ns "__init__") = some none
  kp : PySem.W.keepIn K (.ref C) = true
section
variable {X : Cx} {k : Nat} {C : Addr} {E : XK} {x : Str} {p pos rpos : Pos} {e : Expr} {es : List Expr} {t : TA}
def sRaise0 (C : Addr) (E : XK) (t : TA) : TS := fun _ σ H => t σ H fun vs H1 => vs.length ≤ 1000 ∧ E (.ref C) none H1
theorem ps_raise0 (M : X0 X.K C) (hr : Room (k + 1) X.A) (hm : X.mg x = some (.ref C)) (hg : Gl X x) (hx : Raises X E)
    (ha : PA X (e :: es) t) (hdb : (x == ("__debug__" : Str)) = false := by decide) (he : starEach (e :: es) X.env = (false, eval e X.env) :: starEach es X.env := by rfl) (hpl : (backTo pos (starEach es X.env)).any (·.1) = false := by rfl) :
    PS X (.Raise (some (.Call (.Name x p) (e :: es) [] pos)) none rpos) (sRaise0 C E t) := by
  intro pins s σ H D I h
  obtain ⟨cd, hcd, ⟨nm, qn, bs, bm, hdct, sn, sub, ab, col, dd, k0, k1, k2, k3, k5, hCo, T, mN, hN⟩⟩ := xat_of I.kIn M.x
  obtain ⟨cd', hcd', hi⟩ := Option.bind_eq_some_iff.mp M.init
  rw [hcd] at hcd'; cases hcd'
  have hb2 : bm.contains (.type "BaseException") = true := T.hasType (by decide +kernel)
  rw [arm_exec_Raise]
  refine wpAny_bind (wpAny_standAt ?_)
  show wpAny _ _ (raiseStmt X.env (some (do let v ← eval (.Call (.Name x p) (e :: es) [] pos) X.env; standAt rpos; pure v)) none) _ _ _
  refine Xc.raise_made (C := C) (N := cd.ns) (nm := nm) (q := qn) (bs := bs) (bm := bm) (hdct := hdct) (sn := sn) (sub := sub) (ab := ab) (col := col) (dd := dd) (k0 := k0) (k1 := k1) (k2 := k2) (k3 := k3) (k5 := k5) (newId := "ValueError.__new__") hb2 hr.hd ?_
  refine wpAny_bind (thn (Q := fun v s1 => ∃ e od sl vs, v = .ref e ∧ s1.heap.get? C = some (excClassObj nm qn C cd.ns bs bm hdct sn sub ab col dd k0 k1 k2 k3 k5 "ValueError.__new__") ∧ Xc.Exc s1.heap e (.ref C) od sl vs ∧ vs[1]? = some .none ∧ X.xe (.ref e) s1) ?_ fun v s1 h1 => wpAny_bind (wpAny_standAt (wpAny_pure h1)))
  refine wpAny_Call_Name_kw (ld_glob I hg hm ?_ hdb)
  refine PySem.W.callWith_K (h₀ := X.base) I.ok.mod.kin M.kp (thn (ha pos pins s σ H _ I h) fun us s1 ⟨vs, H1, I1, r, hl, q⟩ => ⟨I1.kIn, ?_⟩) he hpl
  obtain ⟨cd2, hcd2, ⟨nm2, qn2, bs2, bm2, hdct2, sn2, sub2, ab2, col2, dd2, j0, j1, j2, j3, j5, hC1, T1, mN1, hN1⟩⟩ := xat_of I1.kIn M.x
  rw [hcd] at hcd2; cases hcd2
  have kC : s1.heap.get? C = some (excClassObj nm qn C cd.ns bs bm hdct sn sub ab col dd k0 k1 k2 k3 k5 "ValueError.__new__") := by
    have hK : ∃ o, X.K.lookup C = some o := by
      unfold PySem.W.clsIn at hcd
      split at hcd
      · rename_i z; exact ⟨_, z⟩
      · cases hcd
    obtain ⟨o, hK⟩ := hK
    have e1 := I.kIn C o hK
    rw [hCo] at e1; cases e1
    exact I1.kIn C _ hK
  have hi1 := ns_none I1.kIn hN1 hi
  obtain ⟨hp, g, d, tk, os⟩ := s1
  refine Xc.call0 PySem.F.excBase_ValueError T1 hC1 hN1 hi1 (fun h' a hm' hs => ?_) (by rw [List.nil_append, ← r.length, sizeLine_eq]; omega)
  obtain ⟨tt, ht, _, _⟩ := hm'.there
  have I2 := I1.kept (h' := h') (t' := tk) hm'.keeps
  refine ⟨a, none, _, _, rfl, hm'.keeps _ _ kC, ⟨ht, by simp⟩, rfl, ?_⟩
  refine hx pins σ H1 _ a (.ref C) none _ _ I2 ⟨⟨ht, by simp⟩, rfl, I1.hok.fresh hs, Nat.le_trans I1.sz hs, fun y c e z => ?_, .inl rfl⟩ q
  obtain ⟨v, o, y, _⟩ := I1.cell _ c e
  rw [z] at y
  exact absurd (Heap.lt_size y) (Nat.not_lt.mpr hs)
end
end L2
/-! set(xs) of ints, len of it. -/
namespace L2
open PySem PySem.Spec PyProof.Rows
section
variable {X : Cx}
/-- the numbers, each once -/
def once (ns : List Int) : List Int := ns.foldl step_dedup []
theorem firstMet_once (ns : List Int) : firstMet (fun i => ns.getD i 0) ns.length = once ns := by
  unfold firstMet once
  congr 1
  apply List.ext_getElem
  · simp
  · intro i h1 h2
    simp at h1
    simp [h1]
def rSet : List V → Hp → VK → Prop := fun xs H Q => ∃ (p : Addr) (ns : List Int), xs = [.ref p] ∧ H p = some (.lst (ns.map V.int)) ∧ ns.length < 4000 ∧
    ∀ l, H l = none → Q (.ref l) (upd H l (.set (fun k => (once ns).any (· == k)) (once ns).length))
theorem call_setL (hc : X.calm = true) : CallR X (.type "set") rSet := by
  intro pins s σ H xs us Q I r h
  obtain ⟨p, ns, rfl, hq, hz, q⟩ := h
  obtain ⟨u, rfl, ru⟩ := vals1 r
  cases ru
  obtain ⟨hs1, its, n, rv, hg⟩ := (show ObjOk X.prog X.w H s.heap p (.lst (ns.map V.int)) from I.hok p _ hq)
  have hI := intsAre_of rv
  have hl : its.length = ns.length := by rw [← rv.length, List.length_map]
  refine call_set_list (I.ok.hd hc) (items := its.toArray) ⟨_, hg, rfl, n, rfl⟩ (by simpa using hI) (by rw [List.size_toArray, hl]; unfold scanBound; omega) fun h' tk hS hk => ?_
  have hz2 : its.toArray.size = ns.length := by rw [List.size_toArray, hl]
  rw [hz2, firstMet_once] at hS
  exact ⟨.ref s.heap.objs.size, _, I.laid (t' := tk) (o := .set (fun k => (once ns).any (· == k)) (once ns).length) (fun b o e => hk b o (Heap.lt_size e) e) (Nat.le_refl _) hS, rfl, q _ (I.hok.fresh (Nat.le_refl _))⟩
theorem call_lenS : CallR X (.builtin "len") (fun xs H Q => ∃ (p : Addr) (S : Int → Bool) (n : Nat), xs = [.ref p] ∧ H p = some (.set S n) ∧ n < 4096 ∧ Q (.int n) H) := by
  intro pins s σ H xs us Q I r h
  obtain ⟨p, S, n, rfl, hq, hz, q⟩ := h
  obtain ⟨u, rfl, ru⟩ := vals1 r
  cases ru
  have hS : s.heap.SetOf (intKind X.prog X.w) p S n := (show ObjOk X.prog X.w H s.heap p (.set S n) from I.hok p _ hq)
  obtain ⟨o, ho, hso⟩ := hS.objOf
  obtain ⟨hex, es, ep, t, hd, _, _, hn, hf⟩ := hso
  subst hn
  exact call_len_set ho hex hd hf (by omega) ⟨.int _, H, I.tok _, ⟨_, rfl⟩, q⟩
end
end L2
/-! Texts: int of a text, startswith, split, slices, a loop over the signs, times. -/
namespace L2
open PySem PySem.Spec PyProof.Rows PySem.Builtin PySem.Builtin.Str
section
variable {X : Cx}
theorem call_intS : CallR X (.type "int") (fun xs H Q => ∃ x n, xs = [.str x] ∧ intText? x = some n ∧ x.length ≤ 640 ∧ Q (.int n) H) := by
  intro pins s σ H xs us Q I r h
  obtain ⟨x, n, rfl, hn, hl, q⟩ := h
  obtain ⟨u, rfl, t, rfl⟩ := vals1 r
  exact PySem.W.KIN.call_text hn hl ⟨.int n, H, I.tok _, ⟨_, rfl⟩, q⟩
def rStarts : V → List V → Hp → VK → Prop := fun x vs H Q => ∃ a b, x = .str a ∧ vs = [.str b] ∧ Q (.bl (Txt.startswith a b)) H
theorem mt_starts : MtR X "str.startswith" rStarts := by
  intro pins s σ H x xs v us Q I rx r h
  obtain ⟨a, b, rfl, rfl, q⟩ := h
  obtain ⟨t, rfl⟩ := rx
  obtain ⟨u, rfl, t', rfl⟩ := Vals.one r
  exact SC.startswith ⟨.bl _, H, I, rfl, q⟩
theorem vals_strs : ∀ (l : List (Str × Tok)), Vals ((l.map (·.1)).map V.str) (strValues l)
  | [] => .nil
  | p :: r => .cons ⟨p.2, rfl⟩ (vals_strs r)
def rSplit : V → List V → Hp → VK → Prop := fun x vs H Q => ∃ a b, x = .str a ∧ vs = [.str b] ∧ (b.length == 0) = false ∧ a.length + 2 ≤ sizeLine ∧ ∀ p, H p = none → Q (.ref p) (upd H p (.lst ((Txt.split a b).map V.str)))
theorem mt_split : MtR X "str.split" rSplit := by
  intro pins s σ H x xs v us Q I rx r h
  obtain ⟨a, b, rfl, rfl, hb, hz, q⟩ := h
  obtain ⟨t, rfl⟩ := rx
  obtain ⟨u, rfl, t', rfl⟩ := Vals.one r
  have hn : (partsBetween a (occurrences a b 0 a.length (a.length + 1)) b.length).length ≤ sizeLine := by
    have e1 := StrLaws.occ_length_le a b 0 a.length (a.length + 1)
    rw [length_partsBetween]; omega
  have fin : ∀ (l : List (Str × Tok)) (k : Nat), l.map (·.1) = Txt.split a b → EP X pins σ Q (.ref s.heap.objs.size) { s with heap := s.heap.push { cls := .type "list", data := .seq (strValues l).toArray }, toks := k } := fun l k e => by
    refine ⟨.ref s.heap.objs.size, _, I.laid (t' := k) (a := s.heap.objs.size) (o := .lst ((Txt.split a b).map V.str)) (fun b ob z => Heap.get?_push_of_some _ z) (Nat.le_refl _) ?_, rfl, q _ (I.hok.fresh (Nat.le_refl _))⟩
    have hl : (Txt.split a b).length ≤ sizeLine := Nat.le_trans (split_le a b) hz
    refine ⟨by rw [List.length_map]; exact hl, strValues l, _, by rw [← e]; exact vals_strs l, Heap.get?_push_size _ rfl⟩
  cases h1 : (decide (a.length < b.length) || decide (strKind a < strKind b))
  · cases hf : (occurrences a b 0 a.length (a.length + 1)).isEmpty
    · refine call_meets F.slot_str_split (typeIs_str _ _ _) F.entry_str_split (F.args_str_split_2 _ _) (meets_str_split_sep a b t t' h1 hb hf (by omega) hn) ?_
      show wants _ _ _ { s with toks := _, heap := s.heap.push { cls := .type "list", data := .seq (strsFrom s.toks (partsBetween a (occurrences a b 0 a.length (a.length + 1)) b.length)).toArray } }
      rw [strsFrom_eq]
      exact fin (numbered s.toks _) _ ((numbered_texts _ _).trans ((if_neg (ne_true_of_eq_false h1)).trans (if_neg (ne_true_of_eq_false hf))).symm)
    · exact call_meets F.slot_str_split (typeIs_str _ _ _) F.entry_str_split (F.args_str_split_2 _ _) (meets_str_split_not_found a b t t' h1 hb hf)
        (fin [(a, t)] s.toks ((if_neg (ne_true_of_eq_false h1)).trans (if_pos hf)).symm)
  · exact call_meets F.slot_str_split (typeIs_str _ _ _) F.entry_str_split (F.args_str_split_2 _ _) (meets_str_split_cannot_occur a b t t' h1)
      (fin [(a, t)] s.toks (if_pos h1).symm)
/-! ### slices of a text -/
def rSlS : V → Option Int → Option Int → Hp → VK → Prop := fun x lo hi H Q => ∃ z, x = .str z ∧ z.length ≤ sizeLine ∧ Q (.str (Txt.slice z lo hi)) H
theorem sl_str : SlR X rSlS := by
  intro pins s σ H x v vl vu lo hi sl Q I rx hs pl pu h
  obtain ⟨z, rfl, hz, q⟩ := h
  obtain ⟨t, rfl⟩ := rx
  refine ⟨"str", _, F.slot_str_getitem.lookup, typeIs_str _ _ _, ?_⟩
  cases pl with
  | none =>
    cases pu with
    | none => exact wpAny_getItem_str_slice (l := none) (u := none) (st := none) hs rfl (post_val_or_str ⟨Nat.le_trans (Txt.slice_le z _ _) hz, fun t' k => ⟨.str _, H, I.tok k, ⟨t', rfl⟩, q⟩⟩)
    | int j tj => exact wpAny_getItem_str_slice (l := none) (u := some (j, tj)) (st := none) hs rfl (post_val_or_str ⟨Nat.le_trans (Txt.slice_le z _ _) hz, fun t' k => ⟨.str _, H, I.tok k, ⟨t', rfl⟩, q⟩⟩)
  | int i ti =>
    cases pu with
    | none => exact wpAny_getItem_str_slice (l := some (i, ti)) (u := none) (st := none) hs rfl (post_val_or_str ⟨Nat.le_trans (Txt.slice_le z _ _) hz, fun t' k => ⟨.str _, H, I.tok k, ⟨t', rfl⟩, q⟩⟩)
    | int j tj => exact wpAny_getItem_str_slice (l := some (i, ti)) (u := some (j, tj)) (st := none) hs rfl (post_val_or_str ⟨Nat.le_trans (Txt.slice_le z _ _) hz, fun t' k => ⟨.str _, H, I.tok k, ⟨t', rfl⟩, q⟩⟩)
/-! ### text times int -/
def rTimes : R2 := fun x y H Q => ∃ z n, x = .str z ∧ y = .int n ∧ MulOk z n ∧ Q (.str (Txt.mul z n)) H
theorem op_times : OpR X (binaryOp .Mult) rTimes := by
  intro pins s σ H x y v u Q I rx ry h
  obtain ⟨z, n, rfl, rfl, hm, q⟩ := h
  obtain ⟨t, rfl⟩ := rx
  obtain ⟨t', rfl⟩ := ry
  exact SB.mul hm fun t' k => ⟨.str _, H, I.tok k, ⟨t', rfl⟩, q⟩
end
/-! ### the signs of a text, one after another -/
def Its (x : Str) : It := ⟨fun i _ => i < x.cps.size, fun i H v H' => H' = H ∧ ∃ c, x.cps[i]? = some c ∧ v = .str ⟨#[c]⟩, fun i _ => x.cps.size ≤ i⟩
theorem turn_ascii {P : Program} {w : World} {K : PySem.W.Frag} {tg : Expr} (it : Addr) (x : Str) (t : Tok) : Turn P w K tg (Its x) [it] it (fun i h => h.IsStrIter it "str_ascii_iterator" x t i) where
  mem := by simp
  obj := fun i h st b hb => by
    have e : b = it := by simpa using hb
    subst e
    obtain ⟨o, e, c, d⟩ := st
    exact ⟨o, e, fun v z => by rw [d] at z; cases z⟩
  keep := fun i h h' st k => by
    obtain ⟨o, e, r⟩ := st
    exact ⟨o, k it (by simp) o e, r⟩
  item := by
    intro X hP hw hK hc i pins s σ H E I hf st hg
    subst hP hw hK
    obtain ⟨f0, f1, f2, f3, f4, f5⟩ := hf it (by simp)
    have W := Walks.strAscii (prog := X.prog) (w := X.w) (I.ok.hd hc) it x t
    refine W.item i s _ _ hg st fun v h' tk hv st' kk => ?_
    obtain ⟨c, u, hc', rfl⟩ := hv
    have I1 : Inv X pins σ H { s with heap := h', toks := tk } := I.turned (fun b o hb e => kk b o (by simpa using hb) e) f0 f1 f3 f4 f5
    obtain ⟨o, e, cc, d⟩ := id st'
    exact ⟨_, rfl, go_of (s := { s with heap := h', toks := tk }) e cc d (by decide) ⟨.str ⟨#[c]⟩, H, I1, ⟨u, rfl⟩, ⟨rfl, c, hc', rfl⟩, st', fun b hb => (hf b hb).1⟩⟩
  done := by
    intro X hP hw hK hc i pins s σ H E I hf st hg
    subst hP hw hK
    obtain ⟨f0, f1, f2, f3, f4, f5⟩ := hf it (by simp)
    have hg' : x.cps.size ≤ i := hg
    exact wpAny_pyNext_ascii_end (I.ok.hd hc) st (by simp [hg']) fun h' eb => ⟨rfl, I.turned (t' := s.toks) (fun b o hb e => eb b o hb e) f0 f1 f3 f4 f5⟩
  self := fun _ _ _ _ _ st h => wpAny_pyIter_striter_ascii st h
theorem turn_wide {P : Program} {w : World} {K : PySem.W.Frag} {tg : Expr} (it : Addr) (x : Str) (t : Tok) : Turn P w K tg (Its x) [it] it (fun i h => h.IsStrIter it "str_iterator" x t i) where
  mem := by simp
  obj := fun i h st b hb => by
    have e : b = it := by simpa using hb
    subst e
    obtain ⟨o, e, c, d⟩ := st
    exact ⟨o, e, fun v z => by rw [d] at z; cases z⟩
  keep := fun i h h' st k => by
    obtain ⟨o, e, r⟩ := st
    exact ⟨o, k it (by simp) o e, r⟩
  item := by
    intro X hP hw hK hc i pins s σ H E I hf st hg
    subst hP hw hK
    obtain ⟨f0, f1, f2, f3, f4, f5⟩ := hf it (by simp)
    have W := Walks.strWide (prog := X.prog) (w := X.w) (I.ok.hd hc) it x t
    refine W.item i s _ _ hg st fun v h' tk hv st' kk => ?_
    obtain ⟨c, u, hc', rfl⟩ := hv
    have I1 : Inv X pins σ H { s with heap := h', toks := tk } := I.turned (fun b o hb e => kk b o (by simpa using hb) e) f0 f1 f3 f4 f5
    obtain ⟨o, e, cc, d⟩ := id st'
    exact ⟨_, rfl, go_of (s := { s with heap := h', toks := tk }) e cc d (by decide) ⟨.str ⟨#[c]⟩, H, I1, ⟨u, rfl⟩, ⟨rfl, c, hc', rfl⟩, st', fun b hb => (hf b hb).1⟩⟩
  done := by
    intro X hP hw hK hc i pins s σ H E I hf st hg
    subst hP hw hK
    obtain ⟨f0, f1, f2, f3, f4, f5⟩ := hf it (by simp)
    have hg' : x.cps.size ≤ i := hg
    exact wpAny_pyNext_wide_end (I.ok.hd hc) st (by simp [hg']) fun h' eb => ⟨rfl, I.turned (t' := s.toks) (fun b o hb e => eb b o hb e) f0 f1 f3 f4 f5⟩
  self := fun _ _ _ _ _ st h => wpAny_pyIter_striter_wide st h
section
variable {X : Cx} {tg : Expr}
def iStr (tl : TE) : TI := fun σ H R => tl σ H fun v H1 => ∃ x, v = .str x ∧ R (Its x) H1
theorem pi_str {l : Expr} {tl : TE} (hl : PE X l tl) : PI X tg l (iStr tl) := by
  intro pins s σ H R I h
  refine thn (hl pins s σ H _ I h) fun v s1 ⟨x, H1, I1, r1, q1⟩ => ?_
  obtain ⟨z, e, q⟩ := q1
  subst e
  obtain ⟨t, rfl⟩ := r1
  have fp : ∀ b ∈ [s1.heap.objs.size], FpOk X pins H1 b := fun b hb => by
    have e : b = s1.heap.objs.size := by simpa using hb
    subst e
    exact I1.fpOk (Nat.le_refl _) (I1.hok.fresh (Nat.le_refl _))
  cases ha : z.cps.all (· < 128)
  · exact wpAny_pyIter_wide ha ⟨s1.heap.objs.size, [s1.heap.objs.size], _, _, H1, rfl, I1.kept (t' := s1.toks) fun b o e => Heap.get?_push_of_some _ e, turn_wide _ z t, ⟨_, Heap.get?_push_size _ rfl, rfl, rfl⟩, fp, q⟩
  · exact wpAny_pyIter_ascii ha ⟨s1.heap.objs.size, [s1.heap.objs.size], _, _, H1, rfl, I1.kept (t' := s1.toks) fun b o e => Heap.get?_push_of_some _ e, turn_ascii _ z t, ⟨_, Heap.get?_push_size _ rfl, rfl, rfl⟩, fp, q⟩
end
theorem turns_str {x : Str} {p : Addr} {g : TG} {tst : TT} {te : TE} {Q : Hp → Prop} {σ : St} {H : Hp} (Pv : Nat → St → Hp → Prop) (h0 : Pv 0 σ H)
    (hs : ∀ i c σ H, x.cps.toList[i]? = some c → Pv i σ H → g (.str ⟨#[c]⟩) σ H fun σ2 H2 => tst σ2 H2 fun c H3 => if c = true then te σ2 H3 fun y H4 => ∃ ys, H4 p = some (.lst ys) ∧ ys.length < sizeLine ∧ Pv (i + 1) σ2 (upd H4 p (.lst (ys ++ [y]))) else Pv (i + 1) σ2 H3)
    (hd : ∀ σ H, Pv x.cps.toList.length σ H → Q H) : Turns (Its x) g tst te p Q σ H := by
  have hn : x.cps.toList.length = x.cps.size := Array.length_toList
  refine ⟨fun i m σ H => m = x.cps.toList.length - i ∧ i ≤ x.cps.toList.length ∧ Pv i σ H, ⟨x.cps.toList.length, by simp, Nat.zero_le _, h0⟩, ?_⟩
  rintro i m σ H ⟨rfl, hi, p⟩
  by_cases hlt : i < x.cps.toList.length
  · refine .inr ⟨show i < x.cps.size by rw [← hn]; exact hlt, Pv (i + 1), fun σ' H' p' => ⟨x.cps.toList.length - (i + 1), by omega, rfl, hlt, p'⟩, fun v H' y => ?_⟩
    obtain ⟨e, c, hc, ev⟩ := y
    subst e ev
    exact hs i c σ _ (by rw [Array.getElem?_toList]; exact hc) p
  · have e : i = x.cps.toList.length := by omega
    subst e
    exact .inl ⟨show x.cps.size ≤ _ from Nat.le_of_eq hn.symm, hd σ H p⟩
theorem pe_gstr {X : Cx} {x y : Str} {pos : Pos} (hg : Gl X x) (hm : ∃ t, X.mg x = some (.str y t)) (hd : (x == ("__debug__" : Str)) = false := by decide) : PE X (.Name x pos) (tC (.str y)) := by
  obtain ⟨t, hm⟩ := hm
  exact pe_glob (v := .str y) hg hm ⟨t, rfl⟩ hd
/-! ### a call by a name of the body that holds a function; a try whose body raises nothing -/
def CtrV (P : Program) (w : World) (K : PySem.W.Frag) (mg : Str → Option Value) (base : Heap) (k : Nat) (f : Addr) (ps : List Str) (sp : Sp) : Prop :=
  ∃ fd, FnOk P w K mg base (CXe P w) k f fd ps sp ∧ PySem.W.keepIn K (.ref f) = true ∧ Binds K fd ps []
def tCallV (P : Program) (w : World) (K : PySem.W.Frag) (mg : Str → Option Value) (base : Heap) (k i : Nat) (t : TA) : TX := fun σ H Q E => ∃ f ps sp, σ[i]? = some (some (.ref f)) ∧ CtrV P w K mg base k f ps sp ∧ t σ H fun vs H1 => sp vs H1 Q E
section
variable {X : Cx} {k i : Nat} {x : Str} {p pos : Pos} {e : Expr} {es : List Expr} {t : TA}
theorem px_callV (hN : X.N[i]? = some x) (hv : Vis X.env.scope x) (hr : Room k X.A) (ha : PA X.nox (e :: es) t) (hd : (x == ("__debug__" : Str)) = false := by decide) (hcd : (x == ("__classdict__" : Str)) = false := by decide)
    (he : starEach (e :: es) X.env = (false, eval e X.env) :: starEach es X.env := by rfl) (hpl : (backTo pos (starEach es X.env)).any (·.1) = false := by rfl) : PX X (.Call (.Name x p) (e :: es) [] pos) (tCallV X.prog X.w X.K X.mg X.base k i t) := by
  intro pins s σ H Q E I h
  obtain ⟨f, ps, sp, ei, ⟨fd, F, hk, hb⟩, h⟩ := h
  refine wpAny_Call_Name_kw (wpAny_mono (pe_var (X := X.nox) (pos := p) hN hv hd hcd pins s σ H (fun v H' => v = .ref f ∧ H' = H) (I.wish _) ⟨.ref f, ei, rfl, rfl⟩) (fun v s1 ⟨y, H1, I1, r1, e1, e2⟩ => ?_) fun _ _ z => False.elim z)
  subst e1 e2
  cases r1
  refine PySem.W.callWith_K (h₀ := X.base) I.ok.mod.kin hk (wpAny_mono (ha pos pins s1 σ H1 _ I1 h) (fun us s2 ⟨vs, H2, I2, r, q⟩ => ⟨I2.kIn, ?_⟩) fun _ _ z => False.elim z) he hpl
  exact runX F hr hb I2.unwish r q
theorem ps_tryQ {st : Stmt} {y : Option Expr} {n : Option Str} {suite : List Stmt} {hpos : Pos} {tb : TSX} (hst : PSX X st tb) :
    PS X (.Try [st] [.ExceptHandler y n suite hpos] [] [] pos) (fun D σ H => tb D σ H fun _ _ _ => False) := by
  intro pins s σ H D I h
  have hbody : wpAny (model X.prog X.w) X.A (execs [st] X.env) (SP X pins D) (XFrom X pins σ fun _ _ _ => False) s := by
    refine wpAny_execs_cons (thn (hst pins s σ H D _ I h) fun f s1 q => ?_)
    cases f with
    | next => exact wpAny_execs_nil q
    | ret v => exact q
    | brk => exact q
    | cont => exact q
  refine wpAny_Try_except (wpAny_mono hbody (fun f s1 q => ?_) fun e s1 hxx => ?_)
  · cases f with
    | next => exact wpAny_execs_nil q
    | ret v => exact q
    | brk => exact q
    | cont => exact q
  obtain ⟨H1, s2, I2, h2⟩ := hxx
  obtain ⟨_, _, _, _, _, _, _, _, _, _, _, _, _, _, _, _, _, _, _, _, _, q⟩ := h2
  exact False.elim q
end
end L2
/-! x = [elt for ..] where elt may raise; a call without arguments. -/
namespace L2
open PySem PySem.Spec PyProof.Rows
section
variable {X : Cx} {k : Nat} {x : Str} {ps : List Str} {sp : Sp} {p pos : Pos}
theorem pe_callC0 (c : Ctr X.prog X.w X.K X.mg X.base CX0 k x ps sp) (hr : Room k X.A) (hg : Gl X x) (hdb : (x == ("__debug__" : Str)) = false := by decide) : PE X (.Call (.Name x p) [] [] pos) (tCall sp [] E0 tNil) := by
  obtain ⟨f, fd, F, hm, hk, hb⟩ := c.ex
  exact pe_call0 F hr hg hm hk hb .nil pass0 hdb
end
/-! ### two lists of bools compared -/
theorem eqvAll_bools : ∀ (bs cs : List Bool), PyData.eqvAll (bs.map .bool) (cs.map .bool) = decide (bs = cs)
  | [], [] => rfl
  | [], _ :: _ => rfl
  | _ :: _, [] => rfl
  | b :: bs, c :: cs => by
    show (b == c && PyData.eqvAll (bs.map .bool) (cs.map .bool)) = _
    rw [eqvAll_bools bs cs, Bool.eq_iff_iff]
    simp
theorem reads_bools {h : Heap} : ∀ {bs : List Bool} {us : List Value}, Vals (bs.map V.bl) us → ReadsAll h us (bs.map .bool) []
  | [], _, .nil => .nil
  | b :: bs, _, .cons r t => by
    cases r
    exact .cons (as := []) (.bool b) (reads_bools t)
theorem op_eqBs {X : Cx} {K : PySem.W.Frag} (hK : X.K = K) (hu : X.A.units + 64 < cLine) : OpR X (compareOp .Eq) (fun x y H Q => ∃ (a b : Addr) (bs cs : List Bool), x = .ref a ∧ y = .ref b ∧ SqL K H a (bs.map V.bl) ∧ SqL K H b (cs.map V.bl) ∧
    SeqAt.shaped (.list (bs.map .bool)) = true ∧ SeqAt.shaped (.list (cs.map .bool)) = true ∧ Q (.bl (decide (bs = cs))) H) := by
  subst hK
  intro pins s σ H x y v u Q I rx ry h
  obtain ⟨a, b, bs, cs, rfl, rfl, ha, hb, k1, k2, q⟩ := h
  cases rx
  cases ry
  obtain ⟨i1, r1, p1, _⟩ := I.list ha
  obtain ⟨o1, g1, c1, n1, d1⟩ := p1.isList
  obtain ⟨i2, r2, p2, _⟩ := I.list hb
  obtain ⟨o2, g2, c2, n2, d2⟩ := p2.isList
  refine eq_dataH (reads_list_at g1 c1 d1 (by simpa using reads_bools r1)) (reads_list_at g2 c2 d2 (by simpa using reads_bools r2)) k1 k2 hu ?_
  show EP X pins σ Q (.bool (PyData.eqvAll (bs.map .bool) (cs.map .bool))) s
  rw [eqvAll_bools]
  exact ⟨.bl _, H, I, rfl, q⟩
section
variable {X : Cx}
theorem ps_setCompE {i : Nat} {x : Str} {elt tg iter : Expr} {ifs : List Expr} {scope : Scope} {pos pos' cpos : Pos} {N' : List Str} {cap : List (Option Nat)} {wi : TI} {g : TG} {tst : TT} {te : TE} {E : XK} (hN : X.N.Nodup) (hx : X.N[i]? = some x) (hl : X.env.scope.names.lookup x = some .local)
    (hc : X.calm = true) (hst : X.stack = X.env :: X.outer) (hfr : X.env.frame = some X.env.locals) (hF : RaisesF X E) (S : CSc X scope N' cap) (hi : PI X tg iter wi)
    (hg : ∀ C s2 H2 fp, PG (compX X scope N' E C s2 H2 fp) tg g) (ht : ∀ C s2 H2 fp, PIfs (compX X scope N' E C s2 H2 fp) ifs tst)
    (he : ∀ C s2 H2 fp, PE (compX X scope N' E C s2 H2 fp) elt te)
    (hsw : swapsWith (.ListComp elt [⟨tg, iter, ifs, 0⟩] scope cpos) (some (.Name x pos')) pos.line X.env = pure true := by rfl) (hs : ∀ x, foldedSetIterable iter X.env x = pure x := by intro _; rfl) :
    PS X (.Assign [.Name x pos'] (.ListComp elt [⟨tg, iter, ifs, 0⟩] scope cpos) pos) (tAsg (tComp wi cap g tst te) (gName i)) := by
  intro pins s σ H D I h
  rw [exec_Assign_Name_used _ _ _ _ hsw]
  refine wpAny_bind (wpAny_standAt (wpAny_bind ?_))
  show wpAny (model X.prog X.w) X.A (do let _ ← comprehension (.ListComp elt [⟨tg, iter, ifs, 0⟩] scope cpos) scope X.env _ (newList []) false (eval iter X.env) (some (assign (.Name x pos') X.env))) _ _ s
  refine wpAny_bind (thn (wpAny_comprehension_free (use := some (assign (.Name x pos') X.env)) (Q := fun _ s' => SP X pins D .next s') rfl hs (closure_eq (I.cellOf S)) S.kind S.names
    (thn (comp_coreE (Q := fun v H1 => gName i v σ H1 D.nx) hc hst hfr S hi hg ht he I h) fun xv s1 h1 => thn h1 fun it s2 h2 => thn h2 fun acc s3 h3 => thn h3 fun cenv s4 h4 => codeAny_mono h4 fun r s5 h5 => ?_)) fun _ s' hq => wpAny_pure (wpAny_pure hq))
  cases r with
  | error e =>
    obtain ⟨ea, T, cls, fl, od, sl, vs, H', m, rfl, I', ex, hv1, hTe, hv2, tb, fE, fT, fC, le, lT, nEC, nTC, hn, qE⟩ := h5
    refine ⟨m, hn, fun h' sb cenv' ec => ?_⟩
    have ex' : Xc.Exc h' ea cls od sl vs := ⟨sb.extBut _ _ nEC ex.obj, ex.big⟩
    have tb' : Xc.Tb h' T fl := by
      obtain ⟨oT, ts, e1, e2, e3⟩ := tb.ex
      exact ⟨⟨oT, ts, sb.extBut _ _ nTC e1, e2, e3⟩⟩
    have I6 : Inv X pins σ H' { s5 with heap := h' } := I'.turned (t' := s5.toks) (fun b o hb e => sb.extBut b o hb e) fC.1 fC.2.1 fC.2.2.2.1 fC.2.2.2.2.1 fC.2.2.2.2.2
    unfold PySem.passOn
    refine wpAny_bind (wpAny_field ex'.obj rfl hv1 ?_)
    rw [if_neg (show ¬ ((Value.ref T == Value.none) = true) from by simp)]
    refine wpAny_bind (Xc.flight (s := { s5 with heap := h' }) ex' hv1 tb' fun h2 g1 g2 => wpAny_throw ?_)
    obtain ⟨fl', tb2⟩ := g2
    have I7 : Inv X pins σ H' { s5 with heap := h2 } := I6.turned (t' := s5.toks) (fun b o hb e => g1 b o hb e) fT.1 fT.2.1 fT.2.2.2.1 fT.2.2.2.2.1 fT.2.2.2.2.2
    exact hF pins σ H' _ ea T cls fl' od sl vs I7 ⟨g1 _ _ hTe.symm ex'.obj, ex.big⟩ hv1 hTe hv2 tb2 fE.1 fT.1 le lT qE
  | ok fl =>
    obtain ⟨p, H', m, rfl, I', F', hn, q⟩ := h5
    refine (wpAny_assign_Name (store_ok2 (v := V.ref p) I' hN hx (.inl hl) rfl (fun s6 I6 ⟨a, sb6, ha⟩ => ?_) (.inr hl)) : wpAny (model X.prog X.w) X.A (assign (.Name x pos') X.env (.ref p)) _ _ s5)
    have aC : cenv.locals ≠ a := by
      rcases ha with z | z
      · rw [z]; exact F'.2.1
      · exact fun w' => F'.2.2.2.2.1 _ _ z w'.symm
    refine ⟨m, hn.sameBut sb6 aC, fun h' sb => ⟨_, H', ?_, q⟩⟩
    exact I6.turned (t' := s6.toks) (fun b o hb e => sb.extBut b o hb e) F'.1 F'.2.1 F'.2.2.2.1 F'.2.2.2.2.1 F'.2.2.2.2.2
end
end L2
/-! Numbers in figures: the figures of a whole number, and back; words and blanks. -/
namespace Fg
def dv (cs : List Nat) : Nat := cs.foldl (fun acc c => acc * 10 + (c - 48)) 0
def dig (c : Nat) : Bool := decide (48 ≤ c) && decide (c ≤ 57)
theorem dv_snoc (cs : List Nat) (c : Nat) : dv (cs ++ [c]) = dv cs * 10 + (c - 48) := by
  unfold dv; rw [List.foldl_append]; rfl
theorem dig_iff {c : Nat} : dig c = true ↔ 48 ≤ c ∧ c ≤ 57 := by simp [dig]
theorem dv_lt : ∀ (n : Nat) (cs : List Nat), cs.length = n → cs.all dig = true → dv cs < 10 ^ n
  | 0, cs, h, _ => by rw [List.length_eq_zero_iff.mp h]; decide
  | n + 1, cs, h, a => by
    have hne : cs ≠ [] := fun z => by rw [z] at h; cases h
    have hd : cs.dropLast ++ [cs.getLast hne] = cs := List.dropLast_concat_getLast hne
    have a' : cs.dropLast.all dig = true ∧ dig (cs.getLast hne) = true := by
      rw [← hd, List.all_append, Bool.and_eq_true] at a
      simpa using a
    have i := dv_lt n cs.dropLast (by rw [List.length_dropLast]; omega) a'.1
    have d := dig_iff.mp a'.2
    have e : dv cs = dv cs.dropLast * 10 + (cs.getLast hne - 48) := by
      conv => lhs; rw [← hd]
      rw [dv_snoc]
    rw [e, Nat.pow_succ]
    omega
/-- figures without a needless nought are the figures of their number -/
theorem back : ∀ (n : Nat) (cs : List Nat), cs.length = n + 1 → cs.all dig = true → (cs.head? ≠ some 48 ∨ cs = [48]) → (Nat.toDigits 10 (dv cs)).map Char.toNat = cs
  | 0, cs, h, a, _ => by
    match cs, h with
    | [c], _ =>
      have d := dig_iff.mp (show dig c = true by simpa using a)
      have e : dv [c] = c - 48 := by show 0 * 10 + (c - 48) = _; omega
      rw [e, Nat.toDigits_of_lt_base (by omega)]
      show [(Nat.digitChar (c - 48)).toNat] = [c]
      rw [Nat.toNat_digitChar_of_lt_ten (by omega), show 48 + (c - 48) = c by omega]
  | n + 1, cs, h, a, z => by
    have hne : cs ≠ [] := fun y => by rw [y] at h; cases h
    have z : cs.head? ≠ some 48 := z.elim id fun y => by rw [y] at h; cases h
    have hd : cs.dropLast ++ [cs.getLast hne] = cs := List.dropLast_concat_getLast hne
    have hl : cs.dropLast.length = n + 1 := by rw [List.length_dropLast]; omega
    have hh : cs.dropLast.head? = cs.head? := by
      match cs, h with
      | x :: y :: r, _ => rfl
    have a' : cs.dropLast.all dig = true ∧ dig (cs.getLast hne) = true := by
      rw [← hd, List.all_append, Bool.and_eq_true] at a
      simpa using a
    have d := dig_iff.mp a'.2
    have i := back n cs.dropLast hl a'.1 (.inl (by rw [hh]; exact z))
    have pos : 0 < dv cs.dropLast := by
      rcases Nat.eq_zero_or_pos (dv cs.dropLast) with e | e
      · rw [e] at i
        exact absurd (show cs.dropLast.head? = some 48 by rw [← i]; rfl) (by rw [hh]; exact z)
      · exact e
    have t := Nat.toDigits_append_toDigits (b := 10) (n := dv cs.dropLast) (d := cs.getLast hne - 48) (by decide) pos (by omega)
    have e : dv cs = 10 * dv cs.dropLast + (cs.getLast hne - 48) := by
      conv => lhs; rw [← hd]
      rw [dv_snoc, Nat.mul_comm]
    rw [e, ← t, List.map_append, i, Nat.toDigits_of_lt_base (by omega)]
    show cs.dropLast ++ [(Nat.digitChar (cs.getLast hne - 48)).toNat] = cs
    rw [Nat.toNat_digitChar_of_lt_ten (by omega), show 48 + (cs.getLast hne - 48) = cs.getLast hne by omega, hd]
/-! ### a word -/
def fig : List Nat → List Nat
  | 45 :: r => r
  | l => l
def ok (l : List Nat) : Bool := decide (1 ≤ (fig l).length) && decide ((fig l).length ≤ 6) && (fig l).all dig && !((fig l).head? == some 48 && l != [48])
def val : List Nat → Int
  | 45 :: r => -(dv r : Int)
  | l => (dv l : Int)
/-- the signs of a whole number -/
def sg : Int → List Nat
  | .ofNat m => (Nat.toDigits 10 m).map Char.toNat
  | .negSucc m => 45 :: (Nat.toDigits 10 (m + 1)).map Char.toNat
theorem ok_iff {l : List Nat} : ok l = true ↔ 1 ≤ (fig l).length ∧ (fig l).length ≤ 6 ∧ (fig l).all dig = true ∧ ((fig l).head? ≠ some 48 ∨ l = [48]) := by
  unfold ok
  simp only [Bool.and_eq_true, decide_eq_true_eq, Bool.not_eq_true', Bool.and_eq_false_iff, beq_eq_false_iff_ne, bne_eq_false_iff_eq, and_assoc]
theorem fig_neg (r : List Nat) : fig (45 :: r) = r := rfl
theorem fig_of {l : List Nat} (h : l.head? ≠ some 45) : fig l = l := by
  match l with
  | [] => rfl
  | c :: r =>
    unfold fig
    split
    · rename_i z; cases z; exact absurd rfl h
    · rfl
theorem val_of {l : List Nat} (h : l.head? ≠ some 45) : val l = dv l := by
  match l with
  | [] => rfl
  | c :: r =>
    unfold val
    split
    · rename_i z; cases z; exact absurd rfl h
    · rfl
theorem neg_or (l : List Nat) : (∃ r, l = 45 :: r) ∨ l.head? ≠ some 45 := by
  match l with
  | [] => exact .inr (by simp)
  | c :: r =>
    by_cases h : c = 45
    · exact .inl ⟨r, by rw [h]⟩
    · exact .inr (by simpa using h)
theorem sg_val {l : List Nat} (h : ok l = true) : sg (val l) = l := by
  obtain ⟨h1, h2, h3, h4⟩ := ok_iff.mp h
  rcases neg_or l with ⟨r, rfl⟩ | hn
  · rw [fig_neg] at h1 h2 h3 h4
    have h4 : r.head? ≠ some 48 := h4.elim id fun z => by cases z
    have b := back (r.length - 1) r (by omega) h3 (.inl h4)
    have pos : dv r ≠ 0 := fun e => by
      rw [e] at b
      exact h4 (by rw [← b]; rfl)
    obtain ⟨m, hm⟩ : ∃ m, dv r = m + 1 := ⟨dv r - 1, by omega⟩
    show sg (-(dv r : Int)) = _
    rw [hm, show -((m + 1 : Nat) : Int) = Int.negSucc m from rfl]
    show 45 :: (Nat.toDigits 10 (m + 1)).map Char.toNat = _
    rw [← hm, b]
  · rw [fig_of hn] at h1 h2 h3 h4
    rw [val_of hn]
    exact back (l.length - 1) l (by omega) h3 h4
theorem val_le {l : List Nat} (h : ok l = true) : -999999 ≤ val l ∧ val l ≤ 999999 := by
  obtain ⟨h1, h2, h3, h4⟩ := ok_iff.mp h
  have b := dv_lt _ (fig l) rfl h3
  have c : 10 ^ (fig l).length ≤ 10 ^ 6 := Nat.pow_le_pow_right (by decide) h2
  have d : (10 : Nat) ^ 6 = 1000000 := rfl
  rcases neg_or l with ⟨r, rfl⟩ | hn
  · rw [fig_neg] at b c
    show -999999 ≤ -(dv r : Int) ∧ -(dv r : Int) ≤ 999999
    omega
  · rw [fig_of hn] at b c
    rw [val_of hn]
    omega
theorem dv_digits (m : Nat) : dv ((Nat.toDigits 10 m).map Char.toNat) = m := by
  induction m using Nat.strongRecOn with
  | _ m ih =>
    by_cases h : m < 10
    · rw [Nat.toDigits_of_lt_base h]
      show 0 * 10 + ((Nat.digitChar m).toNat - 48) = m
      rw [Nat.toNat_digitChar_of_lt_ten h]
      omega
    · have hm : m % 10 < 10 := Nat.mod_lt m (by decide)
      have t : Nat.toDigits 10 (m / 10) ++ Nat.toDigits 10 (m % 10) = Nat.toDigits 10 (10 * (m / 10) + m % 10) := Nat.toDigits_append_toDigits (by decide) (by omega) hm
      rw [Nat.div_add_mod] at t
      rw [← t, List.map_append, Nat.toDigits_of_lt_base hm]
      show dv ((Nat.toDigits 10 (m / 10)).map Char.toNat ++ [(Nat.digitChar (m % 10)).toNat]) = m
      rw [dv_snoc, ih (m / 10) (by omega), Nat.toNat_digitChar_of_lt_ten hm]
      omega
theorem sg_digit {m c : Nat} (h : c ∈ (Nat.toDigits 10 m).map Char.toNat) : 48 ≤ c ∧ c ≤ 57 := by
  obtain ⟨ch, hc, rfl⟩ := List.mem_map.mp h
  have := Nat.isDigit_of_mem_toDigits (by decide) (by decide) hc
  simp only [Char.isDigit, Bool.and_eq_true, decide_eq_true_eq, ge_iff_le, UInt32.le_iff_toNat_le] at this
  exact this
theorem sg_free {n : Int} : 32 ∉ sg n := by
  intro h
  match n, h with
  | .ofNat m, h => have := sg_digit h; omega
  | .negSucc m, h =>
    rcases List.mem_cons.mp h with e | e
    · cases e
    · have := sg_digit e; omega
theorem val_sg (n : Int) : val (sg n) = n := by
  match n with
  | .ofNat m =>
    have hn : (sg (.ofNat m)).head? ≠ some 45 := fun z => by
      have := sg_digit (m := m) (List.mem_of_mem_head? z)
      omega
    rw [val_of hn]
    show ((dv ((Nat.toDigits 10 m).map Char.toNat) : Nat) : Int) = _
    rw [dv_digits]
    rfl
  | .negSucc m =>
    show -((dv ((Nat.toDigits 10 (m + 1)).map Char.toNat) : Nat) : Int) = _
    rw [dv_digits]
    rfl
theorem sg_far {n : Int} (h : ¬ (-999999 ≤ n ∧ n ≤ 999999)) : ok (sg n) = false := by
  cases e : ok (sg n) with
  | false => rfl
  | true =>
    have := val_le e
    rw [val_sg] at this
    exact absurd this h
/-! ### words joined by a blank -/
def jn : List (List Nat) → List Nat
  | [] => []
  | [x] => x
  | x :: r => x ++ 32 :: jn r
theorem head_eq : ∀ {x y a b : List Nat}, 32 ∉ x → 32 ∉ y → x ++ 32 :: a = y ++ 32 :: b → x = y ∧ a = b
  | [], [], a, b, _, _, h => by cases h; exact ⟨rfl, rfl⟩
  | [], d :: y, a, b, _, hy, h => by cases h; exact absurd (List.mem_cons_self ..) hy
  | c :: x, [], a, b, hx, _, h => by cases h; exact absurd (List.mem_cons_self ..) hx
  | c :: x, d :: y, a, b, hx, hy, h => by
    rw [List.cons_append, List.cons_append] at h
    injection h with e1 e2
    obtain ⟨e3, e4⟩ := head_eq (fun z => hx (List.mem_cons_of_mem _ z)) (fun z => hy (List.mem_cons_of_mem _ z)) e2
    exact ⟨by rw [e1, e3], e4⟩
theorem jn_inj : ∀ {l m : List (List Nat)}, l ≠ [] → m ≠ [] → (∀ x ∈ l, 32 ∉ x) → (∀ x ∈ m, 32 ∉ x) → jn l = jn m → l = m
  | [], _, h, _, _, _, _ => absurd rfl h
  | _, [], _, h, _, _, _ => absurd rfl h
  | [x], [y], _, _, _, _, h => by rw [show x = y from h]
  | [x], y :: z :: m, _, _, hl, _, h => by
    have h : x = y ++ 32 :: jn (z :: m) := h
    exact absurd (show 32 ∈ x by rw [h]; simp) (hl x (by simp))
  | x :: z :: l, [y], _, _, _, hm, h => by
    have h : x ++ 32 :: jn (z :: l) = y := h
    exact absurd (show 32 ∈ y by rw [← h]; simp) (hm y (by simp))
  | x :: z :: l, y :: u :: m, _, _, hl, hm, h => by
    have h : x ++ 32 :: jn (z :: l) = y ++ 32 :: jn (u :: m) := h
    obtain ⟨e1, e2⟩ := head_eq (hl x (by simp)) (hm y (by simp)) h
    rw [e1, jn_inj (l := z :: l) (m := u :: m) (by simp) (by simp) (fun t ht => hl t (List.mem_cons_of_mem _ ht)) (fun t ht => hm t (List.mem_cons_of_mem _ ht)) e2]
theorem count_jn : ∀ {l : List (List Nat)}, l ≠ [] → (∀ x ∈ l, 32 ∉ x) → (jn l).count 32 + 1 = l.length
  | [], h, _ => absurd rfl h
  | [x], _, h => by
    show x.count 32 + 1 = 1
    rw [List.count_eq_zero_of_not_mem (h x (by simp))]
  | x :: y :: r, _, h => by
    have i := count_jn (l := y :: r) (by simp) fun z hz => h z (List.mem_cons_of_mem _ hz)
    show (x ++ 32 :: jn (y :: r)).count 32 + 1 = _
    rw [List.count_append, List.count_cons_self, List.count_eq_zero_of_not_mem (h x (by simp)), List.length_cons, ← i]
    omega
theorem len_jn {k : Nat} : ∀ {l : List (List Nat)}, (∀ x ∈ l, x.length ≤ k) → (jn l).length ≤ l.length * (k + 1)
  | [], _ => Nat.zero_le _
  | [x], h => by
    have := h x (by simp)
    show x.length ≤ 1 * (k + 1)
    omega
  | x :: y :: r, h => by
    have i := len_jn (l := y :: r) fun z hz => h z (List.mem_cons_of_mem _ hz)
    have := h x (by simp)
    show (x ++ 32 :: jn (y :: r)).length ≤ _
    rw [List.length_append, List.length_cons, List.length_cons (a := x), Nat.succ_mul]
    omega
theorem sg_len {n : Int} (h : n.natAbs < 10 ^ 10) : (sg n).length ≤ 11 := by
  match n, h with
  | .ofNat m, h =>
    have h : m < 10 ^ 10 := h
    show ((Nat.toDigits 10 m).map Char.toNat).length ≤ 11
    rw [List.length_map]
    have := (Nat.length_toDigits_le_iff (b := 10) (n := m) (k := 10) (by decide) (by decide)).mpr h
    omega
  | .negSucc m, h =>
    have h : m + 1 < 10 ^ 10 := h
    show (((Nat.toDigits 10 (m + 1)).map Char.toNat).length + 1) ≤ 11
    rw [List.length_map]
    have := (Nat.length_toDigits_le_iff (b := 10) (n := m + 1) (k := 10) (by decide) (by decide)).mpr h
    omega
end Fg
/-! Texts as lists of signs. -/
namespace Fg
open PySem PySem.Builtin PySem.Builtin.Str PyProof.Rows PySem.NumText
abbrev cs (w : Str) : List Nat := w.cps.toList
theorem str_ext {x y : Str} (h : cs x = cs y) : x = y := by
  cases x; cases y
  congr 1
  exact Array.toList_inj.mp h
theorem cs_len (w : Str) : (cs w).length = w.length := Array.length_toList
theorem from_one (w : Str) : cs (Txt.slice w (some 1) none) = (cs w).drop 1 := by
  by_cases h : 1 ≤ w.length
  · rw [slice_from_eq (b := w.length) (by decide) (by omega) rfl]
    show (((cs w).drop 1).take _).toArray.toList = _
    rw [List.toList_toArray, List.take_of_length_le]
    rw [List.length_drop, cs_len]
    omega
  · rw [slice_beyond (by omega)]
    have : (cs w).length = 0 := by rw [cs_len]; omega
    rw [List.length_eq_zero_iff.mp this]
    rfl
theorem to_n (w : Str) {n : Nat} (h : n ≤ w.length) : cs (Txt.slice w none (some (n : Int))) = (cs w).take n := by
  have e := eq_of_beq (slice_closes_toL (x := w) (j := (n : Int)) (by omega) (by omega))
  rw [e]
  show (((cs w).drop 0).take _).toArray.toList = _
  rw [List.toList_toArray]
  congr 1
theorem starts_one (w : Str) (c : Nat) : Txt.startswith w ⟨#[c]⟩ = decide ((cs w).head? = some c) := by
  have e := StrLaws.subAt_one w c 0
  rw [Bool.eq_iff_iff, decide_eq_true_eq]
  show ((decide (0 + (⟨#[c]⟩ : Str).length ≤ w.length) && subAt w ⟨#[c]⟩ 0) = true) ↔ _
  rw [Bool.and_eq_true, decide_eq_true_eq, e, List.head?_eq_getElem?]
theorem fig_cs (w : Str) : cs (if Txt.startswith w ⟨#[45]⟩ = true then Txt.slice w (some 1) none else w) = fig (cs w) := by
  rw [starts_one]
  rcases neg_or (cs w) with ⟨r, e⟩ | hn
  · rw [if_pos (by rw [e]; exact decide_eq_true rfl), from_one, e]; rfl
  · rw [if_neg (by simpa using hn), fig_of hn]
theorem first_one (w : Str) : (Txt.slice w none (some 1) = ⟨#[45]⟩) ↔ (cs w).head? = some 45 := by
  by_cases h : 1 ≤ w.length
  · have e := to_n w (n := 1) h
    constructor
    · intro z
      have z' : cs (Txt.slice w none (some ((1 : Nat) : Int))) = [45] := by rw [show ((1 : Nat) : Int) = 1 from rfl, z]
      rw [e] at z'
      cases hc : cs w with
      | nil => rw [hc] at z'; cases z'
      | cons a r => rw [hc] at z'; cases z'; rfl
    · intro z
      refine str_ext ?_
      show cs (Txt.slice w none (some ((1 : Nat) : Int))) = [45]
      rw [e]
      cases hc : cs w with
      | nil => rw [hc] at z; cases z
      | cons a r => rw [hc] at z; cases z; rfl
  · have h0 : cs w = [] := List.length_eq_zero_iff.mp (by rw [cs_len]; omega)
    have hl := Txt.slice_le w none (some 1)
    constructor
    · intro z
      rw [z] at hl
      exact absurd hl (show ¬ 1 ≤ w.length from h)
    · intro z
      rw [h0] at z
      cases z
theorem int_of {w : Str} (h : ok (cs w) = true) : intText? w = some (val (cs w)) := by
  obtain ⟨h1, h2, h3, h4⟩ := ok_iff.mp h
  have hd : AllDigits (fig (cs w)) := fun c hc => dig_iff.mp (List.all_eq_true.mp h3 c hc)
  have hne : fig (cs w) ≠ [] := fun z => by rw [z] at h1; cases h1
  rcases neg_or (cs w) with ⟨r, e⟩ | hn
  · rw [e, fig_neg] at hd hne h2
    have hl : w.length ≤ 4300 := by rw [← cs_len, e, List.length_cons]; omega
    rw [e]
    exact intText_neg e hd hne hl
  · rw [fig_of hn] at hd hne h2
    have hl : w.length ≤ 4300 := by rw [← cs_len]; omega
    rw [val_of hn]
    exact intText_digits hd hne hl
theorem cs_str (n : Int) : cs (Str.ofString (toString n)) = sg n := by
  match n with
  | .ofNat m =>
    show (Str.ofString (Nat.repr m)).cps.toList = _
    rw [Str.ofString_eq_toList, List.toList_toArray, Nat.toList_repr]
    rfl
  | .negSucc m =>
    show (Str.ofString ("-" ++ toString (m + 1))).cps.toList = _
    rw [Str.ofString_eq_toList, List.toList_toArray, String.toList_append, List.map_append]
    show 45 :: ((Nat.repr (m + 1)).toList.map Char.toNat) = _
    rw [Nat.toList_repr]
    rfl
theorem cs_join : ∀ ws : List Str, cs (Str.join ⟨#[32]⟩ ws) = jn (ws.map cs)
  | [] => rfl
  | [x] => rfl
  | x :: y :: r => by
    show (x.cps ++ #[32] ++ (Str.join ⟨#[32]⟩ (y :: r)).cps).toList = cs x ++ 32 :: jn ((y :: r).map cs)
    rw [← cs_join (y :: r)]
    simp
theorem split_join {ws : List Str} (h : ws ≠ []) (hf : ∀ x ∈ ws, 32 ∉ cs x) : Txt.split (Str.join ⟨#[32]⟩ ws) ⟨#[32]⟩ = ws := by
  have e := StrLaws.join_split (Str.join ⟨#[32]⟩ ws) ⟨#[32]⟩
  have e' := congrArg cs e
  rw [cs_join, cs_join] at e'
  have hs := split_pos (Str.join ⟨#[32]⟩ ws) ⟨#[32]⟩
  have q := jn_inj (l := (Txt.split (Str.join ⟨#[32]⟩ ws) ⟨#[32]⟩).map cs) (m := ws.map cs) (fun z => by rw [List.map_eq_nil_iff.mp z] at hs; cases hs) (fun z => h (List.map_eq_nil_iff.mp z))
    (fun x hx => by obtain ⟨y, hy, rfl⟩ := List.mem_map.mp hx; exact StrLaws.split_free _ _ y hy) (fun x hx => by obtain ⟨y, hy, rfl⟩ := List.mem_map.mp hx; exact hf y hy) e'
  exact (List.map_inj_right (fun _ _ z => str_ext z)).mp q
end Fg
/-! What a text says: its wagons, or nothing. -/
namespace Fg
open PySem PySem.Builtin PySem.Builtin.Str PyProof.Rows PySem.NumText
abbrev bk : Str := ⟨#[32]⟩
abbrev words (t : Str) : List Str := Txt.split t bk
def inT (t : Str) : Option (List Int) := if t = ⟨#[]⟩ then some [] else
  if (words t).all (fun w => ok (cs w)) = true ∧ ((words t).map fun w => val (cs w)).Nodup then some ((words t).map fun w => val (cs w)) else none
def wr (ns : List Int) : Str := Str.join bk (ns.map fun n => Str.ofString (toString n))
theorem inT_some {t : Str} {ns : List Int} (h : inT t = some ns) : wr ns = t ∧ ns.Nodup ∧ ∀ n ∈ ns, -999999 ≤ n ∧ n ≤ 999999 := by
  unfold inT at h
  split at h
  · rename_i e
    cases h
    exact ⟨e.symm, List.nodup_nil, fun n hn => by cases hn⟩
  · split at h
    · rename_i q
      cases h
      have qa := List.all_eq_true.mp q.1
      refine ⟨?_, q.2, fun n hn => ?_⟩
      · unfold wr
        rw [List.map_map]
        have : (words t).map ((fun n => Str.ofString (toString n)) ∘ fun w => val (cs w)) = words t := by
          conv => rhs; rw [← List.map_id (words t)]
          refine List.map_congr_left fun w hw => ?_
          exact str_ext (by show cs (Str.ofString (toString (val (cs w)))) = cs w; rw [cs_str, sg_val (qa w hw)])
        rw [this]
        exact StrLaws.join_split t bk
      · obtain ⟨w, hw, rfl⟩ := List.mem_map.mp hn
        exact val_le (qa w hw)
    · cases h
theorem inT_far {ns : List Int} {n : Int} (hn : n ∈ ns) (h : ¬ (-999999 ≤ n ∧ n ≤ 999999)) : inT (wr ns) = none := by
  have hne : ns.map (fun n => Str.ofString (toString n)) ≠ [] := fun z => by rw [List.map_eq_nil_iff.mp z] at hn; cases hn
  have hs : words (wr ns) = ns.map fun n => Str.ofString (toString n) := split_join hne fun x hx => by
    obtain ⟨m, _, rfl⟩ := List.mem_map.mp hx
    rw [cs_str]
    exact sg_free
  have hw : Str.ofString (toString n) ∈ words (wr ns) := by rw [hs]; exact List.mem_map.mpr ⟨n, hn, rfl⟩
  have hb : ok (cs (Str.ofString (toString n))) = false := by rw [cs_str]; exact sg_far h
  unfold inT
  split
  · rename_i e
    have e2 : words (wr ns) = [⟨#[]⟩] := by rw [e]; rfl
    rw [e2] at hw
    have e3 : Str.ofString (toString n) = ⟨#[]⟩ := by simpa using hw
    have e4 := cs_str n
    rw [e3] at e4
    have e5 := val_sg n
    rw [← e4] at e5
    have e6 : (0 : Int) = n := e5
    exact absurd ⟨by omega, by omega⟩ h
  · rw [if_neg]
    rintro ⟨q, _⟩
    rw [List.all_eq_true.mp q _ hw] at hb
    cases hb
theorem words_len (t : Str) : (words t).length = (cs t).count 32 + 1 := by
  have e := congrArg cs (StrLaws.join_split t bk)
  rw [cs_join] at e
  have hs := split_pos t bk
  have q := count_jn (l := (Txt.split t bk).map cs) (fun z => by rw [List.map_eq_nil_iff.mp z] at hs; cases hs) (fun x hx => by obtain ⟨y, hy, rfl⟩ := List.mem_map.mp hx; exact StrLaws.split_free _ _ y hy)
  rw [e, List.length_map] at q
  exact q.symm
theorem wr_cs (ns : List Int) : cs (wr ns) = jn (ns.map sg) := by
  unfold wr
  rw [cs_join, List.map_map]
  congr 1
  exact List.map_congr_left fun n _ => cs_str n
theorem wr_count (ns : List Int) : (cs (wr ns)).count 32 ≤ ns.length - 1 := by
  rw [wr_cs]
  cases ns with
  | nil => exact Nat.zero_le _
  | cons a r =>
    have := count_jn (l := (a :: r).map sg) (by simp) fun x hx => by
      obtain ⟨m, _, rfl⟩ := List.mem_map.mp hx
      exact sg_free
    rw [List.length_map] at this
    omega
theorem wr_len {ns : List Int} (h : ∀ n ∈ ns, n.natAbs < 10 ^ 10) : (wr ns).length ≤ ns.length * 12 := by
  rw [← cs_len, wr_cs]
  have := len_jn (k := 11) (l := ns.map sg) fun x hx => by
    obtain ⟨m, hm, rfl⟩ := List.mem_map.mp hx
    exact sg_len (h m hm)
  rw [List.length_map] at this
  exact this
theorem str_len {n : Int} (h : n.natAbs < 10 ^ 10) : (Str.ofString (toString n)).length ≤ 11 := by
  rw [← cs_len, cs_str]
  exact sg_len h
theorem strs_sum {ns : List Int} (h : ∀ n ∈ ns, n.natAbs < 10 ^ 10) : ((ns.map fun n => Str.ofString (toString n)).map (·.length)).sum ≤ ns.length * 11 := by
  induction ns with
  | nil => exact Nat.le_refl _
  | cons a r ih =>
    have := str_len (h a (by simp))
    have := ih fun n hn => h n (List.mem_cons_of_mem _ hn)
    simp only [List.map_cons, List.sum_cons, List.length_cons] at *
    omega
theorem join_wr (ns : List Int) : Txt.join bk (ns.map fun n => Str.ofString (toString n)) = wr ns := by
  show glued _ _ = _
  rw [StrLaws.glued_eq_join]; rfl
end Fg
namespace Fg
open PySem PySem.Builtin PySem.Builtin.Str PyProof.Rows PySem.NumText
theorem jn_mem {x : List Nat} : ∀ {l : List (List Nat)}, x ∈ l → x.length ≤ (jn l).length
  | [], h => by cases h
  | [y], h => by rw [List.mem_singleton.mp h]; exact Nat.le_refl _
  | y :: z :: r, h => by
    show _ ≤ (y ++ 32 :: jn (z :: r)).length
    rw [List.length_append, List.length_cons]
    rcases List.mem_cons.mp h with e | e
    · rw [e]; omega
    · have := jn_mem e
      omega
theorem word_len {t x : Str} (h : x ∈ words t) : x.length ≤ t.length := by
  have e := congrArg cs (StrLaws.join_split t bk)
  rw [cs_join] at e
  rw [← cs_len x, ← cs_len t, ← e]
  exact jn_mem (List.mem_map.mpr ⟨x, h, rfl⟩)
theorem log_small {n : Nat} (h : n < 10 ^ 10) : n.log2 < 64 := by
  by_cases z : n = 0
  · rw [z]; decide
  · exact (Nat.log2_lt z).mpr (Nat.lt_trans h (by decide))
end Fg
namespace Fg
open PySem PySem.Builtin PySem.Builtin.Str PyProof.Rows PySem.NumText
theorem inT_len {t : Str} {ns : List Int} (h : inT t = some ns) : ns.length ≤ (cs t).count 32 + 1 := by
  unfold inT at h
  split at h
  · cases h
    exact Nat.zero_le _
  · split at h
    · cases h
      rw [List.length_map, words_len]
      exact Nat.le_refl _
    · cases h
end Fg
namespace Fg
open PySem PySem.Builtin PySem.Builtin.Str PyProof.Rows PySem.NumText
theorem from_n (w : Str) (n : Nat) : cs (Txt.slice w (some (n : Int)) none) = (cs w).drop n := by
  by_cases h : n ≤ w.length
  · rw [slice_from_eq (b := w.length) (by omega) (by omega) rfl]
    show (((cs w).drop ((n : Int).toNat)).take _).toArray.toList = _
    rw [List.toList_toArray, Int.toNat_natCast, List.take_of_length_le]
    rw [List.length_drop, cs_len]
    omega
  · rw [slice_beyond (by omega), List.drop_eq_nil_of_le (by rw [cs_len]; omega)]
    rfl
theorem cs_app (a b : Str) : cs (a ++ b) = cs a ++ cs b := by
  show (a.cps ++ b.cps).toList = _
  rw [Array.toList_append]
/-- a text with a sign put in, taken out or put in place of another: few words, and short -/
theorem spoilt {part sg : Str} {i j : Nat} (hp : part.length ≤ 36) (hc : (cs part).count 32 ≤ 2) (hs : sg.length ≤ 1) (hi : i ≤ part.length) :
    (Txt.slice part none (some (i : Int)) ++ sg ++ Txt.slice part (some (j : Int)) none).length ≤ 9000 ∧ (cs (Txt.slice part none (some (i : Int)) ++ sg ++ Txt.slice part (some (j : Int)) none)).count 32 < 63 := by
  have e : cs (Txt.slice part none (some (i : Int)) ++ sg ++ Txt.slice part (some (j : Int)) none) = (cs part).take i ++ cs sg ++ (cs part).drop j := by
    rw [cs_app, cs_app, to_n part hi, from_n]
  have c1 := (List.take_sublist i (cs part)).count_le 32
  have c2 := (List.drop_sublist j (cs part)).count_le 32
  have c3 := List.count_le_length (a := 32) (l := cs sg)
  have l1 := (List.take_sublist i (cs part)).length_le
  have l2 := (List.drop_sublist j (cs part)).length_le
  have hsl := cs_len sg
  have hpl := cs_len part
  refine ⟨?_, ?_⟩
  · rw [← cs_len, e, List.length_append, List.length_append]
    omega
  · rw [e, List.count_append, List.count_append]
    omega
end Fg
namespace My
open PySem L2
def top (i : Nat) : Stmt := PySem.Challenge.pw_sidings_k09_texts.main.body.getD i (.Pass ⟨0, 0, 0, 0⟩)
abbrev s_Stuck_init : Stmt := inClass (top 5) 0
abbrev s_is_number : Stmt := top 8
abbrev s_checked_train : Stmt := top 9
abbrev s_has_two_alike : Stmt := top 10
abbrev s_checked_text : Stmt := top 11
abbrev s_written : Stmt := top 16
abbrev s_read : Stmt := top 17
abbrev s_read_wagon : Stmt := top 18
abbrev s__law_inserted : Stmt := top 20
abbrev s__law_great : Stmt := top 21
abbrev s__law_number : Stmt := top 22
abbrev s__law_in : Stmt := top 23
abbrev s__law_refused : Stmt := top 24
abbrev s__law_read : Stmt := top 25
abbrev s__law_written : Stmt := top 26
abbrev s__law_right : Stmt := top 27
abbrev s__law_few : Stmt := top 28
abbrev s_law : Stmt := top 29
/-- the addresses that the text's names have -/
structure Adr where
  cYardError : Addr
  cBadTrain : Addr
  cBadYard : Addr
  cBadMoves : Addr
  cStuck : Addr
  cBadText : Addr
/-- the text's facts -/
structure Tx (K : PySem.W.Frag) (mg : Str → Option Value) (Z : Adr) : Prop where
  n_abs : mg "abs" = none
  n_all : mg "all" = none
  n_any : mg "any" = none
  n_bool : mg "bool" = none
  n_int : mg "int" = none
  n_isinstance : mg "isinstance" = none
  n_len : mg "len" = none
  n_list : mg "list" = none
  n_range : mg "range" = none
  n_set : mg "set" = none
  n_sorted : mg "sorted" = none
  n_str : mg "str" = none
  n_sum : mg "sum" = none
  n_zip : mg "zip" = none
  is_number : FnT K mg "is_number" s_is_number ["value"]
  checked_train : FnT K mg "checked_train" s_checked_train ["train"]
  has_two_alike : FnT K mg "has_two_alike" s_has_two_alike ["wagons"]
  checked_text : FnT K mg "checked_text" s_checked_text ["text"]
  written : FnT K mg "written" s_written ["train"]
  read : FnT K mg "read" s_read ["text"]
  read_wagon : FnT K mg "read_wagon" s_read_wagon ["word"]
  _law_inserted : FnT K mg "_law_inserted" s__law_inserted ["_law_script"]
  _law_great : FnT K mg "_law_great" s__law_great ["_law_script"]
  _law_number : FnT K mg "_law_number" s__law_number ["_law_word"]
  _law_in : FnT K mg "_law_in" s__law_in ["_law_text"]
  _law_refused : FnT K mg "_law_refused" s__law_refused ["_law_ask", "_law_thing", "_law_due"]
  _law_read : FnT K mg "_law_read" s__law_read ["_law_text"]
  _law_written : FnT K mg "_law_written" s__law_written ["_law_train"]
  _law_right : FnT K mg "_law_right" s__law_right ["_law_text"]
  _law_few : FnT K mg "_law_few" s__law_few []
  c_YardError : mg "YardError" = some (.ref Z.cYardError)
  c_BadTrain : mg "BadTrain" = some (.ref Z.cBadTrain)
  c_BadYard : mg "BadYard" = some (.ref Z.cBadYard)
  c_BadMoves : mg "BadMoves" = some (.ref Z.cBadMoves)
  c_Stuck : mg "Stuck" = some (.ref Z.cStuck)
  c_BadText : mg "BadText" = some (.ref Z.cBadText)
  xc_BadText : Xc.XC K Z.cBadText
  xc_BadTrain : Xc.XC K Z.cBadTrain
  xc_YardError : Xc.XC K Z.cYardError
  xty_YardError : PySem.W.typeIn K (.ref Z.cYardError) = some (.type "type")
  x0_BadText : X0 K Z.cBadText
  kit_BadText_BadTrain : PySem.W.kitOne K (.ref Z.cBadText) (.ref Z.cBadTrain) = some false
  kit_BadText_BadYard : PySem.W.kitOne K (.ref Z.cBadText) (.ref Z.cBadYard) = some false
  kit_BadText_BadMoves : PySem.W.kitOne K (.ref Z.cBadText) (.ref Z.cBadMoves) = some false
  kit_BadText_Stuck : PySem.W.kitOne K (.ref Z.cBadText) (.ref Z.cStuck) = some false
  mro_BadText_YardError : PySem.W.mroIn K Z.cBadText (.ref Z.cYardError) = some true
  x0_BadTrain : X0 K Z.cBadTrain
  kit_BadTrain_BadYard : PySem.W.kitOne K (.ref Z.cBadTrain) (.ref Z.cBadYard) = some false
  kit_BadTrain_BadMoves : PySem.W.kitOne K (.ref Z.cBadTrain) (.ref Z.cBadMoves) = some false
  kit_BadTrain_Stuck : PySem.W.kitOne K (.ref Z.cBadTrain) (.ref Z.cStuck) = some false
  kit_BadTrain_BadText : PySem.W.kitOne K (.ref Z.cBadTrain) (.ref Z.cBadText) = some false
  mro_BadTrain_YardError : PySem.W.mroIn K Z.cBadTrain (.ref Z.cYardError) = some true
  g_MOST : ∃ t, mg "MOST" = some (.int 999999 t)
  g_MOST_FIGURES : ∃ t, mg "MOST_FIGURES" = some (.int 6 t)
  g_FIGURES : ∃ t, mg "FIGURES" = some (.str "0123456789" t)
end My
namespace My
open PySem L2
def FF (K : PySem.W.Frag) (f : Addr) (x q : Str) (st : Stmt) : Prop := ∃ fd, Fun K x q st f fd ∧ PySem.W.keepIn K (.ref f) = true
theorem FF.f {K : PySem.W.Frag} {f : Addr} {x q : Str} {st : Stmt} (h : FF K f x q st) : Fun K x q st f h.choose := h.choose_spec.1
theorem FF.k {K : PySem.W.Frag} {f : Addr} {x q : Str} {st : Stmt} (h : FF K f x q st) : PySem.W.keepIn K (.ref f) = true := h.choose_spec.2
theorem FF.of {K : PySem.W.Frag} {x q : Str} {st : Stmt} {f : Addr} {oc : Value} {od an : Option Addr} {osl : Array (Option Value)} {kV doc pm cdv ct : Value} (l : K.lookup f = some ⟨oc, od, .func (PySem.W.fnOf x q (defArgs st) (defBody st) (defScope st) .none kV doc pm an cdv ct), osl⟩)
    (c : PySem.W.codeIn K cdv q = true) (k : PySem.W.keepIn K (.ref f) = true) : FF K f x q st := ⟨_, fun_mk l c k, k⟩
def sp_law (K : PySem.W.Frag) : Sp := fun vs H Q _ => ∃ (a : Addr) (ns : List Int), vs = [.ref a] ∧ SqL K H a (ns.map V.int) ∧ ns.length ≤ 63 ∧ ∀ H', Q (.bl true) H'
abbrev OkL (l : PySem.W.OpenLaw) : Prop := ∀ {w : World} {K : PySem.W.Frag} {mg : Str → Option Value} {base : Heap} {Z : Adr} {f : Addr} {fd : FuncData}, Tx K mg Z → Fun K "law" "law" s_law f fd → FnOk l.prog w K mg base CX0 11 f fd ["_law_script"] (sp_law K)
theorem all_mk {l : PySem.W.OpenLaw} {w : World} {K : PySem.W.Frag} {h : Heap} {mg : Str → Option Value} {fa : Addr} (ok : OkL l) (X : K.In h) (G : h.Ns mainGlobals mg) (hfa : mg "law" = some (.ref fa))
    {f0 : Addr}
    {f1 : Addr}
    {f2 : Addr}
    {f3 : Addr}
    {f4 : Addr}
    {f5 : Addr}
    {f6 : Addr}
    {f7 : Addr}
    {f8 : Addr}
    {f9 : Addr}
    {f10 : Addr}
    {f11 : Addr}
    {f12 : Addr}
    {f13 : Addr}
    {f14 : Addr}
    {f15 : Addr}
    {f16 : Addr} {od16 an16 : Option Addr} {sl16 : Array (Option Value)} {oc16 kV16 dc16 pm16 cd16 ct16 : Value}
    {CYardError : Addr}
    {CBadTrain : Addr}
    {CBadYard : Addr}
    {CBadMoves : Addr}
    {CStuck : Addr}
    {CBadText : Addr}
    {tMOST : Tok}
    {tMOST_FIGURES : Tok}
    {tFIGURES : Tok}
    (n_abs : PySem.W.nsIn K mainGlobals "abs" = some none)
    (n_all : PySem.W.nsIn K mainGlobals "all" = some none)
    (n_any : PySem.W.nsIn K mainGlobals "any" = some none)
    (n_bool : PySem.W.nsIn K mainGlobals "bool" = some none)
    (n_int : PySem.W.nsIn K mainGlobals "int" = some none)
    (n_isinstance : PySem.W.nsIn K mainGlobals "isinstance" = some none)
    (n_len : PySem.W.nsIn K mainGlobals "len" = some none)
    (n_list : PySem.W.nsIn K mainGlobals "list" = some none)
    (n_range : PySem.W.nsIn K mainGlobals "range" = some none)
    (n_set : PySem.W.nsIn K mainGlobals "set" = some none)
    (n_sorted : PySem.W.nsIn K mainGlobals "sorted" = some none)
    (n_str : PySem.W.nsIn K mainGlobals "str" = some none)
    (n_sum : PySem.W.nsIn K mainGlobals "sum" = some none)
    (n_zip : PySem.W.nsIn K mainGlobals "zip" = some none)
    (a0 : PySem.W.nsIn K mainGlobals "is_number" = some (some (.ref f0)))
    (a1 : PySem.W.nsIn K mainGlobals "checked_train" = some (some (.ref f1)))
    (a2 : PySem.W.nsIn K mainGlobals "has_two_alike" = some (some (.ref f2)))
    (a3 : PySem.W.nsIn K mainGlobals "checked_text" = some (some (.ref f3)))
    (a4 : PySem.W.nsIn K mainGlobals "written" = some (some (.ref f4)))
    (a5 : PySem.W.nsIn K mainGlobals "read" = some (some (.ref f5)))
    (a6 : PySem.W.nsIn K mainGlobals "read_wagon" = some (some (.ref f6)))
    (a7 : PySem.W.nsIn K mainGlobals "_law_inserted" = some (some (.ref f7)))
    (a8 : PySem.W.nsIn K mainGlobals "_law_great" = some (some (.ref f8)))
    (a9 : PySem.W.nsIn K mainGlobals "_law_number" = some (some (.ref f9)))
    (a10 : PySem.W.nsIn K mainGlobals "_law_in" = some (some (.ref f10)))
    (a11 : PySem.W.nsIn K mainGlobals "_law_refused" = some (some (.ref f11)))
    (a12 : PySem.W.nsIn K mainGlobals "_law_read" = some (some (.ref f12)))
    (a13 : PySem.W.nsIn K mainGlobals "_law_written" = some (some (.ref f13)))
    (a14 : PySem.W.nsIn K mainGlobals "_law_right" = some (some (.ref f14)))
    (a15 : PySem.W.nsIn K mainGlobals "_law_few" = some (some (.ref f15)))
    (a16 : PySem.W.nsIn K mainGlobals "law" = some (some (.ref f16)))
    (l16 : K.lookup f16 = some ⟨oc16, od16, .func (PySem.W.fnOf "law" "law" (defArgs s_law) (defBody s_law) (defScope s_law) .none kV16 dc16 pm16 an16 cd16 ct16), sl16⟩)
    (c16 : PySem.W.codeIn K cd16 "law" = true)
    (k16 : PySem.W.keepIn K (.ref f16) = true)
    (aCYardError : PySem.W.nsIn K mainGlobals "YardError" = some (some (.ref CYardError)))
    (aCBadTrain : PySem.W.nsIn K mainGlobals "BadTrain" = some (some (.ref CBadTrain)))
    (aCBadYard : PySem.W.nsIn K mainGlobals "BadYard" = some (some (.ref CBadYard)))
    (aCBadMoves : PySem.W.nsIn K mainGlobals "BadMoves" = some (some (.ref CBadMoves)))
    (aCStuck : PySem.W.nsIn K mainGlobals "Stuck" = some (some (.ref CStuck)))
    (aCBadText : PySem.W.nsIn K mainGlobals "BadText" = some (some (.ref CBadText)))
    (xcmBadText : (PySem.W.clsIn K CBadText).any (fun cd => Xc.overVE cd.mro) = true)
    (xchBadText : PySem.W.hasDictIn K CBadText = true)
    (xcgBadText : PySem.W.findIn K (.ref CBadText) "__getattribute__" = some (some (.builtin "BaseException.__getattribute__")))
    (xcyBadText : PySem.W.findIn K (.ref CBadText) "__getattr__" = some none)
    (xcsBadText : PySem.W.findIn K (.ref CBadText) "__setattr__" = some (some (.builtin "object.__setattr__")))
    (xcaBadText : PySem.W.findIn K (.ref CBadText) "__class__" = some (some (.builtin "object.__class__")))
    (xcdBadText : PySem.W.specialIn K (.builtin "object.__class__") "__get__" = some (some (.builtin "getset_descriptor.__get__")))
    (xctBadText : PySem.W.takesIn K (.builtin "object.__class__") = some true)
    (xcmBadTrain : (PySem.W.clsIn K CBadTrain).any (fun cd => Xc.overVE cd.mro) = true)
    (xchBadTrain : PySem.W.hasDictIn K CBadTrain = true)
    (xcgBadTrain : PySem.W.findIn K (.ref CBadTrain) "__getattribute__" = some (some (.builtin "BaseException.__getattribute__")))
    (xcyBadTrain : PySem.W.findIn K (.ref CBadTrain) "__getattr__" = some none)
    (xcsBadTrain : PySem.W.findIn K (.ref CBadTrain) "__setattr__" = some (some (.builtin "object.__setattr__")))
    (xcaBadTrain : PySem.W.findIn K (.ref CBadTrain) "__class__" = some (some (.builtin "object.__class__")))
    (xcdBadTrain : PySem.W.specialIn K (.builtin "object.__class__") "__get__" = some (some (.builtin "getset_descriptor.__get__")))
    (xctBadTrain : PySem.W.takesIn K (.builtin "object.__class__") = some true)
    (xcmYardError : (PySem.W.clsIn K CYardError).any (fun cd => Xc.overVE cd.mro) = true)
    (xchYardError : PySem.W.hasDictIn K CYardError = true)
    (xcgYardError : PySem.W.findIn K (.ref CYardError) "__getattribute__" = some (some (.builtin "BaseException.__getattribute__")))
    (xcyYardError : PySem.W.findIn K (.ref CYardError) "__getattr__" = some none)
    (xcsYardError : PySem.W.findIn K (.ref CYardError) "__setattr__" = some (some (.builtin "object.__setattr__")))
    (xcaYardError : PySem.W.findIn K (.ref CYardError) "__class__" = some (some (.builtin "object.__class__")))
    (xcdYardError : PySem.W.specialIn K (.builtin "object.__class__") "__get__" = some (some (.builtin "getset_descriptor.__get__")))
    (xctYardError : PySem.W.takesIn K (.builtin "object.__class__") = some true)
    (xtyYardError : PySem.W.typeIn K (.ref CYardError) = some (.type "type"))
    (x0xBadText : xIn K CBadText = true)
    (x0nBadText : ((PySem.W.clsIn K CBadText).bind fun cd => PySem.W.nsIn K cd.ns "__init__") = some none)
    (x0kBadText : PySem.W.keepIn K (.ref CBadText) = true)
    (kitBadText_BadTrain : PySem.W.kitOne K (.ref CBadText) (.ref CBadTrain) = some false)
    (kitBadText_BadYard : PySem.W.kitOne K (.ref CBadText) (.ref CBadYard) = some false)
    (kitBadText_BadMoves : PySem.W.kitOne K (.ref CBadText) (.ref CBadMoves) = some false)
    (kitBadText_Stuck : PySem.W.kitOne K (.ref CBadText) (.ref CStuck) = some false)
    (mroBadText_YardError : PySem.W.mroIn K CBadText (.ref CYardError) = some true)
    (x0xBadTrain : xIn K CBadTrain = true)
    (x0nBadTrain : ((PySem.W.clsIn K CBadTrain).bind fun cd => PySem.W.nsIn K cd.ns "__init__") = some none)
    (x0kBadTrain : PySem.W.keepIn K (.ref CBadTrain) = true)
    (kitBadTrain_BadYard : PySem.W.kitOne K (.ref CBadTrain) (.ref CBadYard) = some false)
    (kitBadTrain_BadMoves : PySem.W.kitOne K (.ref CBadTrain) (.ref CBadMoves) = some false)
    (kitBadTrain_Stuck : PySem.W.kitOne K (.ref CBadTrain) (.ref CStuck) = some false)
    (kitBadTrain_BadText : PySem.W.kitOne K (.ref CBadTrain) (.ref CBadText) = some false)
    (mroBadTrain_YardError : PySem.W.mroIn K CBadTrain (.ref CYardError) = some true)
    (gMOST : PySem.W.nsIn K mainGlobals "MOST" = some (some (.int 999999 tMOST)))
    (gMOST_FIGURES : PySem.W.nsIn K mainGlobals "MOST_FIGURES" = some (some (.int 6 tMOST_FIGURES)))
    (gFIGURES : PySem.W.nsIn K mainGlobals "FIGURES" = some (some (.str "0123456789" tFIGURES)))
    (H0 : FF K f0 "is_number" "is_number" s_is_number)
    (H1 : FF K f1 "checked_train" "checked_train" s_checked_train)
    (H2 : FF K f2 "has_two_alike" "has_two_alike" s_has_two_alike)
    (H3 : FF K f3 "checked_text" "checked_text" s_checked_text)
    (H4 : FF K f4 "written" "written" s_written)
    (H5 : FF K f5 "read" "read" s_read)
    (H6 : FF K f6 "read_wagon" "read_wagon" s_read_wagon)
    (H7 : FF K f7 "_law_inserted" "_law_inserted" s__law_inserted)
    (H8 : FF K f8 "_law_great" "_law_great" s__law_great)
    (H9 : FF K f9 "_law_number" "_law_number" s__law_number)
    (H10 : FF K f10 "_law_in" "_law_in" s__law_in)
    (H11 : FF K f11 "_law_refused" "_law_refused" s__law_refused)
    (H12 : FF K f12 "_law_read" "_law_read" s__law_read)
    (H13 : FF K f13 "_law_written" "_law_written" s__law_written)
    (H14 : FF K f14 "_law_right" "_law_right" s__law_right)
    (H15 : FF K f15 "_law_few" "_law_few" s__law_few)
    : ∃ fd : FuncData, (∀ (s : Shared) (v : Value), BindsTo s fd ⟨[v], []⟩ [("_law_script", v)]) ∧ ∀ base : Heap, K.In base → base.Ns mainGlobals mg → FnOk l.prog w K mg base CX0 11 fa fd ["_law_script"] (sp_law K) := by
  have e := hfa.symm.trans (PySem.W.mg_of X G a16)
  cases e
  have F0 := H0.f
  have b0 := F0.binds (ps := ["value"]) fun _ _ _ _ _ _ us hl => match us, hl with | [_], _ => rfl
  have F1 := H1.f
  have b1 := F1.binds (ps := ["train"]) fun _ _ _ _ _ _ us hl => match us, hl with | [_], _ => rfl
  have F2 := H2.f
  have b2 := F2.binds (ps := ["wagons"]) fun _ _ _ _ _ _ us hl => match us, hl with | [_], _ => rfl
  have F3 := H3.f
  have b3 := F3.binds (ps := ["text"]) fun _ _ _ _ _ _ us hl => match us, hl with | [_], _ => rfl
  have F4 := H4.f
  have b4 := F4.binds (ps := ["train"]) fun _ _ _ _ _ _ us hl => match us, hl with | [_], _ => rfl
  have F5 := H5.f
  have b5 := F5.binds (ps := ["text"]) fun _ _ _ _ _ _ us hl => match us, hl with | [_], _ => rfl
  have F6 := H6.f
  have b6 := F6.binds (ps := ["word"]) fun _ _ _ _ _ _ us hl => match us, hl with | [_], _ => rfl
  have F7 := H7.f
  have b7 := F7.binds (ps := ["_law_script"]) fun _ _ _ _ _ _ us hl => match us, hl with | [_], _ => rfl
  have F8 := H8.f
  have b8 := F8.binds (ps := ["_law_script"]) fun _ _ _ _ _ _ us hl => match us, hl with | [_], _ => rfl
  have F9 := H9.f
  have b9 := F9.binds (ps := ["_law_word"]) fun _ _ _ _ _ _ us hl => match us, hl with | [_], _ => rfl
  have F10 := H10.f
  have b10 := F10.binds (ps := ["_law_text"]) fun _ _ _ _ _ _ us hl => match us, hl with | [_], _ => rfl
  have F11 := H11.f
  have b11 := F11.binds (ps := ["_law_ask", "_law_thing", "_law_due"]) fun _ _ _ _ _ _ us hl => match us, hl with | [_, _, _], _ => rfl
  have F12 := H12.f
  have b12 := F12.binds (ps := ["_law_text"]) fun _ _ _ _ _ _ us hl => match us, hl with | [_], _ => rfl
  have F13 := H13.f
  have b13 := F13.binds (ps := ["_law_train"]) fun _ _ _ _ _ _ us hl => match us, hl with | [_], _ => rfl
  have F14 := H14.f
  have b14 := F14.binds (ps := ["_law_text"]) fun _ _ _ _ _ _ us hl => match us, hl with | [_], _ => rfl
  have F15 := H15.f
  have b15 := F15.binds (ps := []) fun _ _ _ _ _ _ us hl => match us, hl with | [], _ => rfl
  have F16 := fun_mk (st := s_law) l16 c16 k16
  have T : Tx K mg ⟨CYardError, CBadTrain, CBadYard, CBadMoves, CStuck, CBadText⟩ := ⟨PySem.W.mg_none_of X G n_abs,
    PySem.W.mg_none_of X G n_all,
    PySem.W.mg_none_of X G n_any,
    PySem.W.mg_none_of X G n_bool,
    PySem.W.mg_none_of X G n_int,
    PySem.W.mg_none_of X G n_isinstance,
    PySem.W.mg_none_of X G n_len,
    PySem.W.mg_none_of X G n_list,
    PySem.W.mg_none_of X G n_range,
    PySem.W.mg_none_of X G n_set,
    PySem.W.mg_none_of X G n_sorted,
    PySem.W.mg_none_of X G n_str,
    PySem.W.mg_none_of X G n_sum,
    PySem.W.mg_none_of X G n_zip,
    ⟨⟨_, _, F0, PySem.W.mg_of X G a0, b0⟩⟩,
    ⟨⟨_, _, F1, PySem.W.mg_of X G a1, b1⟩⟩,
    ⟨⟨_, _, F2, PySem.W.mg_of X G a2, b2⟩⟩,
    ⟨⟨_, _, F3, PySem.W.mg_of X G a3, b3⟩⟩,
    ⟨⟨_, _, F4, PySem.W.mg_of X G a4, b4⟩⟩,
    ⟨⟨_, _, F5, PySem.W.mg_of X G a5, b5⟩⟩,
    ⟨⟨_, _, F6, PySem.W.mg_of X G a6, b6⟩⟩,
    ⟨⟨_, _, F7, PySem.W.mg_of X G a7, b7⟩⟩,
    ⟨⟨_, _, F8, PySem.W.mg_of X G a8, b8⟩⟩,
    ⟨⟨_, _, F9, PySem.W.mg_of X G a9, b9⟩⟩,
    ⟨⟨_, _, F10, PySem.W.mg_of X G a10, b10⟩⟩,
    ⟨⟨_, _, F11, PySem.W.mg_of X G a11, b11⟩⟩,
    ⟨⟨_, _, F12, PySem.W.mg_of X G a12, b12⟩⟩,
    ⟨⟨_, _, F13, PySem.W.mg_of X G a13, b13⟩⟩,
    ⟨⟨_, _, F14, PySem.W.mg_of X G a14, b14⟩⟩,
    ⟨⟨_, _, F15, PySem.W.mg_of X G a15, b15⟩⟩,
    PySem.W.mg_of X G aCYardError,
    PySem.W.mg_of X G aCBadTrain,
    PySem.W.mg_of X G aCBadYard,
    PySem.W.mg_of X G aCBadMoves,
    PySem.W.mg_of X G aCStuck,
    PySem.W.mg_of X G aCBadText,
    ⟨xcmBadText, xchBadText, xcgBadText, xcyBadText, xcsBadText, xcaBadText, xcdBadText, xctBadText⟩,
    ⟨xcmBadTrain, xchBadTrain, xcgBadTrain, xcyBadTrain, xcsBadTrain, xcaBadTrain, xcdBadTrain, xctBadTrain⟩,
    ⟨xcmYardError, xchYardError, xcgYardError, xcyYardError, xcsYardError, xcaYardError, xcdYardError, xctYardError⟩,
    xtyYardError,
    ⟨x0xBadText, x0nBadText, x0kBadText⟩,
    kitBadText_BadTrain,
    kitBadText_BadYard,
    kitBadText_BadMoves,
    kitBadText_Stuck,
    mroBadText_YardError,
    ⟨x0xBadTrain, x0nBadTrain, x0kBadTrain⟩,
    kitBadTrain_BadYard,
    kitBadTrain_BadMoves,
    kitBadTrain_Stuck,
    kitBadTrain_BadText,
    mroBadTrain_YardError,
    ⟨_, PySem.W.mg_of X G gMOST⟩,
    ⟨_, PySem.W.mg_of X G gMOST_FIGURES⟩,
    ⟨_, PySem.W.mg_of X G gFIGURES⟩⟩
  exact ⟨_, fun s v => .of_eq rfl, fun base _ _ => ok T F16⟩
theorem walk {l : PySem.W.OpenLaw} {q : Program} {loose : List Str} {XP : (Str → Option Value) → Heap → Prop} {YP : World → Heap → Prop} {d : DefRec} {K : Params → PySem.W.Frag} (hn : l.most = some 63) (hdf : d.params.defaults = [])
    (hY : ∀ (w : World) (h : Heap), YP w h → (K w.params).In h)
    (F : ∀ (w : World) (mg : Str → Option Value) (fa : Addr) (h : Heap), (K w.params).In h → h.Ns mainGlobals mg → mg d.name = some (.ref fa) →
      ∃ fd : FuncData, (∀ (s : Shared) (u : Value), BindsTo s fd ⟨[u], []⟩ [("_law_script", u)]) ∧ ∀ base : Heap, (K w.params).In base → base.Ns mainGlobals mg → FnOk l.prog w (K w.params) mg base CX0 11 fa fd ["_law_script"] (sp_law (K w.params))) :
    PySem.W.WalkO q loose XP YP l.row.toRowW d [] (fun f vs => PySem.call f vs) :=
  L2.walk_ofT (n := 63) (k := 11) (x := "_law_script") (CX := fun _ => CX0) (sp := fun w => sp_law (K w.params)) [] hn (by decide) hdf ⟨rfl, by decide, by decide⟩ hY (fun e he => absurd he (by simp)) (fun w e he => absurd he (by simp)) F (fun _ _ a ns hl _ hS => ⟨a, ns, rfl, hS, hl, fun _ => rfl⟩) fun _ _ _ _ _ z => z
end My
section
open PySem PySem.W PyProof.Rows
local macro_rules | `(tactic| o_head $H) => `(tactic| (
  refine holds_open (q := My.pwv) (loose := []) (Xt := fun s => xlAt My.pwv [] s && recOk (RowW.records _) s) (XP := XL My.pwv []) (Yf := Hook.obs $H) (Ya := Hook.val $H) (YP := Hook.says $H) (N := 20000)
    (L2.left_of_T3 (p := PySem.Challenge.pw_sidings_k09_texts) (H₀ := boot_heap) (T₀ := fun P => L2.treeOf (boot_heap P).objs.toList) (life := (boot_heap (aWorld 1).params).life) (d₀ := boot_drawn) (k₀ := boot_toks) (m₀ := 11) (ann := some (.ref 6)) (boot_open (by kernel_rfl!) (by decide) (fun s => by kernel_rfl!)) (fun P => by kernel_rfl!) (fun w => by kernel_rfl!) My.seen_a My.seen_b ?obs)
    (Hook.of $H) (Hook.keeps $H) (fun s e => xl_of s (Bool.and_eq_true_iff.mp e).1) XL.keeps (by rfl) (by rfl) (by rfl) (fun s e => recFacts_of (Bool.and_eq_true_iff.mp e).2) (by rfl) (by first | assumption | decide +kernel) (by decide +kernel) ⟨rfl, rfl, rfl, rfl, rfl, by decide +kernel⟩ ?hw ?hc))
set_option maxRecDepth 100000 in
set_option maxHeartbeats 0 in
theorem My.early (ok : My.OkL PySem.Challenge.rw_sidings_k09_texts) : PySem.Challenge.rw_sidings_k09_texts.Holds := by
  w_on; o_law; k_head
  (case obs =>
    intro w os
    rewrite [PySem.W.Fast.te10156331382660048174, PySem.W.Fast.te11892475500146522536, PySem.W.Fast.te14364793385576792824]
    kernel_rfl)
  (case hw => w_witness2)
  k_fill
  refine My.walk (l := PySem.Challenge.rw_sidings_k09_texts) rfl rfl (fun w h Y => PySem.W.kIn_of Y) ?F
  case F =>
    intro w mg fa h KX G hmg
    refine' My.all_mk ok KX G hmg ?n_abs ?n_all ?n_any ?n_bool ?n_int ?n_isinstance ?n_len ?n_list ?n_range ?n_set ?n_sorted ?n_str ?n_sum ?n_zip ?a0 ?a1 ?a2 ?a3 ?a4 ?a5 ?a6 ?a7 ?a8 ?a9 ?a10 ?a11 ?a12 ?a13 ?a14 ?a15 ?a16 ?l16 ?c16 ?k16 ?aCYardError ?aCBadTrain ?aCBadYard ?aCBadMoves ?aCStuck ?aCBadText ?xcmBadText ?xchBadText ?xcgBadText ?xcyBadText ?xcsBadText ?xcaBadText ?xcdBadText ?xctBadText ?xcmBadTrain ?xchBadTrain ?xcgBadTrain ?xcyBadTrain ?xcsBadTrain ?xcaBadTrain ?xcdBadTrain ?xctBadTrain ?xcmYardError ?xchYardError ?xcgYardError ?xcyYardError ?xcsYardError ?xcaYardError ?xcdYardError ?xctYardError ?xtyYardError ?x0xBadText ?x0nBadText ?x0kBadText ?kitBadText_BadTrain ?kitBadText_BadYard ?kitBadText_BadMoves ?kitBadText_Stuck ?mroBadText_YardError ?x0xBadTrain ?x0nBadTrain ?x0kBadTrain ?kitBadTrain_BadYard ?kitBadTrain_BadMoves ?kitBadTrain_Stuck ?kitBadTrain_BadText ?mroBadTrain_YardError ?gMOST ?gMOST_FIGURES ?gFIGURES ?H0 ?H1 ?H2 ?H3 ?H4 ?H5 ?H6 ?H7 ?H8 ?H9 ?H10 ?H11 ?H12 ?H13 ?H14 ?H15
    (case n_abs | n_all | n_any | n_bool | n_int | n_isinstance | n_len | n_list | n_range | n_set | n_sorted | n_str | n_sum | n_zip | a0 | a1 | a2 | a3 | a4 | a5 | a6 | a7 | a8 | a9 | a10 | a11 | a12 | a13 | a14 | a15 | a16 | l16 | c16 | k16 | aCYardError | aCBadTrain | aCBadYard | aCBadMoves | aCStuck | aCBadText | xcmBadText | xchBadText | xcgBadText | xcyBadText | xcsBadText | xcaBadText | xcdBadText | xctBadText | xcmBadTrain | xchBadTrain | xcgBadTrain | xcyBadTrain | xcsBadTrain | xcaBadTrain | xcdBadTrain | xctBadTrain | xcmYardError | xchYardError | xcgYardError | xcyYardError | xcsYardError | xcaYardError | xcdYardError | xctYardError | xtyYardError | x0xBadText | x0nBadText | x0kBadText | kitBadText_BadTrain | kitBadText_BadYard | kitBadText_BadMoves | kitBadText_Stuck | mroBadText_YardError | x0xBadTrain | x0nBadTrain | x0kBadTrain | kitBadTrain_BadYard | kitBadTrain_BadMoves | kitBadTrain_Stuck | kitBadTrain_BadText | mroBadTrain_YardError | gMOST | gMOST_FIGURES | gFIGURES => first | k_is | kernel_rfl!)
    (case H0 | H1 | H2 | H3 | H4 | H5 | H6 | H7 | H8 | H9 | H10 | H11 | H12 | H13 | H14 | H15 => exact My.FF.of (by first | k_is | kernel_rfl!) (by first | k_is | kernel_rfl!) (by first | k_is | kernel_rfl!))


end
/-! sidings.checks: what each def promises where nothing is refused. -/
namespace My
open PySem L2
section
variable {P : Program} {w : World} {K : PySem.W.Frag} {mg : Str → Option Value} {base : Heap} {Z : Adr}

def sp_is_number : Sp := fun vs H Q _ => ∃ i, vs = [.int i] ∧ Q (.bl true) H
theorem sc_is_number : FnScope ["value"] ["value"] (defScope s_is_number) := ⟨rfl, rfl, rfl, by decide +kernel, rfl, by decide +kernel, by decide +kernel⟩
theorem C_is_number (T : Tx K mg Z) : Ctr P w K mg base CX0 1 "is_number" ["value"] sp_is_number := by
  refine ctr_of T.is_number fun f fd F => F.ok sc_is_number (fun vs H Q E h => ?_) (fun cdv A outer s H vs Q E hr h => ?_)
  · obtain ⟨i, rfl, _⟩ := h
    rfl
  · obtain ⟨i, rfl, q⟩ := h
    refine' ⟨_, ?hterm, ?_⟩
    case hterm =>
      refine' pss_one ?q1
      case q1 =>
        refine' ps_ret ?q2
        case q2 =>
          refine' pe_and ?q3 ?q4
          case q3 =>
            refine' pe_callB (callK_isinstance (K := K) (by rfl)) (by rfl) T.n_isinstance b_isinstance ?q5
            case q5 =>
              refine' pa_cons ?q6 ?q7
              case q6 => exact pv 0
              case q7 =>
                refine' pa_cons ?q8 ?q9
                case q8 => exact pe_tyN rfl T.n_int b_int
                case q9 => exact pa_nil
          case q4 =>
            refine' pe_one ?q10
            case q10 =>
              refine' pe_not ?q11
              case q11 =>
                refine' pe_callB (callK_isinstance (K := K) (by rfl)) (by rfl) T.n_isinstance b_isinstance ?q12
                case q12 =>
                  refine' pa_cons ?q13 ?q14
                  case q13 => exact pv 0
                  case q14 =>
                    refine' pa_cons ?q15 ?q16
                    case q15 => exact pe_tyN rfl T.n_bool b_bool
                    case q16 => exact pa_nil
    refine ⟨_, rfl, _, _, _, _, _, rfl, rfl, ty_inj, .int i, kit_same, _, rfl, iteT ?_⟩
    refine ⟨_, rfl, _, _, _, _, _, rfl, rfl, ty_inj, .int i, kit_int_bool, _, rfl, ?_⟩
    exact q

def sp_has_two_alike (K : PySem.W.Frag) : Sp := fun vs H Q _ => ∃ (a : Addr) (ns : List Int), vs = [.ref a] ∧ SqL K H a (ns.map V.int) ∧ ns.length < 64 ∧ ∀ H', Same H H' → Q (.bl (!decide ns.Nodup)) H'
theorem sc_has_two_alike : FnScope ["wagons", "in_order"] ["wagons"] (defScope s_has_two_alike) := ⟨rfl, rfl, rfl, by decide +kernel, rfl, by decide +kernel, by decide +kernel⟩
theorem C_has_two_alike (T : Tx K mg Z) : Ctr P w K mg base CX0 1 "has_two_alike" ["wagons"] (sp_has_two_alike K) := by
  refine ctr_of T.has_two_alike fun f fd F => F.ok sc_has_two_alike (fun vs H Q E h => ?_) (fun cdv A outer s H vs Q E hr h => ?_)
  · obtain ⟨a, ns, rfl, _⟩ := h
    rfl
  · obtain ⟨a, ns, rfl, hS, hz, k⟩ := h
    refine' ⟨_, ?hterm, ?_⟩
    case hterm =>
      refine' pss_cons ?q1 ?q2
      case q1 =>
        refine' ps_set (i := 1) sc_has_two_alike.nd rfl (Or.inl rfl) ?q3
        case q3 =>
          refine' pe_callB (callK_sorted (K := K) (by rfl)) (by rfl) T.n_sorted b_sorted ?q4
          case q4 =>
            refine' pa_cons ?q5 ?q6
            case q5 => exact pv 0
            case q6 => exact pa_nil
      case q2 =>
        refine' pss_one ?q7
        case q7 =>
          refine' ps_ret ?q8
          case q8 =>
            refine' pe_callB (callK_any (K := K) (by rfl) (by rfl)) (by rfl) T.n_any b_any ?q9
            case q9 =>
              refine' pa_cons ?q10 ?q11
              case q10 =>
                refine' pe_comp rfl (csc_of (sc := defScope s_has_two_alike) (N := ["wagons", "in_order"]) (cap := [none, none]) (N' := ["less", "greater"]) rfl rfl ⟨ rfl, by decide +kernel, by decide +kernel, by decide +kernel, rfl, by decide +kernel ⟩) ?q12 (fun _ _ _ _ => ?q13) (fun _ _ _ _ => ?q14) (fun _ _ _ _ => ?q15)
                case q12 =>
                  refine' pi_zipK (K := K) (by rfl) rfl T.n_zip ?q16
                  case q16 =>
                    refine' pa_cons ?q17 ?q18
                    case q17 => exact pv 1
                    case q18 =>
                      refine' pa_cons ?q19 ?q20
                      case q19 =>
                        refine' pe_slice (sl_K (K := K) (by rfl)) ?q21 ?q22 ?q23
                        case q21 => exact pv 1
                        case q22 =>
                          refine' po_some ?q24
                          case q24 => exact pe_int
                        case q23 => exact po_none
                      case q20 => exact pa_nil
                case q13 =>
                  refine' pg_tupK (K := K) (n := 2) (by rfl) rfl ?q25
                  case q25 =>
                    refine' pgs_cons ?q26 ?q27
                    case q26 => exact pg_name (i := 0) (show List.Nodup (["less", "greater"] : List Str) from by decide +kernel) (by rfl) (by exact Or.inl rfl)
                    case q27 =>
                      refine' pgs_cons ?q28 ?q29
                      case q28 => exact pg_name (i := 1) (show List.Nodup (["less", "greater"] : List Str) from by decide +kernel) (by rfl) (by exact Or.inl rfl)
                      case q29 => exact pgs_nil
                case q14 => exact pif_nil
                case q15 =>
                  refine' pe_cmpR (op_eqK (K := K) (by rfl) (by exact hr.units)) ?q30 ?q31 (nomark _)
                  case q30 => exact pv 0
                  case q31 => exact pv 1
              case q11 => exact pa_nil
    -- in_order = sorted(wagons)
    refine ⟨_, rfl, a, ns, rfl, hS, hz, fun l ns' hl hp hs => ?_⟩
    -- zip(in_order, in_order[1:])
    refine ⟨_, rfl, _, rfl, _, rfl, l, _, rfl, SqL.of upd_same, fun q hq => ?_⟩
    have elq : l ≠ q := ne_of_none upd_same hq
    have ecut : cutV (ns'.map V.int) (some 1) none = (ns'.drop 1).map V.int := by rw [show (1 : Int) = ((1 : Nat) : Int) from rfl, cutV_from, List.map_drop]
    rw [ecut]
    refine ⟨l, q, rfl, ⟨_, SqL.of (upd_get upd_same hq)⟩, ⟨_, SqL.of upd_same⟩, fun p hp' => ?_⟩
    have s0 : Same H (upd (upd (upd H l (.lst (ns'.map V.int))) q (.lst ((ns'.drop 1).map V.int))) p (.lst [])) := (Same.upd hl).trans ((Same.upd hq).trans (Same.upd hp'))
    have elp : l ≠ p := ne_of_none (upd_get upd_same hq) hp'
    have eqp : q ≠ p := ne_of_none upd_same hp'
    have hH1 : H p = none := ((Same.upd (o := .lst (ns'.map V.int)) hl).trans (Same.upd (o := .lst ((ns'.drop 1).map V.int)) hq)).free hp'
    refine turns_zip (K := K) (xs := ns'.map V.int) (ys := (ns'.drop 1).map V.int)
      (fun i σ H2 => (∃ a b, σ = [a, b]) ∧ Same H H2 ∧ H2 l = some (.lst (ns'.map V.int)) ∧ H2 q = some (.lst ((ns'.drop 1).map V.int)) ∧ H2 p = some (.lst (((adj ns').take i).map V.bl)))
      ⟨⟨_, _, rfl⟩, s0, by rw [upd_ne elp, upd_ne elq, upd_same], by rw [upd_ne eqp, upd_same], upd_same⟩ (fun i σ H2 h => ⟨SqL.of h.2.2.1, SqL.of h.2.2.2.1⟩) ?_ ?_
    · rintro i x y t σ H2 hx hy ⟨⟨a1, b1, rfl⟩, s2, h1, h2, h3⟩ ht
      obtain ⟨z, ez, rfl⟩ := getMap hx
      obtain ⟨z', ez', rfl⟩ := getMap hy
      refine ⟨t, _, rfl, SqT.of upd_same, rfl, _, _, rfl, _, _, rfl, rfl, ?_⟩
      refine ⟨_, rfl, _, rfl, .inl ⟨rfl, ?_⟩⟩
      have e3 : upd H2 t (.tup [.int z, .int z']) p = some (.lst (((adj ns').take i).map V.bl)) := upd_get h3 ht
      refine ⟨_, e3, ?_, ⟨_, _, rfl⟩, ?_, ?_, ?_, ?_⟩
      · rw [List.length_map]
        have := adj_len ns'
        have h64 : ns'.length < 64 := by rw [hp.length_eq]; exact hz
        have := List.length_take (i := i) (l := adj ns')
        exact small1000 (by omega)
      · intro b o e
        have : b ≠ p := ne_of_none e hH1
        rw [upd_ne this, upd_get (s2 b o e) ht]
      · rw [upd_ne elp]; exact upd_get h1 ht
      · rw [upd_ne eqp]; exact upd_get h2 ht
      · rw [upd_same, adj_take ez ez', List.map_append, decV]
        rfl
    · rintro σ H2 ⟨_, s2, _, _, h3⟩
      refine ⟨p, adj ns', rfl, SqL.of ?_, ?_⟩
      · rw [h3, List.take_of_length_le]
        rw [adj_len, List.length_map, List.length_map, List.length_drop]
        exact Nat.le_refl _
      · rw [adj_nodup hs, show decide ns'.Nodup = decide ns.Nodup from decide_eq_decide.mpr hp.nodup_iff]
        exact k H2 s2
def sp_checked_train : Sp := fun vs H Q _ => ∃ (a : Addr) (ns : List Int), vs = [.ref a] ∧ H a = some (.lst (ns.map V.int)) ∧ ns.length < 64 ∧ ns.Nodup ∧ ∀ p H', Same H H' → H p = none → H' p = some (.lst (ns.map V.int)) → Q (.ref p) H'
theorem sc_checked_train : FnScope ["train", "held", "wagon", "wagons"] ["train"] (defScope s_checked_train) := ⟨rfl, rfl, rfl, by decide +kernel, rfl, by decide +kernel, by decide +kernel⟩
theorem C_checked_train (T : Tx K mg Z) : Ctr P w K mg base CX0 3 "checked_train" ["train"] sp_checked_train := by
  refine ctr_of T.checked_train fun f fd F => F.ok sc_checked_train (fun vs H Q E h => ?_) (fun cdv A outer s H vs Q E hr h => ?_)
  · obtain ⟨a, ns, rfl, _⟩ := h
    rfl
  · obtain ⟨a, ns, rfl, ha, hz, hnd, k⟩ := h
    refine' ⟨_, ?hterm, ?_⟩
    case hterm =>
      refine' pss_cons ?q1 ?q2
      case q1 =>
        refine' ps_if ?q3 ?q4 ?q5
        case q3 =>
          refine' pt_not ?q6
          case q6 =>
            refine' pt_truK (K := K) (by rfl) ?q7 (fun _ => rfl)
            case q7 =>
              refine' pe_callB (callK_isinstance (K := K) (by rfl)) (by rfl) T.n_isinstance b_isinstance ?q8
              case q8 =>
                refine' pa_cons ?q9 ?q10
                case q9 => exact pv 0
                case q10 =>
                  refine' pa_cons ?q11 ?q12
                  case q11 => exact pe_tyN rfl T.n_list b_list
                  case q12 => exact pa_nil
        case q4 =>
          refine' pss_one ?q13
          case q13 => exact ps_never
        case q5 => exact pss_nil
      case q2 =>
        refine' pss_cons ?q14 ?q15
        case q14 =>
          refine' ps_set (i := 1) sc_checked_train.nd rfl (Or.inl rfl) ?q16
          case q16 =>
            refine' pe_op (op_addK (K := K) (by rfl)) ?q17 ?q18
            case q17 =>
              refine' pe_lst ?q19
              case q19 => exact pa_nil
            case q18 => exact pv 0
        case q15 =>
          refine' pss_cons ?q20 ?q21
          case q20 =>
            refine' ps_for HP rfl ?q22 ?q23 ?q24
            case q22 =>
              refine' pi_listK (K := K) (by rfl) ?q25
              case q25 => exact pv 1
            case q23 => exact pg_name (i := 2) sc_checked_train.nd (by rfl) (by exact Or.inl rfl)
            case q24 =>
              refine' pss_one ?q26
              case q26 =>
                refine' ps_if ?q27 ?q28 ?q29
                case q27 =>
                  refine' pt_not ?q30
                  case q30 =>
                    refine' pt_truK (K := K) (by rfl) ?q31 (fun _ => rfl)
                    case q31 =>
                      refine' pe_callC (C_is_number T) (hr.mono (by decide)) rfl ?q32
                      case q32 =>
                        refine' pa_cons ?q33 ?q34
                        case q33 => exact pv 2
                        case q34 => exact pa_nil
                case q28 =>
                  refine' pss_one ?q35
                  case q35 => exact ps_never
                case q29 => exact pss_nil
          case q21 =>
            refine' pss_cons ?q36 ?q37
            case q36 =>
              refine' ps_setComp (i := 3) sc_checked_train.nd rfl rfl rfl (csc_of (sc := defScope s_checked_train) (N := ["train", "held", "wagon", "wagons"]) (cap := [none]) (N' := ["wagon"]) rfl rfl ⟨ rfl, by decide +kernel, by decide +kernel, by decide +kernel, rfl, by decide +kernel ⟩) ?q38 (fun _ _ _ _ => ?q39) (fun _ _ _ _ => ?q40) (fun _ _ _ _ => ?q41)
              case q38 =>
                refine' pi_listK (K := K) (by rfl) ?q42
                case q42 => exact pv 1
              case q39 => exact pg_name (i := 0) (show List.Nodup (["wagon"] : List Str) from by decide +kernel) (by rfl) (by exact Or.inl rfl)
              case q40 => exact pif_nil
              case q41 =>
                refine' pe_callTy call_int1 (by rfl) T.n_int b_int ?q43
                case q43 =>
                  refine' pa_cons ?q44 ?q45
                  case q44 => exact pv 0
                  case q45 => exact pa_nil
            case q37 =>
              refine' pss_cons ?q46 ?q47
              case q46 =>
                refine' ps_if ?q48 ?q49 ?q50
                case q48 =>
                  refine' pt_truK (K := K) (by rfl) ?q51 (fun _ => rfl)
                  case q51 =>
                    refine' pe_callC (C_has_two_alike T) (hr.mono (by decide)) rfl ?q52
                    case q52 =>
                      refine' pa_cons ?q53 ?q54
                      case q53 => exact pv 3
                      case q54 => exact pa_nil
                case q49 =>
                  refine' pss_one ?q55
                  case q55 => exact ps_never
                case q50 => exact pss_nil
              case q47 =>
                refine' pss_one ?q56
                case q56 =>
                  refine' ps_ret ?q57
                  case q57 => exact pv 3
    have hz1 : ns.length ≤ 1000 := by omega
    refine ⟨_, rfl, _, _, _, _, _, rfl, rfl, ty_inj, .lst ha, kit_same, _, rfl, iteF ?_⟩
    -- held = [] + train
    refine ⟨Nat.zero_le _, fun e he => ⟨_, rfl, .inr (.inl ⟨e, a, [], ns.map V.int, rfl, rfl, upd_same, upd_get ha he, ?_, fun h hh => ?_⟩)⟩⟩
    · rw [List.length_nil, List.length_map, Nat.zero_add]
      exact Nat.le_of_lt (small1000 hz1)
    have sh : Same H (upd (upd H e (.lst [])) h (.lst (ns.map V.int))) := (Same.upd he).trans (Same.upd hh)
    -- for wagon in held
    refine ⟨_, rfl, h, rfl, ⟨_, SqL.of upd_same⟩, for_list (K := K) (a := h) (xs := ns.map V.int) (fun i σ H2 => (∃ v, σ = [some (.ref a), some (.ref h), v, none]) ∧ H2 = upd (upd H e (.lst [])) h (.lst (ns.map V.int)))
      ⟨⟨_, rfl⟩, rfl⟩ (fun i σ H2 _ ⟨_, z⟩ => by rw [z]; exact SqL.of upd_same) ?_ ?_⟩
    · rintro i x σ H2 hx ⟨⟨v, rfl⟩, rfl⟩
      obtain ⟨z, _, rfl⟩ := getMap hx
      refine ⟨_, rfl, z, rfl, _, rfl, iteF ?_⟩
      exact ⟨⟨_, rfl⟩, rfl⟩
    rintro σ H2 ⟨⟨v, rfl⟩, rfl⟩
    -- wagons = [int(wagon) for wagon in held]
    refine ⟨_, rfl, h, rfl, ⟨_, SqL.of upd_same⟩, fun p hp => ?_⟩
    have ehp : h ≠ p := ne_of_none upd_same hp
    have hHp : H p = none := sh.free hp
    refine turns_list (K := K) (a := h) (xs := ns.map V.int) (fun i σ H2 => (∃ v, σ = [v]) ∧ Same H H2 ∧ H2 h = some (.lst (ns.map V.int)) ∧ H2 p = some (.lst ((ns.take i).map V.int)))
      ⟨⟨_, rfl⟩, sh.trans (Same.upd hp), upd_get upd_same hp, upd_same⟩ (fun i σ H2 _ h => SqL.of h.2.2.1) ?_ ?_
    · rintro i x σ H2 hx ⟨⟨v, rfl⟩, s2, h1, h2⟩
      obtain ⟨z, ez, rfl⟩ := getMap hx
      refine ⟨_, rfl, .inl ⟨z, rfl, _, h2, ?_, ⟨_, rfl⟩, ?_, ?_, ?_⟩⟩
      · rw [List.length_map, List.length_take]
        exact small1000 (by omega)
      · intro b o e
        rw [upd_ne (ne_of_none e hHp)]
        exact s2 b o e
      · rw [upd_ne ehp]; exact h1
      · rw [upd_same, take_snoc ez, List.map_append]
        rfl
    rintro σ H2 ⟨_, s2, h1, h2⟩
    rw [List.length_map, List.take_length] at h2
    -- if has_two_alike(wagons)
    refine ⟨_, rfl, p, ns, rfl, SqL.of h2, hz, fun H3 s3 => ⟨_, rfl, ?_⟩⟩
    rw [decide_eq_true hnd]
    refine iteF ?_
    exact ⟨_, rfl, k p H3 (s2.trans s3) hHp (s3 _ _ h2)⟩

end
end My
/-! sidings.texts: what is read and written, and what is refused. -/
namespace My
open PySem L2
open Fg (cs ok val sg jn fig dig inT wr words bk)
section
variable {P : Program} {w : World} {K : PySem.W.Frag} {mg : Str → Option Value} {base : Heap} {Z : Adr}
theorem join_text (t : Str) : Txt.join ("" : Str) [t] = t := by
  show Builtin.Str.glued _ _ = t
  rw [StrLaws.glued_eq_join]; rfl
theorem fits {n : Nat} (h : n ≤ 10000) : n ≤ sizeLine := by rw [sizeLine_eq]; omega
theorem dig_in (c : Nat) : (!(Builtin.Str.occurrences ("0123456789" : Str) ⟨#[c]⟩ 0 ("0123456789" : Str).length 1).isEmpty) = dig c := by
  rw [StrLaws.found_one, show ("0123456789" : Str).cps.toList = [48, 49, 50, 51, 52, 53, 54, 55, 56, 57] by decide +kernel, Bool.eq_iff_iff, decide_eq_true_eq, Fg.dig_iff]
  simp only [List.mem_cons, List.not_mem_nil, or_false]
  omega
theorem minus : Str.ofString "-" = ⟨#[45]⟩ := by decide +kernel
theorem nought : Str.ofString "0" = ⟨#[48]⟩ := by decide +kernel
theorem tif_to {c : Bool} {a b : TE} {σ : St} {H : Hp} {Q : VK} (x : V) (h1 : c = true → ∀ Q : VK, Q x H → a σ H Q) (h2 : c = false → ∀ Q : VK, Q x H → b σ H Q) (h : Q x H) : if c = true then a σ H Q else b σ H Q :=
  iteB (fun e => h1 e Q h) (fun e => h2 e Q h)
/-- a thing that is no text -/
def NoText (K : PySem.W.Frag) (H : Hp) (x : V) : Prop := ∃ ty, TyOf K H x ty ∧ PySem.W.kitOne K ty (.type "str") = some false
def sp_checked_text (K : PySem.W.Frag) (Z : Adr) : Sp := fun vs H Q E => (∃ t : Str, vs = [.str t] ∧ t.length ≤ 10000 ∧ ∀ H', Same H H' → Q (.str t) H') ∨ ∃ x, vs = [x] ∧ NoText K H x ∧ E (.ref Z.cBadText) none H
theorem sc_checked_text : FnScope ["text"] ["text"] (defScope s_checked_text) := ⟨rfl, rfl, rfl, by decide +kernel, rfl, by decide +kernel, by decide +kernel⟩
theorem C_checked_text (T : Tx K mg Z) : Ctr P w K mg base (CXe P w) 2 "checked_text" ["text"] (sp_checked_text K Z) := by
  refine ctr_of T.checked_text fun f fd F => F.okE sc_checked_text (fun vs H Q E h => ?_) (fun cdv A outer s H vs Q E hr h => ?_)
  · rcases h with ⟨t, rfl, _⟩ | ⟨x, rfl, _⟩ <;> rfl
  · refine' ⟨_, ?hterm, ?_⟩
    case hterm =>
      refine' pss_cons ?q1 ?q2
      case q1 =>
        refine' ps_if ?q3 ?q4 ?q5
        case q3 =>
          refine' pt_not ?q6
          case q6 =>
            refine' pt_truK (K := K) (by rfl) ?q7 (fun _ => rfl)
            case q7 =>
              refine' pe_callB (callK_isinstance (K := K) (by rfl)) (by rfl) T.n_isinstance b_isinstance ?q8
              case q8 =>
                refine' pa_cons ?q9 ?q10
                case q9 => exact pv 0
                case q10 =>
                  refine' pa_cons ?q11 ?q12
                  case q11 => exact pe_tyN rfl T.n_str b_str
                  case q12 => exact pa_nil
        case q4 =>
          refine' pss_one ?q13
          case q13 =>
            refine' ps_raise0 (k := 0) T.x0_BadText (hr.mono (by decide)) T.c_BadText rfl raisesE ?q14
            case q14 =>
              refine' pa_cons ?q15 ?q16
              case q15 => exact pe_str
              case q16 => exact pa_nil
        case q5 => exact pss_nil
      case q2 =>
        refine' pss_one ?q17
        case q17 =>
          refine' ps_ret ?q18
          case q18 =>
            refine' pe_bmK (K := K) (by rfl) PySem.F.plainAttrs_str PySem.F.slot_str_join PySem.F.type_str_join (mt_joinK (K := K) (by rfl)) ?q19 ?q20
            case q19 => exact pe_str
            case q20 =>
              refine' pa_cons ?q21 ?q22
              case q21 =>
                refine' pe_lst ?q23
                case q23 =>
                  refine' pa_cons ?q24 ?q25
                  case q24 => exact pv 0
                  case q25 => exact pa_nil
              case q22 => exact pa_nil
    rcases h with ⟨t, rfl, hz, k⟩ | ⟨x, rfl, ⟨ty, h1, h2⟩, q⟩
    · refine ⟨_, rfl, _, _, _, _, _, rfl, rfl, ty_inj, .str _, kit_same, _, rfl, iteF ?_⟩
      refine ⟨rfl, _, rfl, (by show 1 ≤ sizeLine; decide), fun l hl => ⟨_, l, [t], rfl, rfl, SqL.of upd_same, ?_, ?_⟩⟩
      · show (t.length + 0) + 1 * 0 ≤ 16777216
        omega
      rw [join_text]
      exact k _ (Same.upd hl)
    · refine ⟨_, rfl, _, _, _, _, _, rfl, rfl, ty_inj, h1, h2, _, rfl, iteT ?_⟩
      exact ⟨(by show 1 ≤ 1000; decide), q⟩
def sp_read_wagon (Z : Adr) : Sp := fun vs H Q E => ∃ t : Str, vs = [.str t] ∧ t.length ≤ 10000 ∧ (ok (cs t) = true → ∀ H', Same H H' → Q (.int (val (cs t))) H') ∧ (ok (cs t) = false → ∀ H', Same H H' → E (.ref Z.cBadText) none H')
theorem sc_read_wagon : FnScope ["word", "figures"] ["word"] (defScope s_read_wagon) := ⟨rfl, rfl, rfl, by decide +kernel, rfl, by decide +kernel, by decide +kernel⟩
theorem C_read_wagon (T : Tx K mg Z) : Ctr P w K mg base (CXe P w) 2 "read_wagon" ["word"] (sp_read_wagon Z) := by
  refine ctr_of T.read_wagon fun f fd F => F.okE sc_read_wagon (fun vs H Q E h => ?_) (fun cdv A outer s H vs Q E hr h => ?_)
  · obtain ⟨t, rfl, _⟩ := h
    rfl
  · obtain ⟨t, rfl, hz, kQ, kE⟩ := h
    refine' ⟨_, ?hterm, ?_⟩
    case hterm =>
      refine' pss_cons ?q1 ?q2
      case q1 =>
        refine' ps_set (i := 1) sc_read_wagon.nd rfl (Or.inl rfl) ?q3
        case q3 =>
          refine' pe_ifExp ?q4 ?q5 ?q6
          case q4 =>
            refine' pt_truK (K := K) (by rfl) ?q7 (fun _ => rfl)
            case q7 =>
              refine' pe_bmK (K := K) (by rfl) PySem.F.plainAttrs_str PySem.F.slot_str_startswith PySem.F.type_str_startswith mt_starts ?q8 ?q9
              case q8 => exact pv 0
              case q9 =>
                refine' pa_cons ?q10 ?q11
                case q10 => exact pe_str
                case q11 => exact pa_nil
          case q5 =>
            refine' pe_slice sl_str ?q12 ?q13 ?q14
            case q12 => exact pv 0
            case q13 =>
              refine' po_some ?q15
              case q15 => exact pe_int
            case q14 => exact po_none
          case q6 => exact pv 0
      case q2 =>
        refine' pss_cons ?q16 ?q17
        case q16 =>
          refine' ps_if ?q18 ?q19 ?q20
          case q18 =>
            refine' PW.pt ?q21
            case q21 =>
              refine' pw_or ?q22 ?q23
              case q22 =>
                refine' pt_cmpR op_lt ?q24 ?q25 (nomark _)
                case q24 =>
                  refine' pe_callB (callK_len (K := K) (by rfl)) (by rfl) T.n_len b_len ?q26
                  case q26 =>
                    refine' pa_cons ?q27 ?q28
                    case q27 => exact pv 1
                    case q28 => exact pa_nil
                case q25 => exact pe_int
              case q23 =>
                refine' pw_or1 ?q29
                case q29 =>
                  refine' pt_cmpR op_gt ?q30 ?q31 (nomark _)
                  case q30 =>
                    refine' pe_callB (callK_len (K := K) (by rfl)) (by rfl) T.n_len b_len ?q32
                    case q32 =>
                      refine' pa_cons ?q33 ?q34
                      case q33 => exact pv 1
                      case q34 => exact pa_nil
                  case q31 => exact pe_gint (by rfl) T.g_MOST_FIGURES
          case q19 =>
            refine' pss_one ?q35
            case q35 =>
              refine' ps_raise0 (k := 0) T.x0_BadText (hr.mono (by decide)) T.c_BadText rfl raisesE ?q36
              case q36 =>
                refine' pa_cons ?q37 ?q38
                case q37 => exact pe_str
                case q38 => exact pa_nil
          case q20 => exact pss_nil
        case q17 =>
          refine' pss_cons ?q39 ?q40
          case q39 =>
            refine' ps_if ?q41 ?q42 ?q43
            case q41 =>
              refine' pt_truK (K := K) (by rfl) ?q44 (fun _ => rfl)
              case q44 =>
                refine' pe_callB (callK_any (K := K) (by rfl) (by rfl)) (by rfl) T.n_any b_any ?q45
                case q45 =>
                  refine' pa_cons ?q46 ?q47
                  case q46 =>
                    refine' pe_comp rfl (csc_of (sc := defScope s_read_wagon) (N := ["word", "figures"]) (cap := [none]) (N' := ["sign"]) rfl rfl ⟨ rfl, by decide +kernel, by decide +kernel, by decide +kernel, rfl, by decide +kernel ⟩) ?q48 (fun _ _ _ _ => ?q49) (fun _ _ _ _ => ?q50) (fun _ _ _ _ => ?q51)
                    case q48 =>
                      refine' pi_str ?q52
                      case q52 => exact pv 1
                    case q49 => exact pg_name (i := 0) (show List.Nodup (["sign"] : List Str) from by decide +kernel) (by rfl) (by exact Or.inl rfl)
                    case q50 => exact pif_nil
                    case q51 =>
                      refine' pe_cmpR op_notin_str ?q53 ?q54 (by with_unfolding_all rfl)
                      case q53 => exact pv 0
                      case q54 => exact pe_gstr (by rfl) T.g_FIGURES
                  case q47 => exact pa_nil
            case q42 =>
              refine' pss_one ?q55
              case q55 =>
                refine' ps_raise0 (k := 0) T.x0_BadText (hr.mono (by decide)) T.c_BadText rfl raisesE ?q56
                case q56 =>
                  refine' pa_cons ?q57 ?q58
                  case q57 => exact pe_str
                  case q58 => exact pa_nil
            case q43 => exact pss_nil
          case q40 =>
            refine' pss_cons ?q59 ?q60
            case q59 =>
              refine' ps_if ?q61 ?q62 ?q63
              case q61 =>
                refine' PW.pt ?q64
                case q64 =>
                  refine' pw_and ?q65 ?q66
                  case q65 =>
                    refine' pt_truK (K := K) (by rfl) ?q67 (fun _ => rfl)
                    case q67 =>
                      refine' pe_bmK (K := K) (by rfl) PySem.F.plainAttrs_str PySem.F.slot_str_startswith PySem.F.type_str_startswith mt_starts ?q68 ?q69
                      case q68 => exact pv 1
                      case q69 =>
                        refine' pa_cons ?q70 ?q71
                        case q70 => exact pe_str
                        case q71 => exact pa_nil
                  case q66 =>
                    refine' pw_and1 ?q72
                    case q72 =>
                      refine' pt_cmpR (op_neK (K := K) (by rfl) (by exact hr.units)) ?q73 ?q74 (nomark _)
                      case q73 => exact pv 0
                      case q74 => exact pe_str
              case q62 =>
                refine' pss_one ?q75
                case q75 =>
                  refine' ps_raise0 (k := 0) T.x0_BadText (hr.mono (by decide)) T.c_BadText rfl raisesE ?q76
                  case q76 =>
                    refine' pa_cons ?q77 ?q78
                    case q77 => exact pe_str
                    case q78 => exact pa_nil
              case q63 => exact pss_nil
            case q60 =>
              refine' pss_one ?q79
              case q79 =>
                refine' ps_ret ?q80
                case q80 =>
                  refine' pe_callTy call_intS (by rfl) T.n_int b_int ?q81
                  case q81 =>
                    refine' pa_cons ?q82 ?q83
                    case q82 => exact pv 0
                    case q83 => exact pa_nil
    obtain ⟨fg, efg⟩ : ∃ fg, (if Txt.startswith t ⟨#[45]⟩ = true then Txt.slice t (some 1) none else t) = fg := ⟨_, rfl⟩
    have hfc := Fg.fig_cs t
    rw [efg] at hfc
    have hzf : fg.length ≤ 10000 := by
      rw [← efg]
      split
      · exact Nat.le_trans (Txt.slice_le t (some 1) none) hz
      · exact hz
    have hno : ∀ (z : ok (cs t) = true → False), ok (cs t) = false := fun z => by
      cases e : ok (cs t) with
      | false => rfl
      | true => exact False.elim (z e)
    refine ⟨_, rfl, rfl, _, _, rfl, rfl, _, rfl, tif_to (.str fg) (fun e Q q => ⟨_, rfl, 1, rfl, t, rfl, fits hz, ?_⟩) (fun e Q q => ⟨.str t, rfl, ?_⟩) ?_⟩
    · rw [minus] at e
      rw [if_pos e] at efg
      rw [efg]; exact q
    · rw [minus] at e
      rw [if_neg (by rw [e]; decide)] at efg
      rw [efg]; exact q
    have hL : fg.length = (fig (cs t)).length := by rw [← Fg.cs_len]; rw [hfc]
    refine ⟨_, rfl, _, _, rfl, ⟨fits hzf, rfl⟩, _, _, rfl, rfl, _, rfl, iteB (fun c1 => ?_) (fun c1 => ?_)⟩
    · have c1 := of_decide_eq_true c1
      exact ⟨(by show 1 ≤ 1000; decide), kE (hno fun o => by have := (Fg.ok_iff.mp o).1; omega) _ (Same.refl _)⟩
    have c1 := of_decide_eq_false c1
    refine ⟨_, rfl, _, _, rfl, ⟨fits hzf, rfl⟩, _, _, rfl, rfl, _, rfl, iteB (fun c2 => ?_) (fun c2 => ?_)⟩
    · have c2 := of_decide_eq_true c2
      exact ⟨(by show 1 ≤ 1000; decide), kE (hno fun o => by have := (Fg.ok_iff.mp o).2.1; omega) _ (Same.refl _)⟩
    have c2 := of_decide_eq_false c2
    -- any([sign not in FIGURES for sign in figures])
    refine ⟨_, rfl, fg, rfl, fun p hp => ?_⟩
    refine turns_str (x := fg) (fun i σ H2 => (∃ v, σ = [v]) ∧ Same H H2 ∧ H2 p = some (.lst ((((cs fg).take i).map fun c => !dig c).map V.bl)))
      ⟨⟨_, rfl⟩, Same.upd hp, upd_same⟩ ?_ ?_
    · rintro i c σ H2 hx ⟨⟨v, rfl⟩, s2, h2⟩
      refine ⟨_, rfl, _, _, rfl, rfl, _, h2, ?_, ⟨_, rfl⟩, Same.updN s2 hp, ?_⟩
      · rw [List.length_map, List.length_map, List.length_take, sizeLine_eq]
        have := Fg.cs_len fg
        omega
      · rw [upd_same, dig_in, take_snoc hx, List.map_append, List.map_append]
        rfl
    rintro σ H2 ⟨_, s2, h2⟩
    rw [List.take_length] at h2
    refine ⟨p, _, rfl, SqL.of h2, _, rfl, ?_⟩
    have ha : (((cs fg).map fun c => !dig c).any _root_.id) = !(fig (cs t)).all dig := by
      rw [hfc, List.any_map, List.all_eq_not_any_not, Bool.not_not]
      rfl
    rw [ha]
    refine iteB (fun c3 => ?_) (fun c3 => ?_)
    · exact ⟨(by show 1 ≤ 1000; decide), kE (hno fun o => by rw [(Fg.ok_iff.mp o).2.2.1] at c3; cases c3) _ s2⟩
    have c3 : (fig (cs t)).all dig = true := by simpa using c3
    -- figures.startswith('0') and word != '0'
    refine ⟨_, rfl, rfl, _, _, rfl, rfl, _, rfl, ?_⟩
    rw [nought, Fg.starts_one, hfc]
    have fin : ok (cs t) = true → _ := fun o => kQ o H2 s2
    have good : ((fig (cs t)).head? ≠ some 48 ∨ cs t = [48]) → ok (cs t) = true := fun g => Fg.ok_iff.mpr ⟨by omega, by omega, c3, g⟩
    have hlen : t.length ≤ 640 := by
      rw [← Fg.cs_len]
      rcases Fg.neg_or (cs t) with ⟨r, er⟩ | hn
      · rw [er, Fg.fig_neg] at hL
        rw [er, List.length_cons]
        omega
      · rw [Fg.fig_of hn] at hL
        omega
    refine iteB (fun c4 => ?_) (fun c4 => ?_)
    · have c4 := of_decide_eq_true c4
      refine ⟨_, rfl, .inl ⟨rfl, _, rfl, iteB (fun c5 => ?_) (fun c5 => ?_)⟩⟩
      · refine ⟨(by show 1 ≤ 1000; decide), kE (hno fun o => ?_) _ s2⟩
        rcases (Fg.ok_iff.mp o).2.2.2 with q | q
        · exact q c4
        · have : t = ⟨#[48]⟩ := Fg.str_ext q
          rw [this] at c5
          simp at c5
      · have et : t = ⟨#[48]⟩ := by
          simpa using c5
        have o := good (.inr (by rw [et]))
        exact ⟨_, rfl, t, _, rfl, Fg.int_of o, hlen, fin o⟩
    · have o := good (.inl (of_decide_eq_false c4))
      exact ⟨_, rfl, t, _, rfl, Fg.int_of o, hlen, fin o⟩
end
end My
/-! sidings.texts: read, written. -/
namespace My
open PySem L2
open Fg (cs ok val sg jn fig dig inT wr words bk)
section
variable {P : Program} {w : World} {K : PySem.W.Frag} {mg : Str → Option Value} {base : Heap} {Z : Adr}
def near (n : Int) : Prop := -999999 ≤ n ∧ n ≤ 999999
def sp_written (Z : Adr) : Sp := fun vs H Q E => ∃ (a : Addr) (ns : List Int), vs = [.ref a] ∧ H a = some (.lst (ns.map V.int)) ∧ ns.length < 64 ∧ ns.Nodup ∧
  ((∀ n ∈ ns, near n) → ∀ H', Same H H' → Q (.str (wr ns)) H') ∧ ((∃ n ∈ ns, ¬ near n) → ∀ H', Same H H' → E (.ref Z.cBadTrain) none H')
theorem sc_written : FnScope ["train", "wagons", "wagon"] ["train"] (defScope s_written) := ⟨rfl, rfl, rfl, by decide +kernel, rfl, by decide +kernel, by decide +kernel⟩
theorem C_written (T : Tx K mg Z) : Ctr P w K mg base (CXe P w) 4 "written" ["train"] (sp_written Z) := by
  refine ctr_of T.written fun f fd F => F.okE sc_written (fun vs H Q E h => ?_) (fun cdv A outer s H vs Q E hr h => ?_)
  · obtain ⟨a, ns, rfl, _⟩ := h
    rfl
  · obtain ⟨a, ns, rfl, ha, hz, hnd, kQ, kE⟩ := h
    refine' ⟨_, ?hterm, ?_⟩
    case hterm =>
      refine' pss_cons ?q1 ?q2
      case q1 =>
        refine' ps_set (i := 1) sc_written.nd rfl (Or.inl rfl) ?q3
        case q3 =>
          refine' pe_callC (C_checked_train T) (hr.mono (by decide)) rfl ?q4
          case q4 =>
            refine' pa_cons ?q5 ?q6
            case q5 => exact pv 0
            case q6 => exact pa_nil
      case q2 =>
        refine' pss_cons ?q7 ?q8
        case q7 =>
          refine' ps_for PassesOwn.leaving rfl ?q9 ?q10 ?q11
          case q9 =>
            refine' pi_listK (K := K) (by rfl) ?q12
            case q12 => exact pv 1
          case q10 => exact pg_name (i := 2) sc_written.nd (by rfl) (by exact Or.inl rfl)
          case q11 =>
            refine' pss_one ?q13
            case q13 =>
              refine' ps_if ?q14 ?q15 ?q16
              case q14 =>
                refine' pt_cmpR op_gt ?q17 ?q18 (nomark _)
                case q17 =>
                  refine' pe_callB call_abs (by rfl) T.n_abs b_abs ?q19
                  case q19 =>
                    refine' pa_cons ?q20 ?q21
                    case q20 => exact pv 2
                    case q21 => exact pa_nil
                case q18 => exact pe_gint (by rfl) T.g_MOST
              case q15 =>
                refine' pss_one ?q22
                case q22 =>
                  refine' ps_raise0 (k := 0) T.x0_BadTrain (hr.mono (by decide)) T.c_BadTrain rfl raisesE ?q23
                  case q23 =>
                    refine' pa_cons ?q24 ?q25
                    case q24 => exact pe_str
                    case q25 => exact pa_nil
              case q16 => exact pss_nil
        case q8 =>
          refine' pss_one ?q26
          case q26 =>
            refine' ps_ret ?q27
            case q27 =>
              refine' pe_bmK (K := K) (by rfl) PySem.F.plainAttrs_str PySem.F.slot_str_join PySem.F.type_str_join (mt_joinK (K := K) (by rfl)) ?q28 ?q29
              case q28 => exact pe_str
              case q29 =>
                refine' pa_cons ?q30 ?q31
                case q30 =>
                  refine' pe_comp rfl (csc_of (sc := defScope s_written) (N := ["train", "wagons", "wagon"]) (cap := [none]) (N' := ["wagon"]) rfl rfl ⟨ rfl, by decide +kernel, by decide +kernel, by decide +kernel, rfl, by decide +kernel ⟩) ?q32 (fun _ _ _ _ => ?q33) (fun _ _ _ _ => ?q34) (fun _ _ _ _ => ?q35)
                  case q32 =>
                    refine' pi_listK (K := K) (by rfl) ?q36
                    case q36 => exact pv 1
                  case q33 => exact pg_name (i := 0) (show List.Nodup (["wagon"] : List Str) from by decide +kernel) (by rfl) (by exact Or.inl rfl)
                  case q34 => exact pif_nil
                  case q35 =>
                    refine' pe_callTy call_str_int (by rfl) T.n_str b_str ?q37
                    case q37 =>
                      refine' pa_cons ?q38 ?q39
                      case q38 => exact pv 0
                      case q39 => exact pa_nil
                case q31 => exact pa_nil
    refine ⟨_, rfl, a, ns, rfl, ha, hz, hnd, fun p H1 s1 f1 h1 => ?_⟩
    refine ⟨_, rfl, p, rfl, ⟨_, SqL.of h1⟩, for_list (K := K) (a := p) (xs := ns.map V.int) (fun i σ H2 => (∃ v, σ = [some (.ref a), some (.ref p), v]) ∧ H2 = H1 ∧ ∀ n ∈ ns.take i, near n)
      ⟨⟨_, rfl⟩, rfl, fun n hn => by cases hn⟩ (fun i σ H2 _ ⟨_, z, _⟩ => by rw [z]; exact SqL.of h1) ?_ ?_⟩
    · rintro i x σ H2 hx ⟨⟨v, rfl⟩, rfl, hn⟩
      obtain ⟨z, ez, rfl⟩ := getMap hx
      refine ⟨_, rfl, z, rfl, _, _, rfl, rfl, _, rfl, iteB (fun c => ?_) (fun c => ?_)⟩
      · have c := of_decide_eq_true c
        refine ⟨(by show 1 ≤ 1000; decide), kE ⟨z, List.mem_of_getElem? ez, fun q => ?_⟩ _ s1⟩
        unfold near at q
        split at c <;> omega
      · have c := of_decide_eq_false c
        refine ⟨⟨_, rfl⟩, rfl, fun n hn' => ?_⟩
        rw [take_snoc ez] at hn'
        rcases List.mem_append.mp hn' with q | q
        · exact hn n q
        · rw [List.mem_singleton.mp q]
          unfold near
          split at c <;> omega
    rintro σ H2 ⟨⟨v, rfl⟩, rfl, hn⟩
    rw [List.length_map, List.take_length] at hn
    have hlg : ∀ n ∈ ns, n.natAbs < 10 ^ 10 := fun n h => by have := hn n h; unfold near at this; omega
    refine ⟨rfl, _, rfl, p, rfl, ⟨_, SqL.of h1⟩, fun q hq => ?_⟩
    refine turns_list (K := K) (a := p) (xs := ns.map V.int) (fun i σ H3 => (∃ v, σ = [v]) ∧ Same H2 H3 ∧ H3 q = some (.lst (((ns.take i).map fun n => (Str.ofString (toString n))).map V.str)))
      ⟨⟨_, rfl⟩, Same.upd hq, upd_same⟩ (fun i σ H2 _ h => SqL.of (h.2.1 _ _ h1)) ?_ ?_
    · rintro i x σ H3 hx ⟨⟨v, rfl⟩, s2, h2⟩
      obtain ⟨z, ez, rfl⟩ := getMap hx
      refine ⟨_, rfl, z, rfl, ?_, _, h2, ?_, ⟨_, rfl⟩, Same.updN s2 hq, ?_⟩
      · have := hlg z (List.mem_of_getElem? ez)
        exact Nat.lt_trans (Fg.log_small this) (by decide)
      · rw [List.length_map, List.length_map, List.length_take]
        exact small1000 (by omega)
      · rw [upd_same, take_snoc ez, List.map_append, List.map_append]
        rfl
    rintro σ H3 ⟨_, s2, h2⟩
    rw [List.length_map, List.take_length] at h2
    refine ⟨_, q, _, rfl, rfl, SqL.of h2, ?_, ?_⟩
    · have := Fg.strs_sum hlg
      show _ + (ns.map _).length * 1 ≤ 16777216
      rw [List.length_map]
      omega
    · rw [show (" " : Str) = bk by decide +kernel, Fg.join_wr]
      exact kQ hn _ (s1.trans s2)
def sp_read (K : PySem.W.Frag) (Z : Adr) : Sp := fun vs H Q E =>
  (∃ t : Str, vs = [.str t] ∧ t.length ≤ 9000 ∧ (cs t).count 32 < 63 ∧ (∀ ns, inT t = some ns → ∀ p H', Same H H' → H p = none → H' p = some (.lst (ns.map V.int)) → Q (.ref p) H') ∧ (inT t = none → ∀ H', Same H H' → E (.ref Z.cBadText) none H'))
  ∨ ∃ x, vs = [x] ∧ NoText K H x ∧ E (.ref Z.cBadText) none H
theorem sc_read : FnScope ["text", "plain", "wagons"] ["text"] (defScope s_read) := ⟨rfl, rfl, rfl, by decide +kernel, rfl, by decide +kernel, by decide +kernel⟩
theorem C_read (T : Tx K mg Z) : Ctr P w K mg base (CXe P w) 3 "read" ["text"] (sp_read K Z) := by
  refine ctr_of T.read fun f fd F => F.okE sc_read (fun vs H Q E h => ?_) (fun cdv A outer s H vs Q E hr h => ?_)
  · rcases h with ⟨t, rfl, _⟩ | ⟨x, rfl, _⟩ <;> rfl
  · refine' ⟨_, ?hterm, ?_⟩
    case hterm =>
      refine' pss_cons ?q1 ?q2
      case q1 =>
        refine' ps_set (i := 1) sc_read.nd rfl (Or.inl rfl) ?q3
        case q3 =>
          refine' pe_callCE (C_checked_text T) (hr.mono (by decide)) rfl ?q4 (passE (fun _ _ _ z => z))
          case q4 =>
            refine' pa_cons ?q5 ?q6
            case q5 => exact pv 0
            case q6 => exact pa_nil
      case q2 =>
        refine' pss_cons ?q7 ?q8
        case q7 =>
          refine' ps_if ?q9 ?q10 ?q11
          case q9 =>
            refine' pt_cmpR (op_eqK (K := K) (by rfl) (by exact hr.units)) ?q12 ?q13 (nomark _)
            case q12 => exact pv 1
            case q13 => exact pe_str
          case q10 =>
            refine' pss_one ?q14
            case q14 =>
              refine' ps_ret ?q15
              case q15 =>
                refine' pe_lst ?q16
                case q16 => exact pa_nil
          case q11 => exact pss_nil
        case q8 =>
          refine' pss_cons ?q17 ?q18
          case q17 =>
            refine' ps_setCompE (i := 2) sc_read.nd rfl rfl rfl rfl rfl raisesF (csc_of (sc := defScope s_read) (N := ["text", "plain", "wagons"]) (cap := [none]) (N' := ["word"]) rfl rfl ⟨ rfl, by decide +kernel, by decide +kernel, by decide +kernel, rfl, by decide +kernel ⟩) ?q19 (fun _ _ _ _ => ?q20) (fun _ _ _ _ => ?q21) (fun _ _ _ _ => ?q22)
            case q19 =>
              refine' pi_listK (K := K) (by rfl) ?q23
              case q23 =>
                refine' pe_bmK (K := K) (by rfl) PySem.F.plainAttrs_str PySem.F.slot_str_split PySem.F.type_str_split mt_split ?q24 ?q25
                case q24 => exact pv 1
                case q25 =>
                  refine' pa_cons ?q26 ?q27
                  case q26 => exact pe_str
                  case q27 => exact pa_nil
            case q20 => exact pg_name (i := 0) (show List.Nodup (["word"] : List Str) from by decide +kernel) (by rfl) (by exact Or.inl rfl)
            case q21 => exact pif_nil
            case q22 =>
              refine' pe_callCE (C_read_wagon T) (hr.mono (by decide)) rfl ?q28 passC
              case q28 =>
                refine' pa_cons ?q29 ?q30
                case q29 => exact pv 0
                case q30 => exact pa_nil
          case q18 =>
            refine' pss_cons ?q31 ?q32
            case q31 =>
              refine' ps_if ?q33 ?q34 ?q35
              case q33 =>
                refine' pt_truK (K := K) (by rfl) ?q36 (fun _ => rfl)
                case q36 =>
                  refine' pe_callC (C_has_two_alike T) (hr.mono (by decide)) rfl ?q37
                  case q37 =>
                    refine' pa_cons ?q38 ?q39
                    case q38 => exact pv 2
                    case q39 => exact pa_nil
              case q34 =>
                refine' pss_one ?q40
                case q40 =>
                  refine' ps_raise0 (k := 0) T.x0_BadText (hr.mono (by decide)) T.c_BadText rfl raisesE ?q41
                  case q41 =>
                    refine' pa_cons ?q42 ?q43
                    case q42 => exact pe_str
                    case q43 => exact pa_nil
              case q35 => exact pss_nil
            case q32 =>
              refine' pss_one ?q44
              case q44 =>
                refine' ps_ret ?q45
                case q45 => exact pv 2
    rcases h with ⟨t, rfl, hz, hcnt, kQ, kE⟩ | ⟨x, rfl, hx, q⟩
    rotate_left
    · exact ⟨_, rfl, .inr ⟨x, rfl, hx, q⟩⟩
    refine ⟨_, rfl, .inl ⟨t, rfl, by omega, fun H1 s1 => ?_⟩⟩
    refine ⟨_, rfl, .inl ⟨rfl, _, rfl, iteB (fun c => ?_) (fun c => ?_)⟩⟩
    · have c : t = ⟨#[]⟩ := V.str.inj (of_decide_eq_true c)
      refine ⟨Nat.zero_le _, fun l hl => ?_⟩
      exact kQ [] (by unfold inT; rw [if_pos c]) l _ (s1.trans (Same.upd hl)) (s1.free hl) upd_same
    have c : t ≠ ⟨#[]⟩ := fun z => of_decide_eq_false c (by rw [z]; rfl)
    have hwl := Fg.words_len t
    have hW : ∀ x ∈ words t, x.length ≤ 10000 := fun x hx => by have := Fg.word_len hx; omega
    refine ⟨_, rfl, rfl, t, bk, rfl, rfl, rfl, by rw [sizeLine_eq]; omega, fun l hl => ⟨l, rfl, ⟨_, SqL.of upd_same⟩, fun p hp => ?_⟩⟩
    have s2 := s1.trans (Same.upd (o := .lst ((words t).map V.str)) hl)
    have hHp := s2.free hp
    refine turns_list (K := K) (a := l) (xs := (words t).map V.str) (fun i σ H2 => (∃ v, σ = [v]) ∧ Same H H2 ∧ H2 l = some (.lst ((words t).map V.str)) ∧ H2 p = some (.lst ((((words t).take i).map fun w => val (cs w)).map V.int)) ∧ ((words t).take i).all (fun w => ok (cs w)) = true)
      ⟨⟨_, rfl⟩, s2.trans (Same.upd hp), upd_get upd_same hp, upd_same, rfl⟩ (fun i σ H2 _ h => SqL.of h.2.2.1) ?_ ?_
    · rintro i x σ H2 hx ⟨⟨v, rfl⟩, s3, h2, h3, ho⟩
      obtain ⟨z, ez, rfl⟩ := getMap hx
      have hzm := List.mem_of_getElem? ez
      have hlp : l ≠ p := ne_of_none upd_same hp
      refine ⟨_, rfl, z, rfl, hW z hzm, fun o H3 s4 => ⟨_, s4 _ _ h3, ?_, ⟨_, rfl⟩, ?_, ?_, ?_, ?_⟩, fun o H3 s4 => kE ?_ _ (s3.trans s4)⟩
      · rw [List.length_map, List.length_map, List.length_take]
        exact small1000 (by omega)
      · exact Same.updN (s3.trans s4) hHp
      · rw [upd_ne hlp]; exact s4 _ _ h2
      · rw [upd_same, take_snoc ez, List.map_append, List.map_append]; rfl
      · rw [take_snoc ez, List.all_append, ho, Bool.true_and]
        simpa using o
      · unfold inT
        rw [if_neg c, if_neg]
        rintro ⟨q, _⟩
        rw [List.all_eq_true.mp q z hzm] at o
        cases o
    rintro σ H2 ⟨_, s3, h2, h3, ho⟩
    rw [List.length_map, List.take_length] at h3 ho
    refine ⟨_, rfl, p, (words t).map fun w => val (cs w), rfl, SqL.of h3, by rw [List.length_map]; omega, fun H3 s4 => ⟨_, rfl, ?_⟩⟩
    refine iteB (fun c2 => ?_) (fun c2 => ?_)
    · refine ⟨(by show 1 ≤ 1000; decide), kE ?_ _ (s3.trans s4)⟩
      unfold inT
      rw [if_neg c, if_neg]
      rintro ⟨_, q⟩
      rw [decide_eq_true q] at c2
      cases c2
    · refine ⟨_, rfl, kQ _ ?_ p H3 (s3.trans s4) hHp (s4 _ _ h3)⟩
      unfold inT
      rw [if_neg c, if_pos ⟨ho, by simpa using c2⟩]
end
end My
/-! The law's own: refused. -/
namespace My
open PySem L2
open Fg (cs ok val sg jn fig dig inT wr words bk)
section
variable {P : Program} {w : World} {K : PySem.W.Frag} {mg : Str → Option Value} {base : Heap} {Z : Adr}
def spR_refused (P : Program) (w : World) (K : PySem.W.Frag) (mg : Str → Option Value) (base : Heap) (Z : Adr) : Sp := fun vs H Q _ => ∃ (f d : Addr) (x : V) (ps : List Str) (sp : Sp) (b : Bool), vs = [.ref f, x, .ref d] ∧ CtrV P w K mg base 5 f ps sp ∧
  H d = some (.lst [.bl b, .bl (!b)]) ∧ (∀ Q' E', (∀ H', Same H H' → E' (.ref (if b then Z.cBadText else Z.cBadTrain)) none H') → sp [x] H Q' E') ∧ ∀ H', Same H H' → Q (.bl true) H'
theorem sc__law_refused : FnScope ["_law_ask", "_law_thing", "_law_due", "error", "_law_others"] ["_law_ask", "_law_thing", "_law_due"] (defScope s__law_refused) := ⟨rfl, rfl, rfl, by decide +kernel, rfl, by decide +kernel, by decide +kernel⟩
theorem C__law_refused (T : Tx K mg Z) : Ctr P w K mg base CX0 7 "_law_refused" ["_law_ask", "_law_thing", "_law_due"] (spR_refused P w K mg base Z) := by
  refine ctr_of T._law_refused fun f fd F => F.ok sc__law_refused (fun vs H Q E h => ?_) (fun cdv A outer s H vs Q E hr h => ?_)
  · obtain ⟨g, d, x, ps, sp, b, rfl, _⟩ := h
    rfl
  · obtain ⟨g, d, x, ps, sp, b, rfl, hc, hd, hsp, kQ⟩ := h
    refine' ⟨_, ?hterm, ?_⟩
    case hterm =>
      refine' pss_cons ?q1 ?q2
      case q1 =>
        refine' ps_try (K := K) (i := 3) (by rfl) rfl rfl ?q3 rfl T.c_YardError T.xc_YardError T.xty_YardError sc__law_refused.nd rfl rfl (fun ea => ?q4)
        case q3 =>
          refine' psx_expr ?q5
          case q5 =>
            refine' px_callV (i := 0) (k := 5) rfl (Or.inl rfl) (hr.mono (by decide)) ?q6
            case q6 =>
              refine' pa_cons ?q7 ?q8
              case q7 => exact pv 1
              case q8 => exact pa_nil
        case q4 =>
          refine' pss_cons ?q9 ?q10
          case q9 =>
            refine' ps_set (i := 4) sc__law_refused.nd rfl (Or.inl rfl) ?q11
            case q11 =>
              refine' pe_lst ?q12
              case q12 =>
                refine' pa_cons ?q13 ?q14
                case q13 =>
                  refine' pe_callB (callX_isinstance (K := K) (by rfl)) (by rfl) T.n_isinstance b_isinstance ?q15
                  case q15 =>
                    refine' pa_cons ?q16 ?q17
                    case q16 => exact pv 3
                    case q17 =>
                      refine' pa_cons ?q18 ?q19
                      case q18 => exact pe_clsN (by rfl) T.c_BadMoves
                      case q19 => exact pa_nil
                case q14 =>
                  refine' pa_cons ?q20 ?q21
                  case q20 =>
                    refine' pe_callB (callX_isinstance (K := K) (by rfl)) (by rfl) T.n_isinstance b_isinstance ?q22
                    case q22 =>
                      refine' pa_cons ?q23 ?q24
                      case q23 => exact pv 3
                      case q24 =>
                        refine' pa_cons ?q25 ?q26
                        case q25 => exact pe_clsN (by rfl) T.c_BadYard
                        case q26 => exact pa_nil
                  case q21 =>
                    refine' pa_cons ?q27 ?q28
                    case q27 =>
                      refine' pe_callB (callX_isinstance (K := K) (by rfl)) (by rfl) T.n_isinstance b_isinstance ?q29
                      case q29 =>
                        refine' pa_cons ?q30 ?q31
                        case q30 => exact pv 3
                        case q31 =>
                          refine' pa_cons ?q32 ?q33
                          case q32 => exact pe_clsN (by rfl) T.c_Stuck
                          case q33 => exact pa_nil
                    case q28 => exact pa_nil
          case q10 =>
            refine' pss_one ?q34
            case q34 =>
              refine' ps_ret ?q35
              case q35 =>
                refine' pe_and ?q36 ?q37
                case q36 =>
                  refine' pe_cmpR (op_eqBs (K := K) (by rfl) (by exact hr.units)) ?q38 ?q39 (nomark _)
                  case q38 =>
                    refine' pe_lst ?q40
                    case q40 =>
                      refine' pa_cons ?q41 ?q42
                      case q41 =>
                        refine' pe_callB (callX_isinstance (K := K) (by rfl)) (by rfl) T.n_isinstance b_isinstance ?q43
                        case q43 =>
                          refine' pa_cons ?q44 ?q45
                          case q44 => exact pv 3
                          case q45 =>
                            refine' pa_cons ?q46 ?q47
                            case q46 => exact pe_clsN (by rfl) T.c_BadText
                            case q47 => exact pa_nil
                      case q42 =>
                        refine' pa_cons ?q48 ?q49
                        case q48 =>
                          refine' pe_callB (callX_isinstance (K := K) (by rfl)) (by rfl) T.n_isinstance b_isinstance ?q50
                          case q50 =>
                            refine' pa_cons ?q51 ?q52
                            case q51 => exact pv 3
                            case q52 =>
                              refine' pa_cons ?q53 ?q54
                              case q53 => exact pe_clsN (by rfl) T.c_BadTrain
                              case q54 => exact pa_nil
                        case q49 => exact pa_nil
                  case q39 => exact pv 2
                case q37 =>
                  refine' pe_one ?q55
                  case q55 =>
                    refine' pe_not ?q56
                    case q56 =>
                      refine' pe_callB (callH_any (ea := ea) (K := K) (by rfl) (by rfl)) (by rfl) T.n_any b_any ?q57
                      case q57 =>
                        refine' pa_cons ?q58 ?q59
                        case q58 => exact pv 4
                        case q59 => exact pa_nil
      case q2 =>
        refine' pss_one ?q60
        case q60 =>
          refine' ps_ret ?q61
          case q61 => exact pe_bl
    refine ⟨g, ps, sp, rfl, hc, _, rfl, hsp _ _ fun H1 s1 => ?_⟩
    have nd : ∀ d : Addr, (none : Option Addr) = some d → ∃ u, H1 d = some u := fun _ z => by cases z
    cases b
    · refine ⟨Z.cBadTrain, rfl, nd, T.mro_BadTrain_YardError, fun ea hea => ?_⟩
      have nd : ∀ d : Addr, (none : Option Addr) = some d → ∃ u, upd H1 ea (XH ea Z.cBadTrain none) d = some u := fun _ z => by cases z
      refine ⟨_, rfl, ea, Z.cBadTrain, Z.cBadMoves, none, _, rfl, upd_same, nd, T.xc_BadTrain, T.kit_BadTrain_BadMoves, ?_⟩
      refine ⟨_, rfl, ea, Z.cBadTrain, Z.cBadYard, none, _, rfl, upd_same, nd, T.xc_BadTrain, T.kit_BadTrain_BadYard, ?_⟩
      refine ⟨_, rfl, ea, Z.cBadTrain, Z.cStuck, none, _, rfl, upd_same, nd, T.xc_BadTrain, T.kit_BadTrain_Stuck, ?_⟩
      refine ⟨(by show 3 ≤ sizeLine; decide), fun l hl => ?_⟩
      have hel : upd (upd H1 ea (XH ea Z.cBadTrain none)) l (.lst [.bl false, .bl false, .bl false]) ea = some (XH ea Z.cBadTrain none) := upd_get upd_same hl
      have nd : ∀ d : Addr, (none : Option Addr) = some d → ∃ u, upd (upd H1 ea (XH ea Z.cBadTrain none)) l (.lst [.bl false, .bl false, .bl false]) d = some u := fun _ z => by cases z
      refine ⟨_, rfl, ea, Z.cBadTrain, Z.cBadText, none, _, rfl, hel, nd, T.xc_BadTrain, T.kit_BadTrain_BadText, ?_⟩
      refine ⟨_, rfl, ea, Z.cBadTrain, Z.cBadTrain, none, _, rfl, hel, nd, T.xc_BadTrain, kit_same, ?_⟩
      refine ⟨(by show 2 ≤ sizeLine; decide), fun m hm => ?_⟩
      have sm := ((s1.trans (Same.upd hea)).trans (Same.upd hl)).trans (Same.upd (o := .lst [.bl false, .bl true]) hm)
      refine ⟨_, rfl, m, d, [false, true], [false, true], rfl, rfl, SqL.of upd_same, SqL.of (sm _ _ hd), rfl, rfl, _, rfl, ?_⟩
      refine iteT ⟨_, rfl, l, Z.cBadTrain, none, [false, false, false], rfl, upd_get hel hm, SqL.of (upd_get upd_same hm), _, rfl, ?_⟩
      exact kQ _ sm
    · refine ⟨Z.cBadText, rfl, nd, T.mro_BadText_YardError, fun ea hea => ?_⟩
      have nd : ∀ d : Addr, (none : Option Addr) = some d → ∃ u, upd H1 ea (XH ea Z.cBadText none) d = some u := fun _ z => by cases z
      refine ⟨_, rfl, ea, Z.cBadText, Z.cBadMoves, none, _, rfl, upd_same, nd, T.xc_BadText, T.kit_BadText_BadMoves, ?_⟩
      refine ⟨_, rfl, ea, Z.cBadText, Z.cBadYard, none, _, rfl, upd_same, nd, T.xc_BadText, T.kit_BadText_BadYard, ?_⟩
      refine ⟨_, rfl, ea, Z.cBadText, Z.cStuck, none, _, rfl, upd_same, nd, T.xc_BadText, T.kit_BadText_Stuck, ?_⟩
      refine ⟨(by show 3 ≤ sizeLine; decide), fun l hl => ?_⟩
      have hel : upd (upd H1 ea (XH ea Z.cBadText none)) l (.lst [.bl false, .bl false, .bl false]) ea = some (XH ea Z.cBadText none) := upd_get upd_same hl
      have nd : ∀ d : Addr, (none : Option Addr) = some d → ∃ u, upd (upd H1 ea (XH ea Z.cBadText none)) l (.lst [.bl false, .bl false, .bl false]) d = some u := fun _ z => by cases z
      refine ⟨_, rfl, ea, Z.cBadText, Z.cBadText, none, _, rfl, hel, nd, T.xc_BadText, kit_same, ?_⟩
      refine ⟨_, rfl, ea, Z.cBadText, Z.cBadTrain, none, _, rfl, hel, nd, T.xc_BadText, T.kit_BadText_BadTrain, ?_⟩
      refine ⟨(by show 2 ≤ sizeLine; decide), fun m hm => ?_⟩
      have sm := ((s1.trans (Same.upd hea)).trans (Same.upd hl)).trans (Same.upd (o := .lst [.bl true, .bl false]) hm)
      refine ⟨_, rfl, m, d, [true, false], [true, false], rfl, rfl, SqL.of upd_same, SqL.of (sm _ _ hd), rfl, rfl, _, rfl, ?_⟩
      refine iteT ⟨_, rfl, l, Z.cBadText, none, [false, false, false], rfl, upd_get hel hm, SqL.of (upd_get upd_same hm), _, rfl, ?_⟩
      exact kQ _ sm
end
end My
/-! The law's own: a word's number, a text's wagons, right. -/
namespace My
open PySem L2
open Fg (cs ok val sg jn fig dig inT wr words bk)
section
variable {P : Program} {w : World} {K : PySem.W.Frag} {mg : Str → Option Value} {base : Heap} {Z : Adr}
def numV (t : Str) : V := if ok (cs t) = true then .int (val (cs t)) else .non
def spN_number : Sp := fun vs H Q _ => ∃ t : Str, vs = [.str t] ∧ t.length ≤ 10000 ∧ ∀ H', Same H H' → Q (numV t) H'
theorem sc__law_number : FnScope ["_law_word", "_law_figures"] ["_law_word"] (defScope s__law_number) := ⟨rfl, rfl, rfl, by decide +kernel, rfl, by decide +kernel, by decide +kernel⟩
theorem C__law_number (T : Tx K mg Z) : Ctr P w K mg base CX0 1 "_law_number" ["_law_word"] spN_number := by
  refine ctr_of T._law_number fun f fd F => F.ok sc__law_number (fun vs H Q E h => ?_) (fun cdv A outer s H vs Q E hr h => ?_)
  · obtain ⟨t, rfl, _⟩ := h
    rfl
  · obtain ⟨t, rfl, hz, kQ⟩ := h
    refine' ⟨_, ?hterm, ?_⟩
    case hterm =>
      refine' pss_cons ?q1 ?q2
      case q1 =>
        refine' ps_set (i := 1) sc__law_number.nd rfl (Or.inl rfl) ?q3
        case q3 =>
          refine' pe_ifExp ?q4 ?q5 ?q6
          case q4 =>
            refine' pt_cmpR (op_eqK (K := K) (by rfl) (by exact hr.units)) ?q7 ?q8 (nomark _)
            case q7 =>
              refine' pe_slice sl_str ?q9 ?q10 ?q11
              case q9 => exact pv 0
              case q10 => exact po_none
              case q11 =>
                refine' po_some ?q12
                case q12 => exact pe_int
            case q8 => exact pe_str
          case q5 =>
            refine' pe_slice sl_str ?q13 ?q14 ?q15
            case q13 => exact pv 0
            case q14 =>
              refine' po_some ?q16
              case q16 => exact pe_int
            case q15 => exact po_none
          case q6 => exact pv 0
      case q2 =>
        refine' pss_cons ?q17 ?q18
        case q17 =>
          refine' ps_if ?q19 ?q20 ?q21
          case q19 =>
            refine' PW.pt ?q22
            case q22 =>
              refine' pw_or ?q23 ?q24
              case q23 =>
                refine' pt_not ?q25
                case q25 =>
                  refine' pt_chain op_lt op_lt ?q26 ?q27 ?q28
                  case q26 => exact pe_int
                  case q27 =>
                    refine' pe_callB (callK_len (K := K) (by rfl)) (by rfl) T.n_len b_len ?q29
                    case q29 =>
                      refine' pa_cons ?q30 ?q31
                      case q30 => exact pv 1
                      case q31 => exact pa_nil
                  case q28 => exact pe_int
              case q24 =>
                refine' pw_or1 ?q32
                case q32 =>
                  refine' pt_not ?q33
                  case q33 =>
                    refine' pt_truK (K := K) (by rfl) ?q34 (fun _ => rfl)
                    case q34 =>
                      refine' pe_callB (callK_all (K := K) (by rfl) (by rfl)) (by rfl) T.n_all b_all ?q35
                      case q35 =>
                        refine' pa_cons ?q36 ?q37
                        case q36 =>
                          refine' pe_comp rfl (csc_of (sc := defScope s__law_number) (N := ["_law_word", "_law_figures"]) (cap := [none]) (N' := ["_law_sign"]) rfl rfl ⟨ rfl, by decide +kernel, by decide +kernel, by decide +kernel, rfl, by decide +kernel ⟩) ?q38 (fun _ _ _ _ => ?q39) (fun _ _ _ _ => ?q40) (fun _ _ _ _ => ?q41)
                          case q38 =>
                            refine' pi_str ?q42
                            case q42 => exact pv 1
                          case q39 => exact pg_name (i := 0) (show List.Nodup (["_law_sign"] : List Str) from by decide +kernel) (by rfl) (by exact Or.inl rfl)
                          case q40 => exact pif_nil
                          case q41 =>
                            refine' pe_cmpR op_in_str ?q43 ?q44 (by with_unfolding_all rfl)
                            case q43 => exact pv 0
                            case q44 => exact pe_str
                        case q37 => exact pa_nil
          case q20 =>
            refine' pss_one ?q45
            case q45 =>
              refine' ps_ret ?q46
              case q46 => exact pe_non
          case q21 => exact pss_nil
        case q18 =>
          refine' pss_cons ?q47 ?q48
          case q47 =>
            refine' ps_if ?q49 ?q50 ?q51
            case q49 =>
              refine' PW.pt ?q52
              case q52 =>
                refine' pw_and ?q53 ?q54
                case q53 =>
                  refine' pt_cmpR (op_eqK (K := K) (by rfl) (by exact hr.units)) ?q55 ?q56 (nomark _)
                  case q55 =>
                    refine' pe_ix ix_str ?q57 ?q58 (fun _ _ => rfl)
                    case q57 => exact pv 1
                    case q58 => exact pe_int
                  case q56 => exact pe_str
                case q54 =>
                  refine' pw_and1 ?q59
                  case q59 =>
                    refine' pt_cmpR (op_neK (K := K) (by rfl) (by exact hr.units)) ?q60 ?q61 (nomark _)
                    case q60 => exact pv 0
                    case q61 => exact pe_str
            case q50 =>
              refine' pss_one ?q62
              case q62 =>
                refine' ps_ret ?q63
                case q63 => exact pe_non
            case q51 => exact pss_nil
          case q48 =>
            refine' pss_one ?q64
            case q64 =>
              refine' ps_ret ?q65
              case q65 =>
                refine' pe_callTy call_intS (by rfl) T.n_int b_int ?q66
                case q66 =>
                  refine' pa_cons ?q67 ?q68
                  case q67 => exact pv 0
                  case q68 => exact pa_nil
    obtain ⟨fg, efg⟩ : ∃ fg, (if Txt.startswith t ⟨#[45]⟩ = true then Txt.slice t (some 1) none else t) = fg := ⟨_, rfl⟩
    have hfc := Fg.fig_cs t
    rw [efg] at hfc
    have hzf : fg.length ≤ 10000 := by
      rw [← efg]
      split
      · exact Nat.le_trans (Txt.slice_le t (some 1) none) hz
      · exact hz
    rw [Fg.starts_one] at efg
    have kN : (ok (cs t) = true → False) → ∀ H', Same H H' → Q .non H' := fun z H' s' => by
      have := kQ H' s'
      unfold numV at this
      rwa [if_neg z] at this
    have kI : ok (cs t) = true → ∀ H', Same H H' → Q (.int (val (cs t))) H' := fun z H' s' => by
      have := kQ H' s'
      unfold numV at this
      rwa [if_pos z] at this
    refine ⟨_, rfl, 1, rfl, t, rfl, fits hz, .inl ⟨rfl, _, rfl, tif_to (.str fg) (fun e Q q => ⟨_, rfl, 1, rfl, t, rfl, fits hz, ?_⟩) (fun e Q q => ⟨.str t, rfl, ?_⟩) ?_⟩⟩
    · have e := (Fg.first_one t).mp (by rw [← minus]; exact V.str.inj (of_decide_eq_true e))
      rw [if_pos (decide_eq_true e)] at efg
      rw [efg]; exact q
    · have e : ¬ (cs t).head? = some 45 := fun z => of_decide_eq_false e (by rw [(Fg.first_one t).mpr z, minus])
      rw [if_neg (by rw [decide_eq_true_eq]; exact e)] at efg
      rw [efg]; exact q
    have hL : fg.length = (fig (cs t)).length := by rw [← Fg.cs_len]; rw [hfc]
    refine ⟨_, rfl, _, _, rfl, ⟨fits hzf, rfl⟩, _, _, rfl, rfl, _, rfl, iteB (fun c1 => ?_) (fun c1 => ?_)⟩
    rotate_left
    · have c1 := of_decide_eq_false c1
      exact ⟨_, rfl, kN (fun o => by have := (Fg.ok_iff.mp o).1; omega) _ (Same.refl _)⟩
    have c1 := of_decide_eq_true c1
    refine ⟨_, _, rfl, rfl, _, rfl, iteNB (fun c2 => ?_) (fun c2 => ?_)⟩
    · exact kN (fun o => by have := (Fg.ok_iff.mp o).2.1; omega) _ (Same.refl _)
    -- all([sign in '0123456789' for sign in figures])
    refine ⟨_, rfl, fg, rfl, fun p hp => ?_⟩
    refine turns_str (x := fg) (fun i σ H2 => (∃ v, σ = [v]) ∧ Same H H2 ∧ H2 p = some (.lst ((((cs fg).take i).map dig).map V.bl)))
      ⟨⟨_, rfl⟩, Same.upd hp, upd_same⟩ ?_ ?_
    · rintro i c σ H2 hx ⟨⟨v, rfl⟩, s2, h2⟩
      refine ⟨_, rfl, _, _, rfl, rfl, _, h2, ?_, ⟨_, rfl⟩, Same.updN s2 hp, ?_⟩
      · rw [List.length_map, List.length_map, List.length_take, sizeLine_eq]
        have := Fg.cs_len fg
        omega
      · rw [upd_same, dig_in, take_snoc hx, List.map_append, List.map_append]
        rfl
    rintro σ H2 ⟨_, s2, h2⟩
    rw [List.take_length] at h2
    refine ⟨p, _, rfl, SqL.of h2, _, rfl, ?_⟩
    have ha : (((cs fg).map dig).all _root_.id) = (fig (cs t)).all dig := by
      rw [hfc, List.all_map]
      rfl
    rw [ha]
    cases c3 : (fig (cs t)).all dig with
    | false => exact kN (fun o => by rw [(Fg.ok_iff.mp o).2.2.1] at c3; cases c3) _ s2
    | true =>
    have good : ((fig (cs t)).head? ≠ some 48 ∨ cs t = [48]) → ok (cs t) = true := fun g => Fg.ok_iff.mpr ⟨by omega, by omega, c3, g⟩
    have hlen : t.length ≤ 640 := by
      rw [← Fg.cs_len]
      rcases Fg.neg_or (cs t) with ⟨r, er⟩ | hn
      · rw [er, Fg.fig_neg] at hL
        rw [er, List.length_cons]
        omega
      · rw [Fg.fig_of hn] at hL
        omega
    obtain ⟨c, hc⟩ : ∃ c, (cs fg)[0]? = some c := ⟨_, List.getElem?_eq_getElem (show 0 < (cs fg).length by rw [Fg.cs_len]; omega)⟩
    have hh : (fig (cs t)).head? = some c := by rw [← hfc, List.head?_eq_getElem?]; exact hc
    refine ⟨_, rfl, fg, 0, c, rfl, rfl, fits hzf, atI_nat (j := 0) hc, .inl ⟨rfl, _, rfl, iteB (fun c4 => ?_) (fun c4 => ?_)⟩⟩
    · have c4 : c = 48 := by
        have := V.str.inj (of_decide_eq_true c4)
        rw [nought] at this
        simpa using this
      refine ⟨_, rfl, .inl ⟨rfl, _, rfl, iteB (fun c5 => ?_) (fun c5 => ?_)⟩⟩
      · refine kN (fun o => ?_) _ s2
        rcases (Fg.ok_iff.mp o).2.2.2 with q | q
        · exact q (by rw [hh, c4])
        · have : t = ⟨#[48]⟩ := Fg.str_ext q
          rw [this, nought] at c5
          simp at c5
      · have et : t = ⟨#[48]⟩ := by
          rw [nought] at c5
          simpa using c5
        have o := good (.inr (by rw [et]))
        exact ⟨_, rfl, t, _, rfl, Fg.int_of o, hlen, kI o _ s2⟩
    · have o := good (.inl fun z => by
        rw [hh] at z
        cases z
        exact of_decide_eq_false c4 (by rw [nought]))
      exact ⟨_, rfl, t, _, rfl, Fg.int_of o, hlen, kI o _ s2⟩
/-! ### in -/
theorem b_set : bootBuiltins ("set" : Str) = some (.type "set") := by decide +kernel
theorem ded_len : ∀ (ns acc : List Int), (ns.foldl PyProof.Rows.step_dedup acc).length ≤ acc.length + ns.length ∧ ((ns.foldl PyProof.Rows.step_dedup acc).length = acc.length + ns.length ↔ ns.Nodup ∧ ∀ n ∈ ns, n ∉ acc)
  | [], acc => by simp
  | n :: ns, acc => by
    rw [List.foldl_cons]
    obtain ⟨h1, h2⟩ := ded_len ns (PyProof.Rows.step_dedup acc n)
    by_cases h : n ∈ acc
    · have e : PyProof.Rows.step_dedup acc n = acc := by unfold PyProof.Rows.step_dedup; simp [h]
      rw [e] at h1 h2 ⊢
      rw [List.length_cons]
      refine ⟨by omega, fun z => by omega, fun z => absurd h (z.2 n (by simp))⟩
    · have e : PyProof.Rows.step_dedup acc n = acc ++ [n] := by unfold PyProof.Rows.step_dedup; simp [h]
      rw [e, List.length_append] at h1 h2
      rw [e, List.length_cons]
      refine ⟨by simp at h1 ⊢; omega, ?_⟩
      rw [show acc.length + (ns.length + 1) = acc.length + [n].length + ns.length by simp; omega, h2, List.nodup_cons]
      constructor
      · rintro ⟨a, b⟩
        refine ⟨⟨fun z => b n z (by simp), a⟩, fun m hm => ?_⟩
        rcases List.mem_cons.mp hm with q | q
        · rw [q]; exact h
        · exact fun z => b m q (List.mem_append_left _ z)
      · rintro ⟨⟨a, b⟩, c⟩
        refine ⟨b, fun m hm z => ?_⟩
        rcases List.mem_append.mp z with q | q
        · exact c m (List.mem_cons_of_mem _ hm) q
        · rw [List.mem_singleton.mp q] at hm; exact a hm
theorem once_lt (ns : List Int) : (once ns).length < ns.length ↔ ¬ ns.Nodup := by
  obtain ⟨h1, h2⟩ := ded_len ns []
  have e : once ns = ns.foldl PyProof.Rows.step_dedup [] := rfl
  rw [e]
  simp only [List.length_nil, Nat.zero_add, List.not_mem_nil, not_false_eq_true, implies_true, and_true] at h1 h2
  rw [← h2]
  omega
theorem inV_num (ws : List Str) : inV .non (ws.map numV) = !ws.all fun w => ok (cs w) := by
  unfold inV
  rw [List.any_map, List.all_eq_not_any_not, Bool.not_not]
  congr 1
  funext w
  show eqV (numV w) .non = !ok (cs w)
  unfold numV
  cases ok (cs w) <;> rfl
theorem flat_num (ws : List Str) : (ws.map numV).all flatV = true := by
  rw [List.all_map, List.all_eq_true]
  intro w _
  show flatV (numV w) = true
  unfold numV
  split <;> rfl
theorem num_all {ws : List Str} (h : (ws.all fun w => ok (cs w)) = true) : ws.map numV = (ws.map fun w => val (cs w)).map V.int := by
  rw [List.map_map]
  refine List.map_congr_left fun w hw => ?_
  unfold numV
  rw [if_pos (List.all_eq_true.mp h w hw)]
  rfl
def spT_in : Sp := fun vs H Q _ => ∃ t : Str, vs = [.str t] ∧ t.length ≤ 9000 ∧ (cs t).count 32 < 63 ∧ (∀ ns, inT t = some ns → ∀ p H', Same H H' → H p = none → H' p = some (.lst (ns.map V.int)) → Q (.ref p) H') ∧ (inT t = none → ∀ H', Same H H' → Q .non H')
theorem sc__law_in : FnScope ["_law_text", "_law_found"] ["_law_text"] (defScope s__law_in) := ⟨rfl, rfl, rfl, by decide +kernel, rfl, by decide +kernel, by decide +kernel⟩
theorem C__law_in (T : Tx K mg Z) : Ctr P w K mg base CX0 2 "_law_in" ["_law_text"] spT_in := by
  refine ctr_of T._law_in fun f fd F => F.ok sc__law_in (fun vs H Q E h => ?_) (fun cdv A outer s H vs Q E hr h => ?_)
  · obtain ⟨t, rfl, _⟩ := h
    rfl
  · obtain ⟨t, rfl, hz, hcnt, kQ, kN⟩ := h
    refine' ⟨_, ?hterm, ?_⟩
    case hterm =>
      refine' pss_cons ?q1 ?q2
      case q1 =>
        refine' ps_if ?q3 ?q4 ?q5
        case q3 =>
          refine' pt_cmpR (op_eqK (K := K) (by rfl) (by exact hr.units)) ?q6 ?q7 (nomark _)
          case q6 => exact pv 0
          case q7 => exact pe_str
        case q4 =>
          refine' pss_one ?q8
          case q8 =>
            refine' ps_ret ?q9
            case q9 =>
              refine' pe_lst ?q10
              case q10 => exact pa_nil
        case q5 => exact pss_nil
      case q2 =>
        refine' pss_cons ?q11 ?q12
        case q11 =>
          refine' ps_setComp (i := 1) sc__law_in.nd rfl rfl rfl (csc_of (sc := defScope s__law_in) (N := ["_law_text", "_law_found"]) (cap := [none]) (N' := ["_law_word"]) rfl rfl ⟨ rfl, by decide +kernel, by decide +kernel, by decide +kernel, rfl, by decide +kernel ⟩) ?q13 (fun _ _ _ _ => ?q14) (fun _ _ _ _ => ?q15) (fun _ _ _ _ => ?q16)
          case q13 =>
            refine' pi_listK (K := K) (by rfl) ?q17
            case q17 =>
              refine' pe_bmK (K := K) (by rfl) PySem.F.plainAttrs_str PySem.F.slot_str_split PySem.F.type_str_split mt_split ?q18 ?q19
              case q18 => exact pv 0
              case q19 =>
                refine' pa_cons ?q20 ?q21
                case q20 => exact pe_str
                case q21 => exact pa_nil
          case q14 => exact pg_name (i := 0) (show List.Nodup (["_law_word"] : List Str) from by decide +kernel) (by rfl) (by exact Or.inl rfl)
          case q15 => exact pif_nil
          case q16 =>
            refine' pe_callC (C__law_number T) (hr.mono (by decide)) rfl ?q22
            case q22 =>
              refine' pa_cons ?q23 ?q24
              case q23 => exact pv 0
              case q24 => exact pa_nil
        case q12 =>
          refine' pss_one ?q25
          case q25 =>
            refine' ps_ret ?q26
            case q26 =>
              refine' pe_ifExp ?q27 ?q28 ?q29
              case q27 =>
                refine' PW.pt ?q30
                case q30 =>
                  refine' pw_or ?q31 ?q32
                  case q31 =>
                    refine' pt_cmpR (op_inK (K := K) (by rfl)) ?q33 ?q34 (by with_unfolding_all rfl)
                    case q33 => exact pe_non
                    case q34 => exact pv 1
                  case q32 =>
                    refine' pw_or1 ?q35
                    case q35 =>
                      refine' pt_cmpR op_lt ?q36 ?q37 (nomark _)
                      case q36 =>
                        refine' pe_callB call_lenS (by rfl) T.n_len b_len ?q38
                        case q38 =>
                          refine' pa_cons ?q39 ?q40
                          case q39 =>
                            refine' pe_callTy (call_setL (by rfl)) (by rfl) T.n_set b_set ?q41
                            case q41 =>
                              refine' pa_cons ?q42 ?q43
                              case q42 => exact pv 1
                              case q43 => exact pa_nil
                          case q40 => exact pa_nil
                      case q37 =>
                        refine' pe_callB (callK_len (K := K) (by rfl)) (by rfl) T.n_len b_len ?q44
                        case q44 =>
                          refine' pa_cons ?q45 ?q46
                          case q45 => exact pv 1
                          case q46 => exact pa_nil
              case q28 => exact pe_non
              case q29 => exact pv 1
    refine ⟨_, rfl, .inl ⟨rfl, _, rfl, iteB (fun c => ?_) (fun c => ?_)⟩⟩
    · have c : t = ⟨#[]⟩ := V.str.inj (of_decide_eq_true c)
      refine ⟨Nat.zero_le _, fun l hl => ?_⟩
      exact kQ [] (by unfold inT; rw [if_pos c]) l _ (Same.upd hl) hl upd_same
    have c : t ≠ ⟨#[]⟩ := fun z => of_decide_eq_false c (by rw [z]; rfl)
    have hwl := Fg.words_len t
    have hW : ∀ x ∈ words t, x.length ≤ 10000 := fun x hx => by have := Fg.word_len hx; omega
    refine ⟨_, rfl, rfl, t, bk, rfl, rfl, rfl, by rw [sizeLine_eq]; omega, fun l hl => ⟨l, rfl, ⟨_, SqL.of upd_same⟩, fun p hp => ?_⟩⟩
    have s2 := Same.upd (o := .lst ((words t).map V.str)) hl
    have hHp := s2.free hp
    have hlp : l ≠ p := ne_of_none upd_same hp
    refine turns_list (K := K) (a := l) (xs := (words t).map V.str) (fun i σ H2 => (∃ v, σ = [v]) ∧ Same H H2 ∧ H2 l = some (.lst ((words t).map V.str)) ∧ H2 p = some (.lst (((words t).take i).map numV)))
      ⟨⟨_, rfl⟩, s2.trans (Same.upd hp), upd_get upd_same hp, upd_same⟩ (fun i σ H2 _ h => SqL.of h.2.2.1) ?_ ?_
    · rintro i x σ H2 hx ⟨⟨v, rfl⟩, s3, h2, h3⟩
      obtain ⟨z, ez, rfl⟩ := getMap hx
      have hzm := List.mem_of_getElem? ez
      refine ⟨_, rfl, z, rfl, hW z hzm, fun H3 s4 => ⟨_, s4 _ _ h3, ?_, ⟨_, rfl⟩, ?_, ?_, ?_⟩⟩
      · rw [List.length_map, List.length_take]
        exact small1000 (by omega)
      · exact Same.updN (s3.trans s4) hHp
      · rw [upd_ne hlp]; exact s4 _ _ h2
      · rw [upd_same, take_snoc ez, List.map_append]; rfl
    rintro σ H2 ⟨_, s3, h2, h3⟩
    rw [List.length_map, List.take_length] at h3
    refine ⟨_, rfl, p, _, rfl, .inl (SqL.of h3), rfl, flat_num _, _, rfl, ?_⟩
    rw [if_neg (by decide), inV_num]
    cases ha : (words t).all fun w => ok (cs w) with
    | false =>
      refine kN ?_ _ s3
      unfold inT
      rw [if_neg c, if_neg]
      rintro ⟨q, _⟩
      rw [q] at ha
      cases ha
    | true =>
      rw [num_all ha] at h3
      refine ⟨_, rfl, p, _, rfl, h3, by rw [List.length_map]; omega, fun l2 hl2 => ?_⟩
      have hml := (ded_len ((words t).map fun w => val (cs w)) []).1
      refine ⟨l2, _, _, rfl, upd_same, ?_, ?_⟩
      · show (once _).length < 4096
        have e : once ((words t).map fun w => val (cs w)) = ((words t).map fun w => val (cs w)).foldl PyProof.Rows.step_dedup [] := rfl
        rw [e]
        rw [List.length_map] at hml
        simp only [List.length_nil] at hml
        omega
      have h4 := upd_get (o := .set (fun k => (once ((words t).map fun w => val (cs w))).any (· == k)) (once ((words t).map fun w => val (cs w))).length) h3 hl2
      refine ⟨_, rfl, _, _, rfl, .inl ⟨_, SqL.of h4, rfl⟩, _, _, rfl, rfl, _, rfl, iteB (fun c2 => ?_) (fun c2 => ?_)⟩
      · have c2 := of_decide_eq_true c2
        refine kN ?_ _ (s3.trans (Same.upd hl2))
        unfold inT
        rw [if_neg c, if_neg]
        rintro ⟨_, q⟩
        refine (once_lt _).mp ?_ q
        rw [List.length_map] at c2
        omega
      · have c2 := of_decide_eq_false c2
        refine ⟨_, rfl, kQ _ ?_ p _ (s3.trans (Same.upd hl2)) hHp h4⟩
        unfold inT
        rw [List.length_map] at c2
        rw [if_neg c, if_pos ⟨ha, Classical.byContradiction fun q => c2 (by have := (once_lt _).mpr q; omega)⟩]
end
end My
/-! The law's own: right. -/
namespace My
open PySem L2
open Fg (cs ok val sg jn fig dig inT wr words bk)
section
variable {P : Program} {w : World} {K : PySem.W.Frag} {mg : Str → Option Value} {base : Heap} {Z : Adr}
theorem sc__law_read : FnScope ["_law_text"] ["_law_text"] (defScope s__law_read) := ⟨rfl, rfl, rfl, by decide +kernel, rfl, by decide +kernel, by decide +kernel⟩
theorem C__law_read (T : Tx K mg Z) : Ctr P w K mg base (CXe P w) 4 "_law_read" ["_law_text"] (sp_read K Z) := by
  refine ctr_of T._law_read fun f fd F => F.okE sc__law_read (fun vs H Q E h => ?_) (fun cdv A outer s H vs Q E hr h => ?_)
  · rcases h with ⟨t, rfl, _⟩ | ⟨x, rfl, _⟩ <;> rfl
  · have hv : ∃ x, vs = [x] := by rcases h with ⟨t, rfl, _⟩ | ⟨x, rfl, _⟩ <;> exact ⟨_, rfl⟩
    obtain ⟨x, rfl⟩ := hv
    refine' ⟨_, ?hterm, ?_⟩
    case hterm =>
      refine' pss_one ?q1
      case q1 =>
        refine' ps_ret ?q2
        case q2 =>
          refine' pe_callCE (C_read T) (hr.mono (by decide)) rfl ?q3 (passE (fun _ _ _ z => z))
          case q3 =>
            refine' pa_cons ?q4 ?q5
            case q4 => exact pv 0
            case q5 => exact pa_nil
    exact ⟨_, rfl, h⟩
theorem sc__law_written : FnScope ["_law_train"] ["_law_train"] (defScope s__law_written) := ⟨rfl, rfl, rfl, by decide +kernel, rfl, by decide +kernel, by decide +kernel⟩
theorem C__law_written (T : Tx K mg Z) : Ctr P w K mg base (CXe P w) 5 "_law_written" ["_law_train"] (sp_written Z) := by
  refine ctr_of T._law_written fun f fd F => F.okE sc__law_written (fun vs H Q E h => ?_) (fun cdv A outer s H vs Q E hr h => ?_)
  · obtain ⟨a, ns, rfl, _⟩ := h
    rfl
  · have hv : ∃ x, vs = [x] := by obtain ⟨a, ns, rfl, _⟩ := h; exact ⟨_, rfl⟩
    obtain ⟨x, rfl⟩ := hv
    refine' ⟨_, ?hterm, ?_⟩
    case hterm =>
      refine' pss_one ?q1
      case q1 =>
        refine' ps_ret ?q2
        case q2 =>
          refine' pe_callCE (C_written T) (hr.mono (by decide)) rfl ?q3 (passE (fun _ _ _ z => z))
          case q3 =>
            refine' pa_cons ?q4 ?q5
            case q4 => exact pv 0
            case q5 => exact pa_nil
    exact ⟨_, rfl, h⟩
theorem ctrV {x : Str} {k : Nat} {ps : List Str} {sp : Sp} (c : Ctr P w K mg base (CXe P w) k x ps sp) (h : k ≤ 5) : ∃ f, mg x = some (.ref f) ∧ CtrV P w K mg base 5 f ps sp := by
  obtain ⟨f, fd, F, hm, hk, hb⟩ := c.ex
  exact ⟨f, hm, fd, F.mono h, hk, hb⟩
theorem iteD {c A B : Prop} {inst : Decidable c} (hc : c) (h : A) : if decide c = true then A else B := by rw [decide_eq_true hc]; exact h
theorem kqd_ints (n : Nat) (ns : List Int) : PySem.W.kqdOk (n + 1) (dI ns) = true := ok_list fun d hd => by
  obtain ⟨i, _, rfl⟩ := List.mem_map.mp hd
  exact PySem.W.kqdOk.eq_2 ..
def spG_right : Sp := fun vs H Q _ => ∃ t : Str, vs = [.str t] ∧ t.length ≤ 9000 ∧ (cs t).count 32 < 63 ∧ ∀ H', Same H H' → Q (.bl true) H'
theorem sc__law_right : FnScope ["_law_text", "_law_due", "_law_found"] ["_law_text"] (defScope s__law_right) := ⟨rfl, rfl, rfl, by decide +kernel, rfl, by decide +kernel, by decide +kernel⟩
theorem C__law_right (T : Tx K mg Z) : Ctr P w K mg base CX0 8 "_law_right" ["_law_text"] spG_right := by
  refine ctr_of T._law_right fun f fd F => F.ok sc__law_right (fun vs H Q E h => ?_) (fun cdv A outer s H vs Q E hr h => ?_)
  · obtain ⟨t, rfl, _⟩ := h
    rfl
  · obtain ⟨t, rfl, hz, hcnt, kQ⟩ := h
    obtain ⟨fr, mf__law_read, vr⟩ := ctrV (P := P) (w := w) (base := base) (C__law_read T) (by decide)
    refine' ⟨_, ?hterm, ?_⟩
    case hterm =>
      refine' pss_cons ?q1 ?q2
      case q1 =>
        refine' ps_set (i := 1) sc__law_right.nd rfl (Or.inl rfl) ?q3
        case q3 =>
          refine' pe_callC (C__law_in T) (hr.mono (by decide)) rfl ?q4
          case q4 =>
            refine' pa_cons ?q5 ?q6
            case q5 => exact pv 0
            case q6 => exact pa_nil
      case q2 =>
        refine' pss_cons ?q7 ?q8
        case q7 =>
          refine' ps_if ?q9 ?q10 ?q11
          case q9 =>
            refine' pt_cmpR op_isN ?q12 ?q13 (nomark _)
            case q12 => exact pv 1
            case q13 => exact pe_non
          case q10 =>
            refine' pss_one ?q14
            case q14 =>
              refine' ps_ret ?q15
              case q15 =>
                refine' pe_callC (C__law_refused T) (hr.mono (by decide)) rfl ?q16
                case q16 =>
                  refine' pa_cons ?q17 ?q18
                  case q17 => exact pe_clsN (by rfl) mf__law_read
                  case q18 =>
                    refine' pa_cons ?q19 ?q20
                    case q19 => exact pv 0
                    case q20 =>
                      refine' pa_cons ?q21 ?q22
                      case q21 =>
                        refine' pe_lst ?q23
                        case q23 =>
                          refine' pa_cons ?q24 ?q25
                          case q24 => exact pe_bl
                          case q25 =>
                            refine' pa_cons ?q26 ?q27
                            case q26 => exact pe_bl
                            case q27 => exact pa_nil
                      case q22 => exact pa_nil
          case q11 => exact pss_nil
        case q8 =>
          refine' pss_cons ?q28 ?q29
          case q28 =>
            refine' ps_tryQ ?q30
            case q30 =>
              refine' psx_set (i := 2) sc__law_right.nd rfl (Or.inl rfl) ?q31
              case q31 =>
                refine' px_call (C_read T) (hr.mono (by decide)) rfl ?q32
                case q32 =>
                  refine' pa_cons ?q33 ?q34
                  case q33 => exact pv 0
                  case q34 => exact pa_nil
          case q29 =>
            refine' pss_one ?q35
            case q35 =>
              refine' ps_ret ?q36
              case q36 =>
                refine' pe_and ?q37 ?q38
                case q37 =>
                  refine' pe_callB (callK_isinstance (K := K) (by rfl)) (by rfl) T.n_isinstance b_isinstance ?q39
                  case q39 =>
                    refine' pa_cons ?q40 ?q41
                    case q40 => exact pv 2
                    case q41 =>
                      refine' pa_cons ?q42 ?q43
                      case q42 => exact pe_tyN rfl T.n_list b_list
                      case q43 => exact pa_nil
                case q38 =>
                  refine' pe_and ?q44 ?q45
                  case q44 =>
                    refine' pe_cmpR (op_eqK (K := K) (by rfl) (by exact hr.units)) ?q46 ?q47 (nomark _)
                    case q46 => exact pv 2
                    case q47 => exact pv 1
                  case q45 =>
                    refine' pe_one ?q48
                    case q48 =>
                      refine' pe_cmpR (op_eqK (K := K) (by rfl) (by exact hr.units)) ?q49 ?q50 (nomark _)
                      case q49 =>
                        refine' pe_callX (C_written T) (hr.mono (by decide)) rfl ?q51
                        case q51 =>
                          refine' pa_cons ?q52 ?q53
                          case q52 => exact pv 2
                          case q53 => exact pa_nil
                      case q50 => exact pv 0
    refine ⟨_, rfl, t, rfl, hz, hcnt, fun ns hin p H1 s1 f1 h1 => ?_, fun hin H1 s1 => ?_⟩
    · refine ⟨_, rfl, rfl, _, rfl, iteF ?_⟩
      refine ⟨_, rfl, .inl ⟨t, rfl, hz, hcnt, fun ns' hin' q H2 s2 f2 h2 => ?_, fun hin' => ?_⟩⟩
      · rw [hin] at hin'
        cases hin'
        obtain ⟨e1, e2, e3⟩ := Fg.inT_some hin
        have hl : ns.length < 64 := by
          have := Fg.inT_len hin
          omega
        refine ⟨_, rfl, _, _, _, _, _, rfl, rfl, ty_inj, .lst h2, kit_same, _, rfl, iteT ?_⟩
        refine ⟨_, rfl, _, rfl, .inr ⟨_, _, DV.ints (SqL.of h2), DV.ints (SqL.of (s2 _ _ h1)), kqd_ints 8 ns, kqd_ints 8 ns, _, rfl, iteD rfl ?_⟩⟩
        refine ⟨_, rfl, q, ns, rfl, h2, hl, e2, fun _ H3 s3 => ?_, fun ⟨n, hn, z⟩ => absurd (e3 n hn) z⟩
        rw [e1]
        exact ⟨_, rfl, .inl ⟨rfl, bl_yes rfl (kQ H3 ((s1.trans s2).trans s3))⟩⟩
      · rw [hin] at hin'
        cases hin'
    · refine ⟨_, rfl, rfl, _, rfl, iteT ?_⟩
      refine ⟨_, rfl, (by show 2 ≤ sizeLine; decide), fun d hd => ?_⟩
      refine ⟨fr, d, .str t, _, _, true, rfl, vr, upd_same, fun Q' E' hE => .inl ⟨t, rfl, hz, hcnt, fun ns h => ?_, fun _ H' s' => hE H' s'⟩, fun H' s' => kQ H' ((s1.trans (Same.upd hd)).trans s')⟩
      rw [hin] at h
      cases h
end
end My
/-! The law's own: great numbers, a few texts. -/
namespace My
open PySem L2
open Fg (cs ok val sg jn fig dig inT wr words bk)
section
variable {P : Program} {w : World} {K : PySem.W.Frag} {mg : Str → Option Value} {base : Heap} {Z : Adr}
theorem inV_ints (n : Int) (ns : List Int) : inV (.int n) (ns.map V.int) = decide (n ∈ ns) := by
  unfold inV
  rw [List.any_map, Bool.eq_iff_iff, List.any_eq_true, decide_eq_true_eq]
  constructor
  · rintro ⟨m, hm, e⟩
    have : m = n := by simpa [eqV] using e
    rw [← this]; exact hm
  · intro h
    exact ⟨n, h, by simp [eqV]⟩
theorem flat_ints (ns : List Int) : (ns.map V.int).all flatV = true := by
  rw [List.all_map, List.all_eq_true]
  intro n _
  rfl
def spT_great (K : PySem.W.Frag) : Sp := fun vs H Q _ => ∃ (a : Addr) (ns : List Int), vs = [.ref a] ∧ SqL K H a (ns.map V.int) ∧ ns.length < 64 ∧
  ∀ (p : Addr) (gs : List Int) (H' : Hp), Same H H' → H p = none → H' p = some (.lst (gs.map V.int)) → gs.Nodup → (∀ g ∈ gs, near g) → gs.length ≤ ns.length → Q (.ref p) H'
theorem sc__law_great : FnScope ["_law_script", "_law_train", "_law_cell", "_law_wagon"] ["_law_script"] (defScope s__law_great) := ⟨rfl, rfl, rfl, by decide +kernel, rfl, by decide +kernel, by decide +kernel⟩
theorem C__law_great (T : Tx K mg Z) : Ctr P w K mg base CX0 1 "_law_great" ["_law_script"] (spT_great K) := by
  refine ctr_of T._law_great fun f fd F => F.ok sc__law_great (fun vs H Q E h => ?_) (fun cdv A outer s H vs Q E hr h => ?_)
  · obtain ⟨a, ns, rfl, _⟩ := h
    rfl
  · obtain ⟨a, ns, rfl, hS, hz, kQ⟩ := h
    refine' ⟨_, ?hterm, ?_⟩
    case hterm =>
      refine' pss_cons ?q1 ?q2
      case q1 =>
        refine' ps_set (i := 1) sc__law_great.nd rfl (Or.inl rfl) ?q3
        case q3 =>
          refine' pe_lst ?q4
          case q4 => exact pa_nil
      case q2 =>
        refine' pss_cons ?q5 ?q6
        case q5 =>
          refine' ps_for HP rfl ?q7 ?q8 ?q9
          case q7 =>
            refine' pi_listK (K := K) (by rfl) ?q10
            case q10 => exact pv 0
          case q8 => exact pg_name (i := 2) sc__law_great.nd (by rfl) (by exact Or.inl rfl)
          case q9 =>
            refine' pss_cons ?q11 ?q12
            case q11 =>
              refine' ps_set (i := 3) sc__law_great.nd rfl (Or.inl rfl) ?q13
              case q13 =>
                refine' pe_op op_sub ?q14 ?q15
                case q14 =>
                  refine' pe_op op_mod ?q16 ?q17
                  case q16 =>
                    refine' pe_op op_mulU ?q18 ?q19
                    case q18 => exact pv 2
                    case q19 => exact pe_int
                  case q17 => exact pe_int
                case q15 => exact pe_int
            case q12 =>
              refine' pss_one ?q20
              case q20 =>
                refine' ps_if ?q21 ?q22 ?q23
                case q21 =>
                  refine' pt_cmpR (op_notInK (K := K) (by rfl)) ?q24 ?q25 (by with_unfolding_all rfl)
                  case q24 => exact pv 3
                  case q25 => exact pv 1
                case q22 =>
                  refine' pss_one ?q26
                  case q26 =>
                    refine' ps_expr ?q27
                    case q27 =>
                      refine' pe_bmK (K := K) (by rfl) PySem.F.plainAttrs_list PySem.F.slot_list_append PySem.F.type_list_append mt_append ?q28 ?q29
                      case q28 => exact pv 1
                      case q29 =>
                        refine' pa_cons ?q30 ?q31
                        case q30 => exact pv 3
                        case q31 => exact pa_nil
                case q23 => exact pss_nil
        case q6 =>
          refine' pss_one ?q32
          case q32 =>
            refine' ps_ret ?q33
            case q33 => exact pv 1
    refine ⟨Nat.zero_le _, fun p hp => ?_⟩
    refine ⟨_, rfl, a, rfl, ⟨_, (Same.upd hp).seq hS⟩, for_list (K := K) (a := a) (xs := ns.map V.int) (fun i σ H2 => ∃ (gs : List Int) (u v : Option V), σ = [some (.ref a), some (.ref p), u, v] ∧ Same H H2 ∧ H2 p = some (.lst (gs.map V.int)) ∧ gs.Nodup ∧ (∀ g ∈ gs, near g) ∧ gs.length ≤ i)
      ⟨[], none, none, rfl, Same.upd hp, upd_same, List.nodup_nil, (fun _ h => by cases h), Nat.zero_le _⟩ (fun i σ H2 _ ⟨_, _, _, _, s2, _⟩ => s2.seq hS) ?_ ?_⟩
    · rintro i x σ H2 hx ⟨gs, u, v, rfl, s2, h2, hnd, hnear, hlen⟩
      obtain ⟨z, ez, rfl⟩ := getMap hx
      have hi : i < ns.length := (List.getElem?_eq_some_iff.mp ez).1
      have b1 := Int.emod_nonneg (z * 48271) (show (1999999 : Int) ≠ 0 by decide)
      have b2 := Int.emod_lt_of_pos (z * 48271) (show (0 : Int) < 1999999 by decide)
      refine ⟨_, rfl, .inl ⟨z, 48271, rfl, rfl, .inr ⟨by decide, by decide⟩, ?_⟩⟩
      refine ⟨_, 1999999, rfl, rfl, (by show (0 : Int) < 1999999; decide), _, 999999, rfl, rfl, ?_⟩
      obtain ⟨g, eg⟩ : ∃ g, z * 48271 % 1999999 - 999999 = g := ⟨_, rfl⟩
      dsimp only
      rw [eg]
      have hg : near g := by unfold near; omega
      refine ⟨_, rfl, _, rfl, p, _, rfl, .inl (SqL.of h2), rfl, flat_ints gs, _, rfl, ?_⟩
      rw [if_pos rfl, inV_ints]
      refine iteNB (fun c => ?_) (fun c => ?_)
      · refine ⟨_, rfl, .inl ⟨rfl, _, SqL.of h2⟩, _, rfl, p, _, _, rfl, rfl, h2, ?_, ?_⟩
        · rw [List.length_map]
          exact small1000 (by omega)
        · refine ⟨gs ++ [g], _, _, rfl, Same.updN s2 hp, by rw [upd_same, List.map_append]; rfl, ?_, fun y hy => ?_, by rw [List.length_append, List.length_singleton]; omega⟩
          · rw [List.nodup_append]
            exact ⟨hnd, by simp, fun y hy u hu => by rw [List.mem_singleton.mp hu]; exact fun z => c (z ▸ hy)⟩
          · rcases List.mem_append.mp hy with q | q
            · exact hnear y q
            · rw [List.mem_singleton.mp q]; exact hg
      · exact ⟨gs, _, _, rfl, s2, h2, hnd, hnear, by omega⟩
    · rintro σ H2 ⟨gs, u, v, rfl, s2, h2, hnd, hnear, hlen⟩
      rw [List.length_map] at hlen
      exact ⟨_, rfl, kQ p gs H2 s2 hp h2 hnd hnear hlen⟩
end
end My
/-! The law's own: great numbers, a few texts. -/
namespace My
open PySem L2
open Fg (cs ok val sg jn fig dig inT wr words bk)
section
variable {P : Program} {w : World} {K : PySem.W.Frag} {mg : Str → Option Value} {base : Heap} {Z : Adr}
def short (t : Str) : Prop := t.length ≤ 9000 ∧ (cs t).count 32 < 63
instance (t : Str) : Decidable (short t) := by unfold short; infer_instance
def few1 : List Str := ["", " ", "0", "-0", "00", "5", "-5", "+5", "5 ", " 5", "5 5", "5 -5", "5  6", "05", "5 06", "999999"]
def few2 : List Str := ["-999999", "1000000", "-1000000", Txt.mul "9" 4000, "5,6", "5\n", "5\n6", "5\t6", "x", "5 x", "--5"]
def few3 : List Str := ["5-", "5_0", "1 2 3 1", "1.0", "- 5", "5 -"]
theorem few_short : ∀ t ∈ few1 ++ few2 ++ few3, short t := by decide +kernel
theorem nines : MulOk (Str.ofString "9") 4000 := by unfold MulOk; decide +kernel
def spT_few : Sp := fun vs H Q _ => vs = [] ∧ ∀ (p : Addr) (ts : List Str) (H' : Hp), Same H H' → H p = none → H' p = some (.lst (ts.map V.str)) → (∀ t ∈ ts, short t) → ts.length < 100 → Q (.ref p) H'
theorem sc__law_few : FnScope ["_law_some"] [] (defScope s__law_few) := ⟨rfl, rfl, rfl, by decide +kernel, rfl, by decide +kernel, by decide +kernel⟩
theorem C__law_few (T : Tx K mg Z) : Ctr P w K mg base CX0 1 "_law_few" [] spT_few := by
  refine ctr_of T._law_few fun f fd F => F.ok sc__law_few (fun vs H Q E h => ?_) (fun cdv A outer s H vs Q E hr h => ?_)
  · obtain ⟨rfl, _⟩ := h
    rfl
  · obtain ⟨rfl, kQ⟩ := h
    refine' ⟨_, ?hterm, ?_⟩
    case hterm =>
      refine' pss_cons ?q1 ?q2
      case q1 =>
        refine' ps_set (i := 0) ?zA ?zB ?zC ?q3 ?zD ?zE
        case zA => exact sc__law_few.nd
        case zB => rfl
        case zC => exact (Or.inl rfl)
        case zD => rfl
        case zE => exact .inr rfl
        case q3 =>
          refine' pe_lst ?q4
          case q4 =>
            refine' pa_cons ?q5 ?q6
            case q5 => exact pe_str
            case q6 =>
              refine' pa_cons ?q7 ?q8
              case q7 => exact pe_str
              case q8 =>
                refine' pa_cons ?q9 ?q10
                case q9 => exact pe_str
                case q10 =>
                  refine' pa_cons ?q11 ?q12
                  case q11 => exact pe_str
                  case q12 =>
                    refine' pa_cons ?q13 ?q14
                    case q13 => exact pe_str
                    case q14 =>
                      refine' pa_cons ?q15 ?q16
                      case q15 => exact pe_str
                      case q16 =>
                        refine' pa_cons ?q17 ?q18
                        case q17 => exact pe_str
                        case q18 =>
                          refine' pa_cons ?q19 ?q20
                          case q19 => exact pe_str
                          case q20 =>
                            refine' pa_cons ?q21 ?q22
                            case q21 => exact pe_str
                            case q22 =>
                              refine' pa_cons ?q23 ?q24
                              case q23 => exact pe_str
                              case q24 =>
                                refine' pa_cons ?q25 ?q26
                                case q25 => exact pe_str
                                case q26 =>
                                  refine' pa_cons ?q27 ?q28
                                  case q27 => exact pe_str
                                  case q28 =>
                                    refine' pa_cons ?q29 ?q30
                                    case q29 => exact pe_str
                                    case q30 =>
                                      refine' pa_cons ?q31 ?q32
                                      case q31 => exact pe_str
                                      case q32 =>
                                        refine' pa_cons ?q33 ?q34
                                        case q33 => exact pe_str
                                        case q34 =>
                                          refine' pa_cons ?q35 ?q36
                                          case q35 => exact pe_str
                                          case q36 => exact pa_nil
      case q2 =>
        refine' pss_cons ?q37 ?q38
        case q37 =>
          refine' ps_set (i := 0) ?zA ?zB ?zC ?q39 ?zD ?zE
          case zA => exact sc__law_few.nd
          case zB => rfl
          case zC => exact (Or.inl rfl)
          case zD => rfl
          case zE => exact .inr rfl
          case q39 =>
            refine' pe_op (op_addK (K := K) (by rfl)) ?q40 ?q41
            case q40 => exact pv 0
            case q41 =>
              refine' pe_lst ?q42
              case q42 =>
                refine' pa_cons ?q43 ?q44
                case q43 => exact pe_str
                case q44 =>
                  refine' pa_cons ?q45 ?q46
                  case q45 => exact pe_str
                  case q46 =>
                    refine' pa_cons ?q47 ?q48
                    case q47 => exact pe_str
                    case q48 =>
                      refine' pa_cons ?q49 ?q50
                      case q49 =>
                        refine' pe_op op_times ?q51 ?q52
                        case q51 => exact pe_str
                        case q52 => exact pe_int
                      case q50 =>
                        refine' pa_cons ?q53 ?q54
                        case q53 => exact pe_str
                        case q54 =>
                          refine' pa_cons ?q55 ?q56
                          case q55 => exact pe_str
                          case q56 =>
                            refine' pa_cons ?q57 ?q58
                            case q57 => exact pe_str
                            case q58 =>
                              refine' pa_cons ?q59 ?q60
                              case q59 => exact pe_str
                              case q60 =>
                                refine' pa_cons ?q61 ?q62
                                case q61 => exact pe_str
                                case q62 =>
                                  refine' pa_cons ?q63 ?q64
                                  case q63 => exact pe_str
                                  case q64 =>
                                    refine' pa_cons ?q65 ?q66
                                    case q65 => exact pe_str
                                    case q66 => exact pa_nil
        case q38 =>
          refine' pss_one ?q67
          case q67 =>
            refine' ps_ret ?q68
            case q68 =>
              refine' pe_op (op_addK (K := K) (by rfl)) ?q69 ?q70
              case q69 => exact pv 0
              case q70 =>
                refine' pe_lst ?q71
                case q71 =>
                  refine' pa_cons ?q72 ?q73
                  case q72 => exact pe_str
                  case q73 =>
                    refine' pa_cons ?q74 ?q75
                    case q74 => exact pe_str
                    case q75 =>
                      refine' pa_cons ?q76 ?q77
                      case q76 => exact pe_str
                      case q77 =>
                        refine' pa_cons ?q78 ?q79
                        case q78 => exact pe_str
                        case q79 =>
                          refine' pa_cons ?q80 ?q81
                          case q80 => exact pe_str
                          case q81 =>
                            refine' pa_cons ?q82 ?q83
                            case q82 => exact pe_str
                            case q83 => exact pa_nil
    refine ⟨(by show 16 ≤ sizeLine; decide), fun a ha => ?_⟩
    refine ⟨_, rfl, _, _, rfl, rfl, nines, (by show 11 ≤ sizeLine; decide), fun b hb => ?_⟩
    refine .inr (.inl ⟨a, b, few1.map V.str, few2.map V.str, rfl, rfl, upd_get upd_same hb, upd_same, (by show 16 + 11 ≤ sizeLine; decide), fun c hc => ?_⟩)
    refine ⟨_, rfl, (by show 6 ≤ sizeLine; decide), fun d hd => ?_⟩
    refine .inr (.inl ⟨c, d, few1.map V.str ++ few2.map V.str, few3.map V.str, rfl, rfl, upd_get upd_same hd, upd_same, (by show 16 + 11 + 6 ≤ sizeLine; decide), fun e he => ?_⟩)
    have sm := (((Same.upd (o := .lst (few1.map V.str)) ha).trans (Same.upd (o := .lst (few2.map V.str)) hb)).trans (Same.upd (o := .lst (few1.map V.str ++ few2.map V.str)) hc)).trans (Same.upd (o := .lst (few3.map V.str)) hd)
    refine kQ e (few1 ++ few2 ++ few3) _ (sm.trans (Same.upd he)) (sm.free he) ?_ few_short (by decide)
    rw [List.map_append, List.map_append]
    exact upd_same
end
end My
/-! What the law needs of its comprehensions. -/
namespace My
open PySem L2
open Fg (cs ok val sg jn fig dig inT wr words bk)
section
variable {K : PySem.W.Frag}
/-- [f(x) for x in l]: each turn tells its own value and keeps what there is -/
theorem turns_map {te : TE} {p q : Addr} {xs : List V} {v : Option V} {H : Hp} {Q : Hp → Prop} (F : V → V) (hq : H q = none) (hp : SqL K H p xs) (hl : xs.length < 1000)
    (hte : ∀ x ∈ xs, ∀ H4 : Hp, Same H H4 → ∀ Q' : VK, (∀ H5, Same H4 H5 → Q' (F x) H5) → te [some x] H4 Q')
    (fin : ∀ H', Same H H' → H' q = some (.lst (xs.map F)) → Q H') : Turns (Itl K p) (gName 0) tAll te q Q [v] (upd H q (.lst [])) := by
  refine turns_list (K := K) (a := p) (xs := xs) (fun i σ H2 => (∃ v, σ = [v]) ∧ Same H H2 ∧ H2 q = some (.lst ((xs.take i).map F)))
    ⟨⟨_, rfl⟩, Same.upd hq, upd_same⟩ (fun i σ H2 _ h => h.2.1.seq hp) ?_ ?_
  · rintro i x σ H2 hx ⟨⟨v, rfl⟩, s2, h2⟩
    refine hte x (List.mem_of_getElem? hx) H2 s2 _ fun H5 s5 => ⟨_, s5 _ _ h2, ?_, ⟨_, rfl⟩, Same.updN (s2.trans s5) hq, ?_⟩
    · rw [List.length_map, List.length_take]
      exact small1000 (by omega)
    · rw [upd_same, take_snoc hx, List.map_append]
      rfl
  · rintro σ H2 ⟨_, s2, h2⟩
    rw [List.take_length] at h2
    exact fin H2 s2 h2
def Tr (N : Nat) (ts : List Int) : Prop := ts.Nodup ∧ ts.length ≤ N ∧ ∀ n ∈ ts, n.natAbs < 10 ^ 10
theorem log_ok {n : Int} (h : n.natAbs < 10 ^ 10) : n.natAbs.log2 < 1920 := Nat.lt_trans (Fg.log_small h) (by decide)
theorem cut3 (ts : List Int) (k : Nat) : ∃ us : List Int, cutV (ts.map V.int) (some (k : Int)) (some ((k : Int) + 3)) = us.map V.int ∧ us.length ≤ 3 ∧ ∀ n ∈ us, n ∈ ts := by
  have e1 : HT.sIx (ts.map V.int).length 0 (some (k : Int)) = min k ts.length := by rw [HT.sIx_nat, List.length_map]
  have e2 : HT.sIx (ts.map V.int).length (ts.map V.int).length (some ((k : Int) + 3)) = min (k + 3) ts.length := by
    rw [show (k : Int) + 3 = ((k + 3 : Nat) : Int) by omega, HT.sIx_nat, List.length_map]
  refine ⟨(ts.drop (min k ts.length)).take (min (k + 3) ts.length - min k ts.length), ?_, ?_, fun n hn => List.mem_of_mem_drop (List.mem_of_mem_take hn)⟩
  · unfold cutV
    rw [e1, e2, List.map_take, List.map_drop]
  · rw [List.length_take]
    omega
theorem any_far (ts : List Int) : ((ts.map fun n => decide ((if n < 0 then -n else n) > 999999)).any _root_.id) = true ↔ ∃ n ∈ ts, ¬ near n := by
  rw [List.any_map, List.any_eq_true]
  constructor
  · rintro ⟨n, hn, h⟩
    refine ⟨n, hn, fun z => ?_⟩
    have h := of_decide_eq_true h
    unfold near at z
    split at h <;> omega
  · rintro ⟨n, hn, h⟩
    refine ⟨n, hn, decide_eq_true ?_⟩
    unfold near at h
    split <;> omega
theorem wag_ok {ns : List Int} {far : Int} {j : Nat} (h1 : 0 < far) (h2 : far ≤ 10000000) (hj : j < 64) : (Ins.wag ns far j).natAbs < 10 ^ 10 := by
  unfold Ins.wag
  rw [Int.natAbs_mul]
  have a : (7 * (j : Int) + ns.getD j 0 / 3 % 7 - 90).natAbs ≤ 450 := by omega
  have b : far.natAbs ≤ 10000000 := by omega
  exact Nat.lt_of_le_of_lt (Nat.mul_le_mul a b) (by decide)
end
end My
/-! _law_inserted: a train by the cells. -/
namespace My
open PySem L2
section
variable {P : Program} {w : World} {K : PySem.W.Frag} {mg : Str → Option Value} {base : Heap} {Z : Adr}
theorem far_at (s : Int) : ∃ far : Int, 0 < far ∧ far ≤ 10000000 ∧ atI [V.int 1, V.int ((10 : Int) ^ (7 : Int).toNat), V.int 1] (s % 3) = some (.int far) := by
  have h1 := Int.emod_nonneg s (show (3 : Int) ≠ 0 by decide)
  have h2 := Int.emod_lt_of_pos s (show (0 : Int) < 3 by decide)
  rcases (show s % 3 = 0 ∨ s % 3 = 1 ∨ s % 3 = 2 by omega) with e | e | e <;> rw [e]
  · exact ⟨1, by decide, by decide, rfl⟩
  · exact ⟨10000000, by decide, by decide, rfl⟩
  · exact ⟨1, by decide, by decide, rfl⟩
def spI_inserted (K : PySem.W.Frag) : Sp := fun vs H Q _ => ∃ (a : Addr) (ns : List Int), vs = [.ref a] ∧ SqL K H a (ns.map V.int) ∧ ns.length < 64 ∧
  ∀ (p : Addr) (ps : List Nat) (far : Int) (H' : Hp), Same H H' → H p = none → H' p = some (.lst ((ps.map (Ins.wag ns far)).map V.int)) → 0 < far → far ≤ 10000000 → ps.Perm (List.range ns.length) → Q (.ref p) H'
theorem sc__law_inserted : FnScope ["_law_script", "_law_places", "_law_wagons", "_law_far", "_law_k", "_law_at"] ["_law_script"] (defScope s__law_inserted) := ⟨rfl, rfl, rfl, by decide +kernel, rfl, by decide +kernel, by decide +kernel⟩
theorem C__law_inserted (T : Tx K mg Z) : Ctr P w K mg base CX0 1 "_law_inserted" ["_law_script"] (spI_inserted K) := by
  refine ctr_of T._law_inserted fun f fd F => F.ok sc__law_inserted (fun vs H Q E h => ?_) (fun cdv A outer s H vs Q E hr h => ?_)
  · obtain ⟨a, ns, rfl, _⟩ := h
    rfl
  · obtain ⟨a, ns, rfl, hS, hz, k⟩ := h
    refine' ⟨_, ?hterm, ?_⟩
    case hterm =>
      refine' pss_cons ?q1 ?q2
      case q1 =>
        refine' ps_asg ?q3 ?q4 (hs := by kernel_rfl) (hw := by kernel_rfl)
        case q3 =>
          refine' pe_tup ?q5
          case q5 =>
            refine' pa_cons ?q6 ?q7
            case q6 =>
              refine' pe_lst ?q8
              case q8 => exact pa_nil
            case q7 =>
              refine' pa_cons ?q9 ?q10
              case q9 =>
                refine' pe_lst ?q11
                case q11 => exact pa_nil
              case q10 =>
                refine' pa_cons ?q12 ?q13
                case q12 =>
                  refine' pe_ix (ix_K (K := K) (by rfl)) ?q14 ?q15 (fun _ _ => rfl)
                  case q14 =>
                    refine' pe_tup ?q16
                    case q16 =>
                      refine' pa_cons ?q17 ?q18
                      case q17 => exact pe_int
                      case q18 =>
                        refine' pa_cons ?q19 ?q20
                        case q19 =>
                          refine' pe_op op_pow ?q21 ?q22
                          case q21 => exact pe_int
                          case q22 => exact pe_int
                        case q20 =>
                          refine' pa_cons ?q23 ?q24
                          case q23 => exact pe_int
                          case q24 => exact pa_nil
                  case q15 =>
                    refine' pe_op op_mod ?q25 ?q26
                    case q25 =>
                      refine' pe_callB (callK_sum (K := K) (by rfl) (by rfl)) (by rfl) T.n_sum b_sum ?q27
                      case q27 =>
                        refine' pa_cons ?q28 ?q29
                        case q28 => exact pv 0
                        case q29 => exact pa_nil
                    case q26 => exact pe_int
                case q13 => exact pa_nil
        case q4 =>
          refine' pg_tupK (K := K) (n := 3) (by rfl) rfl ?q30
          case q30 =>
            refine' pgs_cons ?q31 ?q32
            case q31 => exact pg_name (i := 1) sc__law_inserted.nd (by rfl) (by exact Or.inl rfl)
            case q32 =>
              refine' pgs_cons ?q33 ?q34
              case q33 => exact pg_name (i := 2) sc__law_inserted.nd (by rfl) (by exact Or.inr rfl)
              case q34 =>
                refine' pgs_cons ?q35 ?q36
                case q35 => exact pg_name (i := 3) sc__law_inserted.nd (by rfl) (by exact Or.inl rfl)
                case q36 => exact pgs_nil
      case q2 =>
        refine' pss_cons ?q37 ?q38
        case q37 =>
          refine' ps_for HP rfl ?q39 ?q40 ?q41
          case q39 =>
            refine' pi_range1 rfl T.n_range ?q42
            case q42 =>
              refine' pa_cons ?q43 ?q44
              case q43 =>
                refine' pe_callB (callK_len (K := K) (by rfl)) (by rfl) T.n_len b_len ?q45
                case q45 =>
                  refine' pa_cons ?q46 ?q47
                  case q46 => exact pv 0
                  case q47 => exact pa_nil
              case q44 => exact pa_nil
          case q40 => exact pg_name (i := 4) sc__law_inserted.nd (by rfl) (by exact Or.inl rfl)
          case q41 =>
            refine' pss_cons ?q48 ?q49
            case q48 =>
              refine' ps_set (i := 5) sc__law_inserted.nd rfl (Or.inl rfl) ?q50
              case q50 =>
                refine' pe_op op_mod ?q51 ?q52
                case q51 =>
                  refine' pe_ix (ix_K (K := K) (by rfl)) ?q53 ?q54 (fun _ _ => rfl)
                  case q53 => exact pv 0
                  case q54 => exact pv 4
                case q52 =>
                  refine' pe_op (op_addK (K := K) (by rfl)) ?q55 ?q56
                  case q55 => exact pv 4
                  case q56 => exact pe_int
            case q49 =>
              refine' pss_cons ?q57 ?q58
              case q57 =>
                refine' ps_set (i := 1) sc__law_inserted.nd rfl (Or.inl rfl) ?q59
                case q59 =>
                  refine' pe_op (op_addK (K := K) (by rfl)) ?q60 ?q61
                  case q60 =>
                    refine' pe_op (op_addK (K := K) (by rfl)) ?q62 ?q63
                    case q62 =>
                      refine' pe_slice (sl_K (K := K) (by rfl)) ?q64 ?q65 ?q66
                      case q64 => exact pv 1
                      case q65 => exact po_none
                      case q66 =>
                        refine' po_some ?q67
                        case q67 => exact pv 5
                    case q63 =>
                      refine' pe_lst ?q68
                      case q68 =>
                        refine' pa_cons ?q69 ?q70
                        case q69 => exact pv 4
                        case q70 => exact pa_nil
                  case q61 =>
                    refine' pe_slice (sl_K (K := K) (by rfl)) ?q71 ?q72 ?q73
                    case q71 => exact pv 1
                    case q72 =>
                      refine' po_some ?q74
                      case q74 => exact pv 5
                    case q73 => exact po_none
              case q58 =>
                refine' pss_one ?q75
                case q75 =>
                  refine' ps_expr ?q76
                  case q76 =>
                    refine' pe_bmK (K := K) (by rfl) PySem.F.plainAttrs_list PySem.F.slot_list_append PySem.F.type_list_append mt_append ?q77 ?q78
                    case q77 => exact pv 2
                    case q78 =>
                      refine' pa_cons ?q79 ?q80
                      case q79 =>
                        refine' pe_op op_mulU ?q81 ?q82
                        case q81 =>
                          refine' pe_op op_sub ?q83 ?q84
                          case q83 =>
                            refine' pe_op (op_addK (K := K) (by rfl)) ?q85 ?q86
                            case q85 =>
                              refine' pe_op op_mulU ?q87 ?q88
                              case q87 => exact pe_int
                              case q88 => exact pv 4
                            case q86 =>
                              refine' pe_op op_mod ?q89 ?q90
                              case q89 =>
                                refine' pe_op op_fdiv ?q91 ?q92
                                case q91 =>
                                  refine' pe_ix (ix_K (K := K) (by rfl)) ?q93 ?q94 (fun _ _ => rfl)
                                  case q93 => exact pv 0
                                  case q94 => exact pv 4
                                case q92 => exact pe_int
                              case q90 => exact pe_int
                          case q84 => exact pe_int
                        case q82 => exact pv 3
                      case q80 => exact pa_nil
        case q38 =>
          refine' pss_one ?q95
          case q95 =>
            refine' ps_ret ?q96
            case q96 =>
              refine' pe_comp rfl (csc_of (sc := defScope s__law_inserted) (N := ["_law_script", "_law_places", "_law_wagons", "_law_far", "_law_k", "_law_at"]) (cap := [none, some 2]) (N' := ["_law_k", "_law_wagons"]) rfl rfl ⟨ rfl, by decide +kernel, by decide +kernel, by decide +kernel, rfl, by decide +kernel ⟩) ?q97 (fun _ _ _ _ => ?q98) (fun _ _ _ _ => ?q99) (fun _ _ _ _ => ?q100)
              case q97 =>
                refine' pi_listK (K := K) (by rfl) ?q101
                case q101 => exact pv 1
              case q98 => exact pg_name (i := 0) (show List.Nodup (["_law_k", "_law_wagons"] : List Str) from by decide +kernel) (by rfl) (by exact Or.inl rfl)
              case q99 => exact pif_nil
              case q100 =>
                refine' pe_ix (ix_K (K := K) (by rfl)) ?q102 ?q103 (fun _ _ => rfl)
                case q102 => exact pv 1
                case q103 => exact pv 0
    obtain ⟨far, hf1, hf2, hat⟩ := far_at ns.sum
    refine ⟨Nat.zero_le _, fun pA hpA => ⟨Nat.zero_le _, fun wA hwA => ?_⟩⟩
    have s1 : Same H (upd (upd H pA (.lst [])) wA (.lst [])) := (Same.upd hpA).trans (Same.upd hwA)
    refine ⟨10, 7, rfl, rfl, ⟨by decide, by decide, by decide⟩, (by show 3 ≤ sizeLine; decide), fun tA htA => ?_⟩
    have s2 := s1.trans (Same.upd (o := .tup [.int 1, .int ((10 : Int) ^ (7 : Int).toNat), .int 1]) htA)
    refine ⟨_, rfl, a, ns, rfl, s2.seq hS, _, 3, rfl, rfl, (by show (0 : Int) < 3; decide), .inr ⟨tA, _, _, .int far, rfl, rfl, SqT.of upd_same, hat, ?_⟩⟩
    refine ⟨(by show 3 ≤ sizeLine; decide), fun uA huA => ⟨uA, _, rfl, SqT.of upd_same, rfl, _, _, rfl, _, _, rfl, _, _, rfl, rfl, ?_⟩⟩
    have s3 := s2.trans (Same.upd (o := .tup [.ref pA, .ref wA, .int far]) huA)
    have epw : pA ≠ wA := ne_of_none upd_same hwA
    refine ⟨_, rfl, _, _, rfl, .inl ⟨_, s3.seq hS, rfl⟩, _, rfl, ?_, ?_, ?_⟩
    · rw [List.length_map]; omega
    · rw [List.length_map]; omega
    rw [Int.toNat_natCast, List.length_map]
    have hp0 : upd (upd (upd (upd H pA (.lst [])) wA (.lst [])) tA (.tup [.int 1, .int ((10 : Int) ^ (7 : Int).toNat), .int 1])) uA (.tup [.ref pA, .ref wA, .int far]) pA = some (.lst []) := upd_get (upd_get (upd_get upd_same hwA) htA) huA
    have hw0 : upd (upd (upd (upd H pA (.lst [])) wA (.lst [])) tA (.tup [.int 1, .int ((10 : Int) ^ (7 : Int).toNat), .int 1])) uA (.tup [.ref pA, .ref wA, .int far]) wA = some (.lst []) := upd_get (upd_get upd_same htA) huA
    have hwH : H wA = none := (Same.upd hpA).free hwA
    refine for_range (lo := 0) (n := ns.length) (fun i σ H2 => ∃ (qA : Addr) (ps : List Nat) (v4 v5 : Option V), σ = [some (.ref a), some (.ref qA), some (.ref wA), some (.int far), v4, v5] ∧ Same H H2 ∧ ps.Perm (List.range i) ∧
        H2 qA = some (.lst (ps.map fun (j : Nat) => V.int (j : Int))) ∧ H2 wA = some (.lst ((List.range i).map fun j => V.int (Ins.wag ns far j))) ∧ qA ≠ wA)
      ⟨pA, [], none, none, rfl, s3, .refl _, hp0, hw0, epw⟩ ?_ ?_
    · rintro i σ H2 hi ⟨qA, ps, v4, v5, rfl, sm, hperm, hq, hw, eqw⟩
      obtain ⟨c, ec⟩ : ∃ c, ns[i]? = some c := ⟨_, List.getElem?_eq_getElem hi⟩
      have ecV : (ns.map V.int)[i]? = some (.int c) := by rw [List.getElem?_map, ec]; rfl
      have eD : ns.getD i 0 = c := by rw [List.getD_eq_getElem?_getD, ec]; rfl
      rw [show (0 : Int) + (i : Int) = (i : Int) from Int.zero_add _]
      have hpl : ps.length = i := by rw [hperm.length_eq, List.length_range]
      -- _law_at
      refine ⟨_, rfl, _, rfl, .inl ⟨a, _, _, .int c, rfl, rfl, sm.seq hS, atI_nat ecV, ?_⟩⟩
      refine ⟨_, rfl, .inl ⟨_, 1, rfl, rfl, _, _, rfl, rfl, (by omega), ?_⟩⟩
      have a0 := Int.emod_nonneg c (show (i : Int) + 1 ≠ 0 by omega)
      have a1 := Int.emod_lt_of_pos c (show (0 : Int) < (i : Int) + 1 by omega)
      obtain ⟨at_, hat⟩ : ∃ n : Nat, c % ((i : Int) + 1) = (n : Int) := ⟨(c % ((i : Int) + 1)).toNat, by omega⟩
      dsimp only
      rw [hat]
      -- _law_places
      refine ⟨_, rfl, _, rfl, _, rfl, qA, _, rfl, SqL.of hq, fun b1 hb1 => ?_⟩
      rw [cutV_to, ← List.map_take]
      refine ⟨_, rfl, (by show 1 ≤ sizeLine; decide), fun b2 hb2 => ?_⟩
      refine .inr (.inl ⟨b1, b2, _, _, rfl, rfl, upd_get upd_same hb2, upd_same, ?_, fun b3 hb3 => ?_⟩)
      · simp only [List.length_map, List.length_take, List.length_cons, List.length_nil]
        exact Nat.le_of_lt (small1000 (by omega))
      have t1 : Same H2 (upd (upd (upd H2 b1 (.lst ((ps.take at_).map fun (j : Nat) => V.int (j : Int)))) b2 (.lst [.int i])) b3 (.lst ((ps.take at_).map (fun (j : Nat) => V.int (j : Int)) ++ [.int i]))) := ((Same.upd hb1).trans (Same.upd hb2)).trans (Same.upd hb3)
      refine ⟨_, rfl, _, rfl, _, rfl, qA, _, rfl, SqL.of (t1 _ _ hq), fun b4 hb4 => ?_⟩
      rw [cutV_from, ← List.map_drop]
      refine .inr (.inl ⟨b3, b4, _, _, rfl, rfl, upd_get upd_same hb4, upd_same, ?_, fun b5 hb5 => ?_⟩)
      · simp only [List.length_append, List.length_map, List.length_take, List.length_drop, List.length_cons, List.length_nil]
        exact Nat.le_of_lt (small1000 (by omega))
      have t2 := (t1.trans (Same.upd (o := .lst ((ps.drop at_).map fun (j : Nat) => V.int (j : Int))) hb4)).trans (Same.upd (o := .lst ((ps.take at_).map (fun (j : Nat) => V.int (j : Int)) ++ [.int i] ++ (ps.drop at_).map (fun (j : Nat) => V.int (j : Int)))) hb5)
      have hw5 := t2 _ _ hw
      have e5w : b5 ≠ wA := fun z => by
        rw [z] at hb5
        have := t1.trans (Same.upd (o := .lst ((ps.drop at_).map fun (j : Nat) => V.int (j : Int))) hb4) _ _ hw
        rw [this] at hb5
        cases hb5
      -- append
      refine ⟨_, rfl, .inl ⟨rfl, _, SqL.of hw5⟩, ?_⟩
      refine ⟨_, rfl, .inl ⟨7, _, rfl, rfl, .inl ⟨by decide, by decide⟩, ?_⟩⟩
      refine ⟨_, rfl, _, rfl, .inl ⟨a, _, _, .int c, rfl, rfl, (sm.trans t2).seq hS, atI_nat ecV, ?_⟩⟩
      refine ⟨_, 3, rfl, rfl, ⟨by decide, by decide⟩, _, 7, rfl, rfl, (by show (0 : Int) < 7; decide), .inl ⟨_, _, rfl, rfl, _, 90, rfl, rfl, _, rfl, .inl ⟨_, far, rfl, rfl, .inr ⟨by omega, by omega⟩, ?_⟩⟩⟩
      refine ⟨wA, _, _, rfl, rfl, hw5, ?_, ?_⟩
      · rw [List.length_map, List.length_range]
        exact small1000 (by omega)
      refine ⟨b5, ps.take at_ ++ [i] ++ ps.drop at_, _, _, rfl, Same.updN (sm.trans t2) hwH, Ins.perm_ins hperm, ?_, ?_, e5w⟩
      · rw [upd_ne e5w, upd_same, List.map_append, List.map_append]
        rfl
      · rw [upd_same, List.range_succ, List.map_append]
        show some (HO.lst (_ ++ [V.int ((7 * (i : Int) + c / 3 % 7 - 90) * far)])) = some (HO.lst (_ ++ [V.int (Ins.wag ns far i)]))
        unfold Ins.wag
        rw [eD]
    · rintro σ H2 ⟨qA, ps, v4, v5, rfl, sm, hperm, hq, hw, eqw⟩
      refine ⟨_, rfl, qA, rfl, ⟨_, SqL.of hq⟩, fun p hp => ?_⟩
      refine turns_list (K := K) (a := qA) (xs := ps.map fun (j : Nat) => V.int (j : Int)) (fun i σ H3 => (∃ v, σ = [v, some (.ref wA)]) ∧ Same H2 H3 ∧ H3 p = some (.lst (((ps.take i).map (Ins.wag ns far)).map V.int)))
        ⟨⟨_, rfl⟩, Same.upd hp, upd_same⟩ (fun i σ H3 _ h => SqL.of (h.2.1 _ _ hq)) ?_ ?_
      · rintro i x σ H3 hx ⟨⟨v, rfl⟩, s4, h4⟩
        obtain ⟨j, ej, rfl⟩ := getMap hx
        have hj : j < ns.length := Ins.perm_lt hperm (List.mem_of_getElem? ej)
        refine ⟨_, rfl, _, rfl, .inl ⟨wA, _, _, .int (Ins.wag ns far j), rfl, rfl, SqL.of (s4 _ _ hw), atI_nat ?_, _, h4, ?_, ⟨_, rfl⟩, Same.updN s4 hp, ?_⟩⟩
        · rw [List.getElem?_map, List.getElem?_range hj]
          rfl
        · rw [List.length_map, List.length_map, List.length_take]
          have : ps.length = ns.length := by rw [hperm.length_eq, List.length_range]
          exact small1000 (by omega)
        · rw [upd_same, take_snoc ej, List.map_append, List.map_append]
          rfl
      · rintro σ H3 ⟨_, s4, h4⟩
        rw [List.length_map, List.take_length] at h4
        exact k p ps far H3 (sm.trans s4) (sm.free hp) h4 hf1 hf2 hperm
end
end My
/-! law_k09: the rules of its text. -/
namespace My
open PySem L2
open Fg (cs ok val sg jn fig dig inT wr words bk)
section
variable {P : Program} {w : World} {K : PySem.W.Frag} {mg : Str → Option Value} {base : Heap} {Z : Adr}
theorem sc_law : FnScope ["_law_script", "_law_trains", "_law_train", "_law_text", "_law_k", "_law_cell", "_law_part", "_law_at", "_law_sign", "_law_bad"] ["_law_script"] (defScope s_law) := ⟨rfl, rfl, rfl, by decide +kernel, rfl, by decide +kernel, by decide +kernel⟩
noncomputable def tmL (T : Tx K mg Z) {f fr fw : Addr} {cdv : Value} {A : Around} {outer : List Env} {s : Shared} {H : Hp} {E : XK} (hr : Room 10 (A.deeper (PyProof.Rows.envOfC "law" (defScope s_law) s.heap.objs.size f cdv)))
    (mf__law_read : mg "_law_read" = some (.ref fr)) (mf__law_written : mg "_law_written" = some (.ref fw)) :
    {t : TS // PSs (cxOf CX0 P w K mg base ["_law_script", "_law_trains", "_law_train", "_law_text", "_law_k", "_law_cell", "_law_part", "_law_at", "_law_sign", "_law_bad"] "law" (defScope s_law) f cdv A outer s H E).nox (defBody s_law) t} := by
    refine' ⟨_, ?hterm⟩
    case hterm =>
      refine' pss_cons ?q1 ?q2
      case q1 =>
        refine' ps_set (i := 1) sc_law.nd rfl (Or.inl rfl) ?q3
        case q3 =>
          refine' pe_lst ?q4
          case q4 =>
            refine' pa_cons ?q5 ?q6
            case q5 =>
              refine' pe_callC (C__law_inserted T) (hr.mono (by decide)) rfl ?q7
              case q7 =>
                refine' pa_cons ?q8 ?q9
                case q8 => exact pv 0
                case q9 => exact pa_nil
            case q6 =>
              refine' pa_cons ?q10 ?q11
              case q10 =>
                refine' pe_callC (C__law_great T) (hr.mono (by decide)) rfl ?q12
                case q12 =>
                  refine' pa_cons ?q13 ?q14
                  case q13 => exact pv 0
                  case q14 => exact pa_nil
              case q11 => exact pa_nil
      case q2 =>
        refine' pss_cons ?q15 ?q16
        case q15 =>
          refine' ps_for HP rfl ?q17 ?q18 ?q19
          case q17 =>
            refine' pi_listK (K := K) (by rfl) ?q20
            case q20 => exact pv 1
          case q18 => exact pg_name (i := 2) sc_law.nd (by rfl) (by exact Or.inl rfl)
          case q19 =>
            refine' pss_cons ?q21 ?q22
            case q21 =>
              refine' ps_set (i := 3) sc_law.nd rfl (Or.inl rfl) ?q23
              case q23 =>
                refine' pe_bmK (K := K) (by rfl) PySem.F.plainAttrs_str PySem.F.slot_str_join PySem.F.type_str_join (mt_joinK (K := K) (by rfl)) ?q24 ?q25
                case q24 => exact pe_str
                case q25 =>
                  refine' pa_cons ?q26 ?q27
                  case q26 =>
                    refine' pe_comp rfl (csc_of (sc := defScope s_law) (N := ["_law_script", "_law_trains", "_law_train", "_law_text", "_law_k", "_law_cell", "_law_part", "_law_at", "_law_sign", "_law_bad"]) (cap := [none]) (N' := ["_law_wagon"]) rfl rfl ⟨ rfl, by decide +kernel, by decide +kernel, by decide +kernel, rfl, by decide +kernel ⟩) ?q28 (fun _ _ _ _ => ?q29) (fun _ _ _ _ => ?q30) (fun _ _ _ _ => ?q31)
                    case q28 =>
                      refine' pi_listK (K := K) (by rfl) ?q32
                      case q32 => exact pv 2
                    case q29 => exact pg_name (i := 0) (show List.Nodup (["_law_wagon"] : List Str) from by decide +kernel) (by rfl) (by exact Or.inl rfl)
                    case q30 => exact pif_nil
                    case q31 =>
                      refine' pe_callTy call_str_int (by rfl) T.n_str b_str ?q33
                      case q33 =>
                        refine' pa_cons ?q34 ?q35
                        case q34 => exact pv 0
                        case q35 => exact pa_nil
                  case q27 => exact pa_nil
            case q22 =>
              refine' pss_cons ?q36 ?q37
              case q36 =>
                refine' ps_if ?q38 ?q39 ?q40
                case q38 =>
                  refine' pt_truK (K := K) (by rfl) ?q41 (fun _ => rfl)
                  case q41 =>
                    refine' pe_callB (callK_any (K := K) (by rfl) (by rfl)) (by rfl) T.n_any b_any ?q42
                    case q42 =>
                      refine' pa_cons ?q43 ?q44
                      case q43 =>
                        refine' pe_comp rfl (csc_of (sc := defScope s_law) (N := ["_law_script", "_law_trains", "_law_train", "_law_text", "_law_k", "_law_cell", "_law_part", "_law_at", "_law_sign", "_law_bad"]) (cap := [none]) (N' := ["_law_wagon"]) rfl rfl ⟨ rfl, by decide +kernel, by decide +kernel, by decide +kernel, rfl, by decide +kernel ⟩) ?q45 (fun _ _ _ _ => ?q46) (fun _ _ _ _ => ?q47) (fun _ _ _ _ => ?q48)
                        case q45 =>
                          refine' pi_listK (K := K) (by rfl) ?q49
                          case q49 => exact pv 2
                        case q46 => exact pg_name (i := 0) (show List.Nodup (["_law_wagon"] : List Str) from by decide +kernel) (by rfl) (by exact Or.inl rfl)
                        case q47 => exact pif_nil
                        case q48 =>
                          refine' pe_cmpR op_gt ?q50 ?q51 (nomark _)
                          case q50 =>
                            refine' pe_callB call_abs (by rfl) T.n_abs b_abs ?q52
                            case q52 =>
                              refine' pa_cons ?q53 ?q54
                              case q53 => exact pv 0
                              case q54 => exact pa_nil
                          case q51 => exact pe_int
                      case q44 => exact pa_nil
                case q39 =>
                  refine' pss_one ?q55
                  case q55 =>
                    refine' ps_if ?q56 ?q57 ?q58
                    case q56 =>
                      refine' PW.pt ?q59
                      case q59 =>
                        refine' pw_or ?q60 ?q61
                        case q60 =>
                          refine' pt_not ?q62
                          case q62 =>
                            refine' pt_truK (K := K) (by rfl) ?q63 (fun _ => rfl)
                            case q63 =>
                              refine' pe_callC (C__law_refused (P := P) (w := w) (base := base) T) (hr.mono (by decide)) rfl ?q64
                              case q64 =>
                                refine' pa_cons ?q65 ?q66
                                case q65 => exact pe_clsN (by rfl) mf__law_written
                                case q66 =>
                                  refine' pa_cons ?q67 ?q68
                                  case q67 => exact pv 2
                                  case q68 =>
                                    refine' pa_cons ?q69 ?q70
                                    case q69 =>
                                      refine' pe_lst ?q71
                                      case q71 =>
                                        refine' pa_cons ?q72 ?q73
                                        case q72 => exact pe_bl
                                        case q73 =>
                                          refine' pa_cons ?q74 ?q75
                                          case q74 => exact pe_bl
                                          case q75 => exact pa_nil
                                    case q70 => exact pa_nil
                        case q61 =>
                          refine' pw_or1 ?q76
                          case q76 =>
                            refine' pt_not ?q77
                            case q77 =>
                              refine' pt_truK (K := K) (by rfl) ?q78 (fun _ => rfl)
                              case q78 =>
                                refine' pe_callC (C__law_refused (P := P) (w := w) (base := base) T) (hr.mono (by decide)) rfl ?q79
                                case q79 =>
                                  refine' pa_cons ?q80 ?q81
                                  case q80 => exact pe_clsN (by rfl) mf__law_read
                                  case q81 =>
                                    refine' pa_cons ?q82 ?q83
                                    case q82 => exact pv 3
                                    case q83 =>
                                      refine' pa_cons ?q84 ?q85
                                      case q84 =>
                                        refine' pe_lst ?q86
                                        case q86 =>
                                          refine' pa_cons ?q87 ?q88
                                          case q87 => exact pe_bl
                                          case q88 =>
                                            refine' pa_cons ?q89 ?q90
                                            case q89 => exact pe_bl
                                            case q90 => exact pa_nil
                                      case q85 => exact pa_nil
                    case q57 =>
                      refine' pss_one ?q91
                      case q91 =>
                        refine' ps_ret ?q92
                        case q92 => exact pe_bl
                    case q58 => exact pss_nil
                case q40 =>
                  refine' pss_one ?q93
                  case q93 =>
                    refine' ps_if ?q94 ?q95 ?q96
                    case q94 =>
                      refine' PW.pt ?q97
                      case q97 =>
                        refine' pw_or ?q98 ?q99
                        case q98 =>
                          refine' pt_cmpR (op_neK (K := K) (by rfl) (by exact hr.units)) ?q100 ?q101 (nomark _)
                          case q100 =>
                            refine' pe_callX (C_written T) (hr.mono (by decide)) rfl ?q102
                            case q102 =>
                              refine' pa_cons ?q103 ?q104
                              case q103 => exact pv 2
                              case q104 => exact pa_nil
                          case q101 => exact pv 3
                        case q99 =>
                          refine' pw_or1 ?q105
                          case q105 =>
                            refine' pt_not ?q106
                            case q106 =>
                              refine' pt_truK (K := K) (by rfl) ?q107 (fun _ => rfl)
                              case q107 =>
                                refine' pe_callC (C__law_right T) (hr.mono (by decide)) rfl ?q108
                                case q108 =>
                                  refine' pa_cons ?q109 ?q110
                                  case q109 => exact pv 3
                                  case q110 => exact pa_nil
                    case q95 =>
                      refine' pss_one ?q111
                      case q111 =>
                        refine' ps_ret ?q112
                        case q112 => exact pe_bl
                    case q96 => exact pss_nil
              case q37 =>
                refine' pss_one ?q113
                case q113 =>
                  refine' ps_for HP rfl ?q114 ?q115 ?q116
                  case q114 =>
                    refine' pi_range1 rfl T.n_range ?q117
                    case q117 =>
                      refine' pa_cons ?q118 ?q119
                      case q118 =>
                        refine' pe_callB (callK_len (K := K) (by rfl)) (by rfl) T.n_len b_len ?q120
                        case q120 =>
                          refine' pa_cons ?q121 ?q122
                          case q121 => exact pv 2
                          case q122 => exact pa_nil
                      case q119 => exact pa_nil
                  case q115 => exact pg_name (i := 4) sc_law.nd (by rfl) (by exact Or.inl rfl)
                  case q116 =>
                    refine' pss_cons ?q123 ?q124
                    case q123 =>
                      refine' ps_par (i := 5) (j := 6) rfl sc_law.nd rfl rfl (by decide) rfl rfl ?q125 (by kernel_rfl) (hs := by kernel_rfl)
                      case q125 =>
                        refine' pa_cons ?q126 ?q127
                        case q126 =>
                          refine' pe_ix (ix_K (K := K) (by rfl)) ?q128 ?q129 (fun _ _ => rfl)
                          case q128 => exact pv 0
                          case q129 => exact pv 4
                        case q127 =>
                          refine' pa_cons ?q130 ?q131
                          case q130 =>
                            refine' pe_bmK (K := K) (by rfl) PySem.F.plainAttrs_str PySem.F.slot_str_join PySem.F.type_str_join (mt_joinK (K := K) (by rfl)) ?q132 ?q133
                            case q132 => exact pe_str
                            case q133 =>
                              refine' pa_cons ?q134 ?q135
                              case q134 =>
                                refine' pe_comp rfl (csc_of (sc := defScope s_law) (N := ["_law_script", "_law_trains", "_law_train", "_law_text", "_law_k", "_law_cell", "_law_part", "_law_at", "_law_sign", "_law_bad"]) (cap := [none]) (N' := ["_law_wagon"]) rfl rfl ⟨ rfl, by decide +kernel, by decide +kernel, by decide +kernel, rfl, by decide +kernel ⟩) ?q136 (fun _ _ _ _ => ?q137) (fun _ _ _ _ => ?q138) (fun _ _ _ _ => ?q139)
                                case q136 =>
                                  refine' pi_listK (K := K) (by rfl) ?q140
                                  case q140 =>
                                    refine' pe_slice (sl_K (K := K) (by rfl)) ?q141 ?q142 ?q143
                                    case q141 => exact pv 2
                                    case q142 =>
                                      refine' po_some ?q144
                                      case q144 => exact pv 4
                                    case q143 =>
                                      refine' po_some ?q145
                                      case q145 =>
                                        refine' pe_op (op_addK (K := K) (by rfl)) ?q146 ?q147
                                        case q146 => exact pv 4
                                        case q147 => exact pe_int
                                case q137 => exact pg_name (i := 0) (show List.Nodup (["_law_wagon"] : List Str) from by decide +kernel) (by rfl) (by exact Or.inl rfl)
                                case q138 => exact pif_nil
                                case q139 =>
                                  refine' pe_callTy call_str_int (by rfl) T.n_str b_str ?q148
                                  case q148 =>
                                    refine' pa_cons ?q149 ?q150
                                    case q149 => exact pv 0
                                    case q150 => exact pa_nil
                              case q135 => exact pa_nil
                          case q131 => exact pa_nil
                    case q124 =>
                      refine' pss_cons ?q151 ?q152
                      case q151 =>
                        refine' ps_set (i := 7) sc_law.nd rfl (Or.inl rfl) ?q153
                        case q153 =>
                          refine' pe_op op_mod ?q154 ?q155
                          case q154 =>
                            refine' pe_op op_fdiv ?q156 ?q157
                            case q156 => exact pv 5
                            case q157 => exact pe_int
                          case q155 =>
                            refine' pe_op (op_addK (K := K) (by rfl)) ?q158 ?q159
                            case q158 =>
                              refine' pe_callB (callK_len (K := K) (by rfl)) (by rfl) T.n_len b_len ?q160
                              case q160 =>
                                refine' pa_cons ?q161 ?q162
                                case q161 => exact pv 6
                                case q162 => exact pa_nil
                            case q159 => exact pe_int
                      case q152 =>
                        refine' pss_cons ?q163 ?q164
                        case q163 =>
                          refine' ps_set (i := 8) sc_law.nd rfl (Or.inl rfl) ?q165
                          case q165 =>
                            refine' pe_ix (ix_K (K := K) (by rfl)) ?q166 ?q167 (fun _ _ => rfl)
                            case q166 =>
                              refine' pe_tup ?q168
                              case q168 =>
                                refine' pa_cons ?q169 ?q170
                                case q169 => exact pe_str
                                case q170 =>
                                  refine' pa_cons ?q171 ?q172
                                  case q171 =>
                                    refine' pe_ix ix_str ?q173 ?q174 (fun _ _ => rfl)
                                    case q173 => exact pe_str
                                    case q174 =>
                                      refine' pe_op op_mod ?q175 ?q176
                                      case q175 =>
                                        refine' pe_op op_fdiv ?q177 ?q178
                                        case q177 => exact pv 5
                                        case q178 => exact pe_int
                                      case q176 => exact pe_int
                                  case q172 => exact pa_nil
                            case q167 =>
                              refine' pe_op op_mod ?q179 ?q180
                              case q179 => exact pv 5
                              case q180 => exact pe_int
                        case q164 =>
                          refine' pss_one ?q181
                          case q181 =>
                            refine' ps_if ?q182 ?q183 ?q184
                            case q182 =>
                              refine' pt_not ?q185
                              case q185 =>
                                refine' pt_truK (K := K) (by rfl) ?q186 (fun _ => rfl)
                                case q186 =>
                                  refine' pe_callC (C__law_right T) (hr.mono (by decide)) rfl ?q187
                                  case q187 =>
                                    refine' pa_cons ?q188 ?q189
                                    case q188 =>
                                      refine' pe_op (op_addK (K := K) (by rfl)) ?q190 ?q191
                                      case q190 =>
                                        refine' pe_op (op_addK (K := K) (by rfl)) ?q192 ?q193
                                        case q192 =>
                                          refine' pe_slice sl_str ?q194 ?q195 ?q196
                                          case q194 => exact pv 6
                                          case q195 => exact po_none
                                          case q196 =>
                                            refine' po_some ?q197
                                            case q197 => exact pv 7
                                        case q193 => exact pv 8
                                      case q191 =>
                                        refine' pe_slice sl_str ?q198 ?q199 ?q200
                                        case q198 => exact pv 6
                                        case q199 =>
                                          refine' po_some ?q201
                                          case q201 =>
                                            refine' pe_op (op_addK (K := K) (by rfl)) ?q202 ?q203
                                            case q202 => exact pv 7
                                            case q203 =>
                                              refine' pe_op op_mod ?q204 ?q205
                                              case q204 =>
                                                refine' pe_op op_fdiv ?q206 ?q207
                                                case q206 => exact pv 5
                                                case q207 => exact pe_int
                                              case q205 => exact pe_int
                                        case q200 => exact po_none
                                    case q189 => exact pa_nil
                            case q183 =>
                              refine' pss_one ?q208
                              case q208 =>
                                refine' ps_ret ?q209
                                case q209 => exact pe_bl
                            case q184 => exact pss_nil
        case q16 =>
          refine' pss_cons ?q210 ?q211
          case q210 =>
            refine' ps_if ?q212 ?q213 ?q214
            case q212 =>
              refine' pt_not ?q215
              case q215 =>
                refine' pt_truK (K := K) (by rfl) ?q216 (fun _ => rfl)
                case q216 =>
                  refine' pe_callB (callK_all (K := K) (by rfl) (by rfl)) (by rfl) T.n_all b_all ?q217
                  case q217 =>
                    refine' pa_cons ?q218 ?q219
                    case q218 =>
                      refine' pe_comp rfl (csc_of (sc := defScope s_law) (N := ["_law_script", "_law_trains", "_law_train", "_law_text", "_law_k", "_law_cell", "_law_part", "_law_at", "_law_sign", "_law_bad"]) (cap := [none]) (N' := ["_law_text"]) rfl rfl ⟨ rfl, by decide +kernel, by decide +kernel, by decide +kernel, rfl, by decide +kernel ⟩) ?q220 (fun _ _ _ _ => ?q221) (fun _ _ _ _ => ?q222) (fun _ _ _ _ => ?q223)
                      case q220 =>
                        refine' pi_listK (K := K) (by rfl) ?q224
                        case q224 => exact pe_callC0 (C__law_few T) (hr.mono (by decide)) rfl
                      case q221 => exact pg_name (i := 0) (show List.Nodup (["_law_text"] : List Str) from by decide +kernel) (by rfl) (by exact Or.inl rfl)
                      case q222 => exact pif_nil
                      case q223 =>
                        refine' pe_callC (C__law_right T) (hr.mono (by decide)) rfl ?q225
                        case q225 =>
                          refine' pa_cons ?q226 ?q227
                          case q226 => exact pv 0
                          case q227 => exact pa_nil
                    case q219 => exact pa_nil
            case q213 =>
              refine' pss_one ?q228
              case q228 =>
                refine' ps_ret ?q229
                case q229 => exact pe_bl
            case q214 => exact pss_nil
          case q211 =>
            refine' pss_cons ?q230 ?q231
            case q230 =>
              refine' ps_for HP rfl ?q232 ?q233 ?q234
              case q232 =>
                refine' pi_listK (K := K) (by rfl) ?q235
                case q235 =>
                  refine' pe_lst ?q236
                  case q236 =>
                    refine' pa_cons ?q237 ?q238
                    case q237 =>
                      refine' pe_lst ?q239
                      case q239 =>
                        refine' pa_cons ?q240 ?q241
                        case q240 => exact pe_int
                        case q241 => exact pa_nil
                    case q238 =>
                      refine' pa_cons ?q242 ?q243
                      case q242 =>
                        refine' pe_lst ?q244
                        case q244 =>
                          refine' pa_cons ?q245 ?q246
                          case q245 => exact pe_int
                          case q246 =>
                            refine' pa_cons ?q247 ?q248
                            case q247 =>
                              refine' pe_un un_neg ?q249
                              case q249 => exact pe_int
                            case q248 => exact pa_nil
                      case q243 =>
                        refine' pa_cons ?q250 ?q251
                        case q250 =>
                          refine' pe_op (op_addK (K := K) (by rfl)) ?q252 ?q253
                          case q252 =>
                            refine' pe_lst ?q254
                            case q254 =>
                              refine' pa_cons ?q255 ?q256
                              case q255 => exact pe_int
                              case q256 => exact pa_nil
                          case q253 =>
                            refine' pe_lst ?q257
                            case q257 =>
                              refine' pa_cons ?q258 ?q259
                              case q258 =>
                                refine' pe_op op_pow ?q260 ?q261
                                case q260 => exact pe_int
                                case q261 => exact pe_int
                              case q259 => exact pa_nil
                        case q251 => exact pa_nil
              case q233 => exact pg_name (i := 9) sc_law.nd (by rfl) (by exact Or.inl rfl)
              case q234 =>
                refine' pss_one ?q262
                case q262 =>
                  refine' ps_if ?q263 ?q264 ?q265
                  case q263 =>
                    refine' pt_not ?q266
                    case q266 =>
                      refine' pt_truK (K := K) (by rfl) ?q267 (fun _ => rfl)
                      case q267 =>
                        refine' pe_callC (C__law_refused (P := P) (w := w) (base := base) T) (hr.mono (by decide)) rfl ?q268
                        case q268 =>
                          refine' pa_cons ?q269 ?q270
                          case q269 => exact pe_clsN (by rfl) mf__law_written
                          case q270 =>
                            refine' pa_cons ?q271 ?q272
                            case q271 => exact pv 9
                            case q272 =>
                              refine' pa_cons ?q273 ?q274
                              case q273 =>
                                refine' pe_lst ?q275
                                case q275 =>
                                  refine' pa_cons ?q276 ?q277
                                  case q276 => exact pe_bl
                                  case q277 =>
                                    refine' pa_cons ?q278 ?q279
                                    case q278 => exact pe_bl
                                    case q279 => exact pa_nil
                              case q274 => exact pa_nil
                  case q264 =>
                    refine' pss_one ?q280
                    case q280 =>
                      refine' ps_ret ?q281
                      case q281 => exact pe_bl
                  case q265 => exact pss_nil
            case q231 =>
              refine' pss_one ?q282
              case q282 =>
                refine' ps_ret ?q283
                case q283 =>
                  refine' pe_callB (callK_all (K := K) (by rfl) (by rfl)) (by rfl) T.n_all b_all ?q284
                  case q284 =>
                    refine' pa_cons ?q285 ?q286
                    case q285 =>
                      refine' pe_comp rfl (csc_of (sc := defScope s_law) (N := ["_law_script", "_law_trains", "_law_train", "_law_text", "_law_k", "_law_cell", "_law_part", "_law_at", "_law_sign", "_law_bad"]) (cap := [none]) (N' := ["_law_thing"]) rfl rfl ⟨ rfl, by decide +kernel, by decide +kernel, by decide +kernel, rfl, by decide +kernel ⟩) ?q287 (fun _ _ _ _ => ?q288) (fun _ _ _ _ => ?q289) (fun _ _ _ _ => ?q290)
                      case q287 =>
                        refine' pi_listK (K := K) (by rfl) ?q291
                        case q291 =>
                          refine' pe_lst ?q292
                          case q292 =>
                            refine' pa_cons ?q293 ?q294
                            case q293 => exact pe_non
                            case q294 =>
                              refine' pa_cons ?q295 ?q296
                              case q295 => exact pe_int
                              case q296 =>
                                refine' pa_cons ?q297 ?q298
                                case q297 =>
                                  refine' pe_lst ?q299
                                  case q299 =>
                                    refine' pa_cons ?q300 ?q301
                                    case q300 => exact pe_str
                                    case q301 => exact pa_nil
                                case q298 =>
                                  refine' pa_cons ?q302 ?q303
                                  case q302 => exact pe_bl
                                  case q303 => exact pa_nil
                      case q288 => exact pg_name (i := 0) (show List.Nodup (["_law_thing"] : List Str) from by decide +kernel) (by rfl) (by exact Or.inl rfl)
                      case q289 => exact pif_nil
                      case q290 =>
                        refine' pe_callC (C__law_refused (P := P) (w := w) (base := base) T) (hr.mono (by decide)) rfl ?q304
                        case q304 =>
                          refine' pa_cons ?q305 ?q306
                          case q305 => exact pe_clsN (by rfl) mf__law_read
                          case q306 =>
                            refine' pa_cons ?q307 ?q308
                            case q307 => exact pv 0
                            case q308 =>
                              refine' pa_cons ?q309 ?q310
                              case q309 =>
                                refine' pe_lst ?q311
                                case q311 =>
                                  refine' pa_cons ?q312 ?q313
                                  case q312 => exact pe_bl
                                  case q313 =>
                                    refine' pa_cons ?q314 ?q315
                                    case q314 => exact pe_bl
                                    case q315 => exact pa_nil
                              case q310 => exact pa_nil
                    case q286 => exact pa_nil
end
end My
/-! law_k09. -/
namespace My
open PySem L2
open Fg (cs ok val sg jn fig dig inT wr words bk)
section
variable {P : Program} {w : World} {K : PySem.W.Frag} {mg : Str → Option Value} {base : Heap} {Z : Adr}
theorem if_both {c : Bool} {A B : TS} {D : Ends} {σ : St} {H : Hp} (h1 : c = true → ∀ D' : Ends, (∀ H', Same H H' → D'.nx σ H') → A D' σ H) (h2 : c = false → ∀ D' : Ends, (∀ H', Same H H' → D'.nx σ H') → B D' σ H)
    (h : ∀ H', Same H H' → D.nx σ H') : if c = true then A D σ H else B D σ H := iteB (fun e => h1 e D h) (fun e => h2 e D h)
theorem ok_law {f : Addr} {fd : FuncData} (T : Tx K mg Z) (F : Fun K "law" "law" s_law f fd) : FnOk P w K mg base CX0 11 f fd ["_law_script"] (sp_law K) := by
  refine F.ok sc_law (fun vs H Q E h => ?_) (fun cdv A outer s H vs Q E hr h => ?_)
  · obtain ⟨a, ns, rfl, _⟩ := h
    rfl
  · obtain ⟨a, ns, rfl, hS, hz, kQ⟩ := h
    obtain ⟨fr, mf__law_read, vr⟩ := ctrV (P := P) (w := w) (base := base) (C__law_read T) (by decide)
    obtain ⟨fw, mf__law_written, vw⟩ := ctrV (P := P) (w := w) (base := base) (C__law_written T) (by decide)
    refine ⟨(tmL (P := P) (w := w) (base := base) (outer := outer) (E := E) (H := H) T hr mf__law_read mf__law_written).1, (tmL T hr mf__law_read mf__law_written).2, ?_⟩
    dsimp only [tmL]
    have far1 : ∀ n : Int, near n ↔ (-999999 ≤ n ∧ n ≤ 999999) := fun n => Iff.rfl
    refine ⟨_, rfl, a, ns, rfl, hS, by omega, fun iA ps far H1 s1 f1 h1 hf1 hf2 hperm => ?_⟩
    refine ⟨_, rfl, a, ns, rfl, s1.seq hS, by omega, fun gA gs H2 s2 f2 h2 hg1 hg2 hg3 => ?_⟩
    have ti : Tr ns.length (ps.map (Ins.wag ns far)) := ⟨Ins.train_nodup ns hf1 hperm, by rw [List.length_map, hperm.length_eq, List.length_range]; omega, fun n hn => by
      obtain ⟨j, hj, rfl⟩ := List.mem_map.mp hn
      have := Ins.perm_lt hperm hj
      exact wag_ok hf1 hf2 (by omega)⟩
    have tg : Tr ns.length gs := ⟨hg1, hg3, fun n hn => by have := hg2 n hn; unfold near at this; omega⟩
    refine ⟨(by show 2 ≤ sizeLine; decide), fun tA htA => ?_⟩
    have h1' : upd H2 tA (.lst [.ref iA, .ref gA]) iA = some (.lst ((ps.map (Ins.wag ns far)).map V.int)) := upd_get (s2 _ _ h1) htA
    have h2' : upd H2 tA (.lst [.ref iA, .ref gA]) gA = some (.lst (gs.map V.int)) := upd_get h2 htA
    have ht' : upd H2 tA (.lst [.ref iA, .ref gA]) tA = some (.lst [.ref iA, .ref gA]) := upd_same
    have sH := (s1.trans s2).trans (Same.upd (o := .lst [.ref iA, .ref gA]) htA)
    generalize upd H2 tA (.lst [.ref iA, .ref gA]) = HB at h1' h2' ht' sH ⊢
    have hSB := sH.seq hS
    refine ⟨_, rfl, tA, rfl, ⟨_, SqL.of ht'⟩, for_list (K := K) (a := tA) (xs := [.ref iA, .ref gA]) (fun i σ H3 => (∃ v2 v3 v4 v5 v6 v7 v8 v9 : Option V, σ = [some (.ref a), some (.ref tA), v2, v3, v4, v5, v6, v7, v8, v9]) ∧ Same HB H3)
      ⟨⟨_, _, _, _, _, _, _, _, rfl⟩, Same.refl _⟩ (fun i σ H3 _ h => SqL.of (h.2 _ _ ht')) ?_ ?_⟩
    · rintro i x σ H3 hx ⟨⟨v2, v3, v4, v5, v6, v7, v8, v9, rfl⟩, s3⟩
      obtain ⟨xA, ts, rfl, hxA, hT⟩ : ∃ xA ts, x = .ref xA ∧ H3 xA = some (.lst (ts.map V.int)) ∧ Tr ns.length ts := by
        match i, hx with
        | 0, hx => cases hx; exact ⟨iA, _, rfl, s3 _ _ h1', ti⟩
        | 1, hx => cases hx; exact ⟨gA, _, rfl, s3 _ _ h2', tg⟩
      obtain ⟨hnd, hlen, hbd⟩ := hT
      have hS3 := s3.seq hSB
      -- text
      refine ⟨rfl, _, rfl, xA, rfl, ⟨_, SqL.of hxA⟩, fun q hq => ?_⟩
      refine turns_map (K := K) (xs := ts.map V.int) (fun x => match x with | .int n => .str (Str.ofString (toString n)) | _ => .non) hq (SqL.of hxA) (by rw [List.length_map]; omega) (fun x hx H4 s4 Q' hQ' => ?_) (fun H4 s4 h4 => ?_)
      · obtain ⟨n, hn, rfl⟩ := List.mem_map.mp hx
        exact ⟨_, rfl, n, rfl, log_ok (hbd n hn), hQ' H4 (Same.refl _)⟩
      have h4 : H4 q = some (.lst ((ts.map fun n => Str.ofString (toString n)).map V.str)) := by rw [h4, List.map_map, List.map_map]; rfl
      have hsz := Fg.strs_sum hbd
      refine ⟨_, q, _, rfl, rfl, SqL.of h4, ?_, ?_⟩
      · show _ + (ts.map _).length * 1 ≤ 16777216
        rw [List.length_map]
        omega
      rw [show (Str.ofString " ") = bk by decide +kernel, Fg.join_wr]
      have hx4 := s4 _ _ hxA
      have hS4 := s4.seq hS3
      have hwl := Fg.wr_len hbd
      have hwc := Fg.wr_count ts
      -- any([abs(..) > 999999 ..])
      refine ⟨_, rfl, xA, rfl, ⟨_, SqL.of hx4⟩, fun q2 hq2 => ?_⟩
      refine turns_map (K := K) (xs := ts.map V.int) (fun x => match x with | .int n => .bl (decide ((if n < 0 then -n else n) > 999999)) | _ => .non) hq2 (SqL.of hx4) (by rw [List.length_map]; omega) (fun x hx H5 s5 Q' hQ' => ?_) (fun H5 s5 h5 => ?_)
      · obtain ⟨n, hn, rfl⟩ := List.mem_map.mp hx
        exact ⟨_, rfl, n, rfl, _, _, rfl, rfl, hQ' H5 (Same.refl _)⟩
      have h5 : H5 q2 = some (.lst ((ts.map fun n => decide ((if n < 0 then -n else n) > 999999)).map V.bl)) := by rw [h5, List.map_map, List.map_map]; rfl
      refine ⟨q2, _, rfl, SqL.of h5, _, rfl, ?_⟩
      have hx5 := s5 _ _ hx4
      have hS5 := s5.seq hS4
      have s35 := s3.trans (s4.trans s5)
      refine if_both (fun c D' hD => ?_) (fun c D' hD => ?_) (fun H6 s6 => ?_)
      · have c := (any_far ts).mp c
        refine ⟨_, rfl, (by show 2 ≤ sizeLine; decide), fun d hd => ?_⟩
        have sd := Same.upd (o := .lst [.bl false, .bl true]) hd
        refine ⟨fw, d, .ref xA, _, _, false, rfl, vw, upd_same, fun Q' E' hE => ⟨xA, ts, rfl, sd _ _ hx5, by omega, hnd, fun q => absurd q fun q => c.elim fun n hn => hn.2 (q n hn.1), fun _ H' s' => hE H' s'⟩, fun H6 s6 => ⟨_, rfl, iteF ?_⟩⟩
        refine ⟨_, rfl, (by show 2 ≤ sizeLine; decide), fun e he => ?_⟩
        refine ⟨fr, e, .str (wr ts), _, _, true, rfl, vr, upd_same, fun Q' E' hE => .inl ⟨wr ts, rfl, by omega, by omega, fun ns' h => ?_, fun _ H' s' => hE H' s'⟩, fun H7 s7 => ⟨_, rfl, iteF ?_⟩⟩
        · obtain ⟨n, hn, z⟩ := c
          rw [Fg.inT_far hn z] at h
          cases h
        · exact hD _ (((sd.trans s6).trans (Same.upd he)).trans s7)
      · have c : ∀ n ∈ ts, near n := fun n hn => Classical.byContradiction fun z => by
          rw [(any_far ts).mpr ⟨n, hn, z⟩] at c
          cases c
        refine ⟨_, rfl, xA, ts, rfl, hx5, by omega, hnd, fun _ H6 s6 => ?_, fun ⟨n, hn, z⟩ => absurd (c n hn) z⟩
        refine ⟨_, rfl, .inl ⟨rfl, _, rfl, iteNS rfl ?_⟩⟩
        exact ⟨_, rfl, wr ts, rfl, by omega, by omega, fun H7 s7 => ⟨_, rfl, iteF (hD _ (s6.trans s7))⟩⟩
      -- for k in range(len(train))
      have hx6 := s6 _ _ hx5
      have hS6 := s6.seq hS5
      refine ⟨_, rfl, _, _, rfl, .inl ⟨_, SqL.of hx6, rfl⟩, _, rfl, ?_, ?_, ?_⟩
      · rw [List.length_map]; omega
      · rw [List.length_map]; omega
      rw [Int.toNat_natCast, List.length_map]
      refine for_range (lo := 0) (n := ts.length) (fun k σ H7 => (∃ v4 v5 v6 v7 v8 v9 : Option V, σ = [some (.ref a), some (.ref tA), some (.ref xA), some (.str (wr ts)), v4, v5, v6, v7, v8, v9]) ∧ Same H6 H7)
        ⟨⟨_, _, _, _, _, _, rfl⟩, Same.refl _⟩ ?_ ?_
      · rintro k σ H7 hk ⟨⟨v4, v5, v6, v7, v8, v9, rfl⟩, s7⟩
        rw [show (0 : Int) + (k : Int) = (k : Int) from Int.zero_add _]
        obtain ⟨c, ec⟩ : ∃ c, ns[k]? = some c := ⟨_, List.getElem?_eq_getElem (by omega)⟩
        have ecV : (ns.map V.int)[k]? = some (.int c) := by rw [List.getElem?_map, ec]; rfl
        have hS7 := s7.seq hS6
        have hx7 := s7 _ _ hx6
        obtain ⟨us, ecut, hul, hus⟩ := cut3 ts k
        have hbu : ∀ n ∈ us, n.natAbs < 10 ^ 10 := fun n hn => hbd n (hus n hn)
        refine ⟨_, rfl, _, rfl, .inl ⟨a, _, _, .int c, rfl, rfl, hS7, atI_nat ecV, ?_⟩⟩
        refine ⟨rfl, _, rfl, _, rfl, _, rfl, _, rfl, .inl ⟨_, _, rfl, rfl, _, rfl, xA, _, rfl, SqL.of hx7, fun cA hcA => ?_⟩⟩
        rw [ecut]
        refine ⟨cA, rfl, ⟨_, SqL.of upd_same⟩, fun q hq => ?_⟩
        refine turns_map (K := K) (xs := us.map V.int) (fun x => match x with | .int n => .str (Str.ofString (toString n)) | _ => .non) hq (SqL.of upd_same) (by rw [List.length_map]; omega) (fun x hx H8 s8 Q' hQ' => ?_) (fun H8 s8 h8 => ?_)
        · obtain ⟨n, hn, rfl⟩ := List.mem_map.mp hx
          exact ⟨_, rfl, n, rfl, log_ok (hbu n hn), hQ' H8 (Same.refl _)⟩
        have h8 : H8 q = some (.lst ((us.map fun n => Str.ofString (toString n)).map V.str)) := by rw [h8, List.map_map, List.map_map]; rfl
        have hsz := Fg.strs_sum hbu
        refine ⟨_, q, _, rfl, rfl, SqL.of h8, ?_, ?_⟩
        · show _ + (us.map _).length * 1 ≤ 16777216
          rw [List.length_map]
          omega
        rw [Fg.join_wr]
        have s78 := s7.trans ((Same.upd (o := .lst (us.map V.int)) hcA).trans s8)
        have hpl : (wr us).length ≤ 36 := by have := Fg.wr_len hbu; omega
        have hpc : (cs (wr us)).count 32 ≤ 2 := by have := Fg.wr_count us; omega
        generalize wr us = part at hpl hpc ⊢
        -- at
        have a0 := Int.emod_nonneg (c / 3) (show (part.length : Int) + 1 ≠ 0 by omega)
        have a1 := Int.emod_lt_of_pos (c / 3) (show (0 : Int) < (part.length : Int) + 1 by omega)
        obtain ⟨at_, hat⟩ : ∃ n : Nat, c / 3 % ((part.length : Int) + 1) = (n : Int) := ⟨(c / 3 % ((part.length : Int) + 1)).toNat, by omega⟩
        refine ⟨_, _, rfl, _, rfl, _, 3, rfl, rfl, ⟨by decide, by decide⟩, _, rfl, _, _, rfl, ⟨fits (by omega), rfl⟩, .inl ⟨_, 1, rfl, rfl, _, _, rfl, rfl, (by omega), ?_⟩⟩
        dsimp only
        rw [hat]
        -- sign
        have b0 := Int.emod_nonneg (c / 7) (show (14 : Int) ≠ 0 by decide)
        have b1 := Int.emod_lt_of_pos (c / 7) (show (0 : Int) < 14 by decide)
        obtain ⟨sn, hsn⟩ : ∃ n : Nat, c / 7 % 14 = (n : Int) := ⟨(c / 7 % 14).toNat, by omega⟩
        have hs14 : (Str.ofString "0123456789- +,").cps.toList.length = 14 := by decide +kernel
        obtain ⟨ch, hch⟩ : ∃ ch, (Str.ofString "0123456789- +,").cps.toList[sn]? = some ch := ⟨_, List.getElem?_eq_getElem (by omega)⟩
        refine ⟨_, rfl, _, 7, rfl, rfl, ⟨by decide, by decide⟩, _, 14, rfl, rfl, (by show (0 : Int) < 14; decide), ?_⟩
        dsimp only
        rw [hsn]
        refine ⟨_, _, ch, rfl, rfl, (by decide +kernel), atI_nat hch, (by show 2 ≤ sizeLine; decide), fun tpA htpA => ?_⟩
        have d0 := Int.emod_nonneg c (show (2 : Int) ≠ 0 by decide)
        have d1 := Int.emod_lt_of_pos c (show (0 : Int) < 2 by decide)
        obtain ⟨sgn, hsg, hatI⟩ : ∃ sgn : Str, sgn.length ≤ 1 ∧ atI [V.str (Str.ofString ""), V.str ⟨#[ch]⟩] (c % 2) = some (.str sgn) := by
          rcases (show c % 2 = 0 ∨ c % 2 = 1 by omega) with e | e <;> rw [e]
          · exact ⟨_, by decide, rfl⟩
          · exact ⟨_, Nat.le_refl _, rfl⟩
        refine ⟨_, rfl, _, 2, rfl, rfl, (by show (0 : Int) < 2; decide), .inr ⟨tpA, _, _, .str sgn, rfl, rfl, SqT.of upd_same, hatI, ?_⟩⟩
        -- right
        have g0 := Int.emod_nonneg (c / 2) (show (2 : Int) ≠ 0 by decide)
        obtain ⟨gn, hgn⟩ : ∃ n : Nat, c / 2 % 2 = (n : Int) := ⟨(c / 2 % 2).toNat, by omega⟩
        have l1 := Txt.slice_le part none (some (at_ : Int))
        have l2 := Txt.slice_le part (some ((at_ + gn : Nat) : Int)) none
        refine ⟨_, rfl, _, rfl, _, rfl, part, rfl, fits (by omega), _, rfl, .inr (.inr (.inr ⟨_, _, rfl, rfl, by rw [sizeLine_eq]; omega, ?_⟩))⟩
        refine ⟨_, rfl, _, rfl, _, rfl, _, 2, rfl, rfl, ⟨by decide, by decide⟩, _, 2, rfl, rfl, (by show (0 : Int) < 2; decide), .inl ⟨_, _, rfl, rfl, _, rfl, part, rfl, fits (by omega), ?_⟩⟩
        dsimp only
        rw [hgn, show (at_ : Int) + (gn : Int) = ((at_ + gn : Nat) : Int) by omega]
        obtain ⟨q1, q2⟩ := Fg.spoilt (part := part) (sg := sgn) (i := at_) (j := at_ + gn) hpl hpc hsg (by omega)
        have l3 : (Txt.slice part none (some (at_ : Int)) ++ sgn).length ≤ 37 := by rw [Str.length_append]; omega
        refine .inr (.inr (.inr ⟨_, _, rfl, rfl, by rw [sizeLine_eq]; omega, ?_⟩))
        refine ⟨_, rfl, q1, q2, fun H9 s9 => ⟨_, rfl, iteF ?_⟩⟩
        exact ⟨⟨_, _, _, _, _, _, rfl⟩, (s78.trans (Same.upd htpA)).trans s9⟩
      · rintro σ H7 ⟨⟨v4, v5, v6, v7, v8, v9, rfl⟩, s7⟩
        exact ⟨⟨_, _, _, _, _, _, _, _, rfl⟩, (s35.trans s6).trans s7⟩
    · rintro σ H3 ⟨⟨v2, v3, v4, v5, v6, v7, v8, v9, rfl⟩, s3⟩
      -- the few
      refine ⟨rfl, fun p ts H4 s4 f4 h4 hts hlt => ?_⟩
      refine ⟨p, rfl, ⟨_, SqL.of h4⟩, fun q hq => ?_⟩
      refine turns_map (K := K) (xs := ts.map V.str) (fun _ => .bl true) hq (SqL.of h4) (by rw [List.length_map]; omega) (fun x hx H5 s5 Q' hQ' => ?_) (fun H5 s5 h5 => ?_)
      · obtain ⟨t, ht, rfl⟩ := List.mem_map.mp hx
        obtain ⟨q1, q2⟩ := hts t ht
        exact ⟨_, rfl, t, rfl, q1, q2, fun H6 s6 => hQ' H6 s6⟩
      have h5 : H5 q = some (.lst ((ts.map fun _ => true).map V.bl)) := by rw [h5, List.map_map, List.map_map]; rfl
      refine ⟨q, _, rfl, SqL.of h5, _, rfl, ?_⟩
      rw [show (ts.map fun _ => true).all _root_.id = true by rw [List.all_map, List.all_eq_true]; intro _ _; rfl]
      refine iteF ?_
      have s35 := s3.trans (s4.trans s5)
      -- the bad trains
      refine ⟨(by show 1 ≤ sizeLine; decide), fun b1 hb1 => ?_⟩
      refine ⟨_, rfl, (by show 2 ≤ sizeLine; decide), fun b2 hb2 => ?_⟩
      refine ⟨(by show 1 ≤ sizeLine; decide), fun b3 hb3 => ?_⟩
      refine ⟨10, 9, rfl, rfl, ⟨by decide, by decide, by decide⟩, (by show 1 ≤ sizeLine; decide), fun b4 hb4 => ?_⟩
      refine .inr (.inl ⟨b3, b4, _, _, rfl, rfl, upd_get upd_same hb4, upd_same, (by show 1 + 1 ≤ sizeLine; decide), fun b5 hb5 => ?_⟩)
      refine ⟨(by show 3 ≤ sizeLine; decide), fun l hl => ?_⟩
      refine ⟨l, rfl, ⟨_, SqL.of upd_same⟩, for_list (K := K) (a := l) (xs := [.ref b1, .ref b2, .ref b5]) (fun i σ H6 => (∃ u9 : Option V, σ = [some (.ref a), some (.ref tA), v2, v3, v4, v5, v6, v7, v8, u9]) ∧ H6 l = some (.lst [.ref b1, .ref b2, .ref b5]) ∧
          H6 b1 = some (.lst (([1000000] : List Int).map V.int)) ∧ H6 b2 = some (.lst (([0, -1000000] : List Int).map V.int)) ∧ H6 b5 = some (.lst (([5, (10 : Int) ^ (9 : Int).toNat] : List Int).map V.int)))
        ⟨⟨_, rfl⟩, upd_same, upd_get (upd_get (upd_get (upd_get (upd_get upd_same hb2) hb3) hb4) hb5) hl, upd_get (upd_get (upd_get (upd_get upd_same hb3) hb4) hb5) hl, upd_get upd_same hl⟩ (fun i σ H6 _ h => SqL.of h.2.1) ?_ ?_⟩
      · rintro i x σ H6 hx ⟨⟨u9, rfl⟩, g0, g1, g2, g5⟩
        obtain ⟨bA, bs, rfl, hbA, hnd, hln, hfar⟩ : ∃ (bA : Addr) (bs : List Int), x = .ref bA ∧ H6 bA = some (.lst (bs.map V.int)) ∧ bs.Nodup ∧ bs.length < 64 ∧ ∃ n ∈ bs, ¬ near n := by
          match i, hx with
          | 0, hx => cases hx; exact ⟨b1, _, rfl, g1, by decide, by decide, 1000000, by simp, by unfold near; decide⟩
          | 1, hx => cases hx; exact ⟨b2, _, rfl, g2, by decide, by decide, -1000000, by simp, by unfold near; decide⟩
          | 2, hx => cases hx; exact ⟨b5, _, rfl, g5, by decide, by decide, (10 : Int) ^ (9 : Int).toNat, by simp, by unfold near; decide⟩
        refine ⟨_, rfl, (by show 2 ≤ sizeLine; decide), fun d hd => ?_⟩
        have sd := Same.upd (o := .lst [.bl false, .bl true]) hd
        refine ⟨fw, d, .ref bA, _, _, false, rfl, vw, upd_same, fun Q' E' hE => ⟨bA, bs, rfl, sd _ _ hbA, hln, hnd, fun q => absurd q fun q => hfar.elim fun n hn => hn.2 (q n hn.1), fun _ H' s' => hE H' s'⟩, fun H7 s7 => ⟨_, rfl, iteF ?_⟩⟩
        have sd7 := sd.trans s7
        exact ⟨⟨_, rfl⟩, sd7 _ _ g0, sd7 _ _ g1, sd7 _ _ g2, sd7 _ _ g5⟩
      · rintro σ H6 ⟨⟨u9, rfl⟩, _⟩
        refine ⟨(by show 1 ≤ sizeLine; decide), fun m hm => ⟨(by show 4 ≤ sizeLine; decide), fun l2 hl2 => ?_⟩⟩
        refine ⟨l2, rfl, ⟨_, SqL.of upd_same⟩, fun q hq => ?_⟩
        refine turns_map (K := K) (xs := [.non, .int 5, .ref m, .bl true]) (fun _ => .bl true) hq (SqL.of upd_same) (by show 4 < 1000; decide) (fun x hx H7 s7 Q' hQ' => ?_) (fun H7 s7 h7 => ?_)
        · refine ⟨_, rfl, (by show 2 ≤ sizeLine; decide), fun d hd => ?_⟩
          refine ⟨fr, d, x, _, _, true, rfl, vr, upd_same, fun Q2 E2 hE => .inr ⟨x, rfl, ?_, hE _ (Same.refl _)⟩, fun H8 s8 => hQ' H8 ((Same.upd hd).trans s8)⟩
          have hm7 := (s7.trans (Same.upd (o := .lst [.bl true, .bl false]) hd)) m _ (upd_get upd_same hl2)
          rcases (by simpa using hx : x = .non ∨ x = .int 5 ∨ x = .ref m ∨ x = .bl true) with e | e | e | e <;> rw [e]
          · exact ⟨_, .non, by first | rfl | kernel_rfl⟩
          · exact ⟨_, .int 5, by first | rfl | kernel_rfl⟩
          · exact ⟨_, .lst hm7, by first | rfl | kernel_rfl⟩
          · exact ⟨_, .bl true, by first | rfl | kernel_rfl⟩
        · exact ⟨q, [true, true, true, true], rfl, SqL.of h7, kQ _⟩
end
end My
theorem PySem.Challenge.cw_sidings_k09_texts_holds : PySem.Challenge.rw_sidings_k09_texts.Holds :=
  My.early My.ok_law
#print axioms PySem.Challenge.cw_sidings_k09_texts_holds
