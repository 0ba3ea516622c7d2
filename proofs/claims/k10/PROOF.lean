import PyProof.Rows.All
import Wide.All
import OpenK.AllK
import Wide.FinOn
import Lean
import PyProof.EqAt
import PyProof.EqKinds
import PyProof.TupleCall
import PyProof.StationsW
import PyProof.ExcInit
import PyProof.ExcClass2
import PyProof.NsDelKeeps
import PyProof.RulesAs
import PyProof.ListRange
import PyProof.Rows.SortShell
import KE.KSortKey
import KE.KLam
import KE.KNestM
import KE.KRevIter
import PyProof.Rows.Range3
import PyProof.Rows.CallKwBuiltin
import PyProof.WalkInts
import PyProof.Rows.SetFrom
import KE.KIntText
import PyProof.StrLawsIn
import PyProof.StrLawsTight
import PyProof.StrLawsChain
import PyProof.Rows.CatFin
import PyProof.Rows.StrClose5
import PyProof.Rows.StrItems
import KE.IntTextLaws
import PySem.Challenge.RW_sidings_k10_refused
set_option Elab.async false
set_option linter.all false
set_option maxRecDepth 100000
set_option maxHeartbeats 4000000
/-! A head in one piece: the top's run by the tree of its heap, looked at once behind it. -/
namespace L2
open PySem PySem.W
def runBy (st : SharedT → Thread → Option (SharedT × Thread)) (n₀ : Nat) (ann : Option Value) : Nat → SharedT → Thread → Option SharedT
  | 0, _, _ => none
  | n + 1, s, t => match through t with
    | true => some s
    | false => match stepOk n₀ ann t with
      | false => none
      | true => match st s t with
        | some (s', t') => runBy st n₀ ann n s' t'
        | none => none
theorem runBy_top {tb : String → Option Builtin} {p : Program} {w : World} {n₀ : Nat} {ann : Option Value} : ∀ (n : Nat) (s r : SharedT) (t : Thread), runBy (stepT (denote tb) p w) n₀ ann n s t = some r → topRun tb p w n₀ ann n s.abs t = some r.abs
  | 0, _, _, _, h => by cases h
  | n + 1, s, r, t, h => by
    unfold runBy at h
    unfold topRun
    cases ht : through t with
    | true => rw [ht] at h; cases h; rfl
    | false =>
      rw [ht] at h
      cases hk : stepOk n₀ ann t with
      | false => rw [hk] at h; cases h
      | true =>
        rw [hk] at h
        cases hs : stepT (denote tb) p w s t with
        | none => rw [hs] at h; cases h
        | some x =>
          obtain ⟨s', t'⟩ := x
          rw [hs] at h
          rw [stepT_spec hs]
          exact runBy_top n s' r t' h
theorem left_of_T {p q : Program} {loose : List Str} {Xt : Shared → Bool} {α : Type} {Yf : Shared → α} {Ya : World → α} {N : Nat} {g0 : Bool} {H₀ : Params → Heap} {T₀ : Params → BT} {life : Life} {d₀ : Drawn} {k₀ m₀ : Nat} {ann : Option Value}
    (open_ : ∀ w : World, (fencedOpening treeTable p w N).map (fun s => (s.heap, s.gens, s.drawn, s.toks)) = some (H₀ w.params, Array.mk [], d₀, k₀))
    (tree : ∀ P, absHeap (T₀ P) m₀ life = H₀ P)
    (size : ∀ w : World, ((H₀ w.params).isNs mainGlobals && (Array.mk [] : Array GenState).size == 0, (H₀ w.params).objs.size, (H₀ w.params).nsMap mainGlobals "__annotations__") = (true, m₀, ann))
    (obs : ∀ (w : World) (os : OsState), (runBy (stepT (denote treeTable) p w) m₀ ann N ⟨T₀ w.params, m₀, life, Array.mk [], d₀, k₀, os⟩ (topStub p)).map (fun r => ((staticsOk (importedModules p.main.body) (H₀ w.params) r.abs.heap && namesBound p r.abs.heap && gensDone r.abs && laidKept (H₀ w.params) r.abs.heap),
        openSeen q loose (importedModules p.main.body) Xt g0 r.abs, Yf r.abs)) = some (true, openGood q loose, Ya w)) : LeftO p q loose Xt Yf Ya N g0 := fun w => by
  obtain ⟨⟨h, gs, d, k, os⟩, e, e'⟩ := Option.map_eq_some_iff.mp (open_ w)
  obtain ⟨rfl, rfl, rfl, rfl⟩ : h = H₀ w.params ∧ gs = Array.mk [] ∧ d = d₀ ∧ k = k₀ := by simpa using e'
  obtain ⟨z1, z2, z3⟩ : _ ∧ _ ∧ _ := by simpa only [Prod.mk.injEq] using size w
  obtain ⟨r, er, lk⟩ := Option.map_eq_some_iff.mp (obs w os)
  obtain ⟨l1, l2, l3⟩ : _ ∧ _ ∧ _ := by simpa only [Prod.mk.injEq] using lk
  have rr := runBy_top _ _ _ _ er
  unfold SharedT.abs at rr
  dsimp only at rr
  rw [tree] at rr
  have t : topFrom treeTable p w N ⟨H₀ w.params, Array.mk [], d, k, os⟩ = some r.abs := by
    unfold topFrom
    dsimp only
    rw [z1, z2, z3]
    show Option.bind _ _ = _
    rw [rr]
    show (match staticsOk (importedModules p.main.body) (H₀ w.params) r.abs.heap && namesBound p r.abs.heap && gensDone r.abs && laidKept (H₀ w.params) r.abs.heap with | true => _ | false => _) = _
    rw [l1]
    rfl
  unfold openEnds
  rw [e]
  show (topFrom treeTable p w N _).map _ = _
  rw [t]
  exact congrArg some (Prod.ext l2 l3)
/-- the same, looked at in three goes -/
theorem left_of_T3 {p q : Program} {loose : List Str} {Xt : Shared → Bool} {α : Type} {Yf : Shared → α} {Ya : World → α} {N : Nat} {g0 : Bool} {H₀ : Params → Heap} {T₀ : Params → BT} {life : Life} {d₀ : Drawn} {k₀ m₀ : Nat} {ann : Option Value}
    (open_ : ∀ w : World, (fencedOpening treeTable p w N).map (fun s => (s.heap, s.gens, s.drawn, s.toks)) = some (H₀ w.params, Array.mk [], d₀, k₀))
    (tree : ∀ P, absHeap (T₀ P) m₀ life = H₀ P)
    (size : ∀ w : World, ((H₀ w.params).isNs mainGlobals && (Array.mk [] : Array GenState).size == 0, (H₀ w.params).objs.size, (H₀ w.params).nsMap mainGlobals "__annotations__") = (true, m₀, ann))
    (oa : ∀ (w : World) (os : OsState), (runBy (stepT (denote treeTable) p w) m₀ ann N ⟨T₀ w.params, m₀, life, Array.mk [], d₀, k₀, os⟩ (topStub p)).map (fun r => (staticsOk (importedModules p.main.body) (H₀ w.params) r.abs.heap && namesBound p r.abs.heap && gensDone r.abs && laidKept (H₀ w.params) r.abs.heap)) = some true)
    (ob : ∀ (w : World) (os : OsState), (runBy (stepT (denote treeTable) p w) m₀ ann N ⟨T₀ w.params, m₀, life, Array.mk [], d₀, k₀, os⟩ (topStub p)).map (fun r => openSeen q loose (importedModules p.main.body) Xt g0 r.abs) = some (openGood q loose))
    (obs : ∀ (w : World) (os : OsState), (runBy (stepT (denote treeTable) p w) m₀ ann N ⟨T₀ w.params, m₀, life, Array.mk [], d₀, k₀, os⟩ (topStub p)).map (fun r => Yf r.abs) = some (Ya w)) : LeftO p q loose Xt Yf Ya N g0 := by
  refine left_of_T open_ tree size fun w os => ?_
  obtain ⟨r, e, h1⟩ := Option.map_eq_some_iff.mp (oa w os)
  have h2 := ob w os
  have h3 := obs w os
  rw [e] at h2 h3 ⊢
  rw [Option.map_some] at h2 h3 ⊢
  rw [h1, Option.some.inj h2, Option.some.inj h3]
/-- the tree of a short heap -/
def treeOf (l : List Obj) : BT := ((l.zip (List.range l.length)).foldl (fun t x => t.ins x.2 x.1) .nil)
end L2
namespace My
open PySem PySem.W
def pwv : Program := view PySem.Challenge.pw_sidings_k10_refused [0, 2, 3, 4, 5, 6, 7, 9, 10, 11, 12, 13, 14, 15, 16, 17, 18, 19, 20, 21, 23, 24, 25, 26, 27, 28, 30, 31, 33, 34, 35, 36, 37, 38, 39, 40, 42, 43, 44, 46, 47, 48, 50, 51, 52, 53, 54, 55, 56, 57, 58, 59, 61, 62, 63, 64, 65, 66, 67, 68, 69]
open PyProof.Rows
set_option maxRecDepth 100000 in
set_option maxHeartbeats 0 in
theorem seen_a (w : World) (os : OsState) : (L2.runBy (stepT (denote treeTable) PySem.Challenge.pw_sidings_k10_refused w) 11 (some (.ref 6)) 20000 ⟨L2.treeOf (boot_heap w.params).objs.toList, 11, (boot_heap (aWorld 1).params).life, Array.mk [], boot_drawn, boot_toks, os⟩ (topStub PySem.Challenge.pw_sidings_k10_refused)).map (fun r => (staticsOk (importedModules PySem.Challenge.pw_sidings_k10_refused.main.body) (boot_heap w.params) r.abs.heap && namesBound PySem.Challenge.pw_sidings_k10_refused r.abs.heap && gensDone r.abs && laidKept (boot_heap w.params) r.abs.heap)) = some true := by
  rewrite [PySem.W.Fast.te10156331382660048174, PySem.W.Fast.te11892475500146522536, PySem.W.Fast.te14364793385576792824]
  kernel_rfl
set_option maxRecDepth 100000 in
set_option maxHeartbeats 0 in
theorem seen_b (w : World) (os : OsState) : (L2.runBy (stepT (denote treeTable) PySem.Challenge.pw_sidings_k10_refused w) 11 (some (.ref 6)) 20000 ⟨L2.treeOf (boot_heap w.params).objs.toList, 11, (boot_heap (aWorld 1).params).life, Array.mk [], boot_drawn, boot_toks, os⟩ (topStub PySem.Challenge.pw_sidings_k10_refused)).map (fun r => openSeen My.pwv [] (importedModules PySem.Challenge.pw_sidings_k10_refused.main.body) (fun s => xlAt My.pwv [] s && recOk PySem.Challenge.rw_sidings_k10_refused.row.records s) true r.abs) = some (openGood My.pwv []) := by
  rewrite [PySem.W.Fast.te10156331382660048174, PySem.W.Fast.te11892475500146522536, PySem.W.Fast.te14364793385576792824, PySem.W.Fast.te4187177175401517315]
  kernel_rfl
end My
/-! THE HAND LAYER, for ints, bools, texts, own classes, LISTS and tuples (index, slices, in, append, pop ..), calls, loops. Paste it whole ahead of your own text; what your proof does not reach may be deleted. -/
namespace L2
open PySem PySem.Spec PyProof.Rows

/-- a key: an int or a str -/
abbrev Key := Sum Int Str
def keyIs : Key → Value → Bool
  | .inl k, v => Value.isInt k v
  | .inr x, v => Value.isStrOf x v
def keyH (w : World) : Key → Int
  | .inl k => hashInt k
  | .inr x => hashStr w x
theorem keyIs_shape : ∀ {k : Key} {v : Value}, keyIs k v = true → (∃ i t, k = Sum.inl i ∧ v = Value.int i t) ∨ (∃ x t, k = Sum.inr x ∧ v = Value.str x t)
  | .inl i, v, h => by
    obtain ⟨t, e⟩ := Value.isInt_shape (k := i) (v := v) h
    exact .inl ⟨i, t, rfl, e⟩
  | .inr x, v, h => by
    obtain ⟨t, e⟩ := Value.isStrOf_shape (x := x) (v := v) h
    exact .inr ⟨x, t, rfl, e⟩
theorem key_ll (a b : Int) : decide ((Sum.inl a : Key) = Sum.inl b) = (a == b) := by
  by_cases e : a = b
  · subst e; simp
  · have h : ¬ (Sum.inl a : Key) = Sum.inl b := fun q => e (Sum.inl.inj q)
    rw [decide_eq_false h]
    exact (beq_eq_false_iff_ne.mpr e).symm
theorem key_rr (a b : Str) : decide ((Sum.inr a : Key) = Sum.inr b) = decide (a = b) := by
  by_cases e : a = b
  · subst e; simp
  · have h : ¬ (Sum.inr a : Key) = Sum.inr b := fun q => e (Sum.inr.inj q)
    rw [decide_eq_false h, decide_eq_false e]
theorem key_lr (a : Int) (b : Str) : decide ((Sum.inl a : Key) = Sum.inr b) = false := decide_eq_false (fun q => nomatch q)
theorem key_rl (a : Str) (b : Int) : decide ((Sum.inr a : Key) = Sum.inl b) = false := decide_eq_false (fun q => nomatch q)

def mixKind (prog : Program) (w : World) : PySem.KeyKind prog w Key where
  is := keyIs
  hash := keyH w
  inj := fun v a b ha hb => by
    rcases keyIs_shape ha with ⟨i, t, rfl, rfl⟩ | ⟨x, t, rfl, rfl⟩
    · rcases keyIs_shape hb with ⟨j, u, rfl, e⟩ | ⟨y, u, rfl, e⟩
      · injection e with e1 _; rw [e1]
      · exact nomatch e
    · rcases keyIs_shape hb with ⟨j, u, rfl, e⟩ | ⟨y, u, rfl, e⟩
      · exact nomatch e
      · injection e with e1 _; rw [e1]
  byValue := fun k v h => by
    rcases keyIs_shape h with ⟨i, t, rfl, rfl⟩ | ⟨x, t, rfl, rfl⟩ <;> rfl
  pyHash := fun hv h => by
    rcases keyIs_shape hv with ⟨i, t, rfl, rfl⟩ | ⟨x, t, rfl, rfl⟩
    · exact wpAny_pyHash_int h
    · exact wpAny_pyHash_str h
  eqBool := fun hu hv h => by
    rcases keyIs_shape hu with ⟨i, t, rfl, rfl⟩ | ⟨x, t, rfl, rfl⟩
    · rcases keyIs_shape hv with ⟨j, u, rfl, rfl⟩ | ⟨y, u, rfl, rfl⟩
      · rw [key_ll] at h; exact wpAny_eqBool_int h
      · rw [key_lr] at h; exact SeqAt.EqAt.int_str i t y u _ _ _ _ h
    · rcases keyIs_shape hv with ⟨j, u, rfl, rfl⟩ | ⟨y, u, rfl, rfl⟩
      · rw [key_rl] at h; exact SeqAt.EqAt.str_int x t j u _ _ _ _ h
      · rw [key_rr] at h; exact wpAny_eqBool_str h
  «strs» := fun k x t v h => by
    rcases keyIs_shape h with ⟨i, u, rfl, e⟩ | ⟨y, u, rfl, e⟩
    · exact nomatch e
    · injection e with e1 _
      subst e1
      cases v <;> rfl

end L2

namespace L2
open PySem PySem.Spec PyProof.Rows

/-- a value, without the heap -/
inductive V where
  | non | bl (b : Bool) | int (i : Int) | str (x : Str) | byt (b : Array UInt8) | flt (b : UInt64) | ref (a : Addr) | ty (n : String)
  deriving DecidableEq

def RelV : V → Value → Prop
  | .non, u => u = Value.none
  | .bl b, u => u = Value.bool b
  | .int i, u => ∃ t, u = Value.int i t
  | .str x, u => ∃ t, u = Value.str x t
  | .byt b, u => ∃ t, u = Value.bytes b t
  | .flt b, u => ∃ t, u = Value.float b t
  | .ref a, u => u = Value.ref a
  | .ty n, u => u = Value.type n

abbrev Vals : List V → List Value → Prop := Paired RelV
theorem Vals.length {xs : List V} {us : List Value} (r : Vals xs us) : xs.length = us.length := Paired.length r
theorem Vals.get : ∀ {xs : List V} {us : List Value} {i : Nat} {x : V}, Vals xs us → xs[i]? = some x → ∃ u, us[i]? = some u ∧ RelV x u
  | _, _, _, _, .nil, e => by simp at e
  | _, _, 0, _, .cons r _, e => by simp at e; subst e; exact ⟨_, rfl, r⟩
  | _, _, i + 1, x, .cons _ t, e => by
    obtain ⟨u, h1, h2⟩ := Vals.get (i := i) (x := x) t (by simpa using e)
    exact ⟨u, by simpa using h1, h2⟩
theorem Vals.set {x : V} {u : Value} (r : RelV x u) : ∀ {xs : List V} {us : List Value} (i : Nat), Vals xs us → Vals (xs.set i x) (us.set i u)
  | _, _, _, .nil => .nil
  | _, _, 0, .cons _ t => .cons r t
  | _, _, i + 1, .cons q t => .cons q (Vals.set r i t)
theorem Vals.append : ∀ {xs ys : List V} {us ws : List Value}, Vals xs us → Vals ys ws → Vals (xs ++ ys) (us ++ ws)
  | _, _, _, _, .nil, s => s
  | _, _, _, _, .cons r t, s => .cons r (Vals.append t s)
theorem Vals.take : ∀ {xs : List V} {us : List Value} (n : Nat), Vals xs us → Vals (xs.take n) (us.take n)
  | _, _, 0, _ => .nil
  | _, _, _ + 1, .nil => .nil
  | _, _, n + 1, .cons r t => .cons r (Vals.take n t)
theorem Vals.drop : ∀ {xs : List V} {us : List Value} (n : Nat), Vals xs us → Vals (xs.drop n) (us.drop n)
  | _, _, 0, r => r
  | _, _, _ + 1, .nil => .nil
  | _, _, n + 1, .cons _ t => Vals.drop n t

def RelO : Option V → Option Value → Prop
  | some v, some u => RelV v u
  | none, none => True
  | _, _ => False
def KV {κ : Type} : List (κ × V) → List (κ × Value) → Prop := Paired fun (p : κ × V) (q : κ × Value) => p.1 = q.1 ∧ RelV p.2 q.2

/-- a key of a dict (00_mix): an int or a text -/
def kV : Key → V
  | .inl i => .int i
  | .inr x => .str x

/-- what stands at a tracked address -/
inductive HO where
  /-- a list -/
  | lst (xs : List V)
  /-- a tuple (never changes) -/
  | tup (xs : List V)
  /-- a dict whose keys are ints and texts; one whose keys are tuples of ints and texts (the empty one is both) -/
  | dK (kvs : List (Key × V)) | dT (kvs : List (List Key × V))
  /-- a set of ints: its members, its size -/
  | set (S : Int → Bool) (n : Nat)
  /-- an instance of the class at C, its dict at dx, its attributes -/
  | ins (C dx : Addr) (fs : List (Str × V))
  /-- the dict of the instance at x -/
  | own (x : Addr)
  /-- the dict of an exception -/
  | xd (fs : List (Str × V))
  /-- a bound method, f of x -/
  | met (f x : Addr)
  /-- a range object lo, lo + 1, .. below hi -/
  | rng (lo hi : Int)
  /-- a thing that is known to the object (the script; a dict while a loop walks it): read, never written while it is so -/
  | frz (o : Obj) (u : HO)
  /-- a code object's table -/
  | tbl (pl : Pos) (q : Str)
  /-- any other thing, by what is true of its one object (a def of one's own: SetO a S n := HO.ext fun h => ..) -/
  | ext (φ : Heap → Prop)

abbrev Hp := Addr → Option HO
def upd (H : Hp) (a : Addr) (o : HO) : Hp := fun b => if b = a then some o else H b
theorem upd_same {H : Hp} {a : Addr} {o : HO} : upd H a o a = some o := by unfold upd; rw [if_pos rfl]
theorem upd_ne {H : Hp} {a b : Addr} {o : HO} (h : b ≠ a) : upd H a o b = H b := by unfold upd; rw [if_neg h]
theorem ne_of_none {H : Hp} {a b : Addr} {o : HO} (h : H a = some o) (h' : H b = none) : a ≠ b := by
  intro e; subst e; rw [h] at h'; cases h'

section
variable (P : Program) (w : World)
def ObjOk (H : Hp) (h : Heap) (a : Addr) : HO → Prop
  | .lst xs => xs.length ≤ sizeLine ∧ ∃ (its : List Value) (n : Nat), Vals xs its ∧ h.get? a = some { cls := .type "list", data := .seq its.toArray n }
  | .tup xs => xs.length ≤ sizeLine ∧ ∃ its : List Value, Vals xs its ∧ IsTup h a its.toArray
  | .dK kvs => kvs.length ≤ sizeLine ∧ (a == sysModules) = false ∧ ∃ vs, KV kvs vs ∧ h.DictOf (mixKind P w) a vs
  | .dT kvs => kvs.length ≤ sizeLine ∧ (a == sysModules) = false ∧ ∃ xs : List (List Key × Addr × Value),
      Paired (fun (p : List Key × V) (q : List Key × Addr × Value) => p.1 = q.1 ∧ H q.2.1 = some (.tup (p.1.map kV)) ∧ RelV p.2 q.2.2) kvs xs ∧
      ∃ o es ep, h.get? a = some o ∧ o.ExactDict ∧ o.data = .dict es ep ∧ es.toList = xs.map (entryOfKey (tupleKind (mixKind P w))) ∧ (xs.map (·.1)).Nodup
  | .set S n => h.SetOf (intKind P w) a S n
  | .ins C dx fs => H dx = some (.own a) ∧ fs.length ≤ 1000 ∧ dx ≠ a ∧ h.get? a = some (PySem.W.instObj C dx) ∧
      ∃ mA, h.Ns1 dx mA ∧ (∀ f, RelO (fs.lookup f) (mA f)) ∧ PySem.Within mA (fs.map (·.1))
  | .own _ => ∃ o, h.get? a = some o
  | .xd fs => ∃ mA, h.Ns1 a mA ∧ ∀ f, RelO (fs.lookup f) (mA f)
  | .rng lo hi => ∃ t u v, h.get? a = some { cls := .type "range", data := .fields #[.int lo t, .int hi u, .int 1 v] }
  | .frz o u => h.get? a = some o ∧ ObjOk H h a u
  | .tbl pl q => ∃ ps, h.get? a = some (PySem.W.tabObj ps) ∧ TriplesOk ps.toList ∧
      ∀ cv, codeAmong pl ps.toList = some cv → ∃ c oc vs t, cv = .ref c ∧ H c = some (.frz oc (.own a)) ∧ oc.data = .fields vs ∧ vs[1]? = some (.str q t)
  | .met f x => h.get? a = some (PySem.W.methodObj (.ref f) (.ref x))
  | .ext φ => φ h ∧ (∃ o, h.get? a = some o) ∧ ∀ h1 h2 : Heap, φ h1 → (∀ o, h1.get? a = some o → h2.get? a = some o) → φ h2
/-- the abstract heap is held -/
def HOk (H : Hp) (h : Heap) : Prop := ∀ a o, H a = some o → ObjOk P w H h a o
end

section
variable {P : Program} {w : World} {H H' : Hp} {h h' : Heap} {a : Addr} {o : HO}
theorem ObjOk.lt (x : ObjOk P w H h a o) : a < h.objs.size := by
  cases o with
  | lst xs => obtain ⟨_, _, _, _, e⟩ := x; exact Heap.lt_size e
  | tup xs => obtain ⟨_, _, _, p⟩ := x; exact p.lt
  | dK kvs => obtain ⟨_, _, _, _, o, _, _, e, _⟩ := x; exact Heap.lt_size e
  | dT kvs => obtain ⟨_, _, _, _, o, _, _, e, _⟩ := x; exact Heap.lt_size e
  | set S n => obtain ⟨o, _, _, _, e, _⟩ := x; exact Heap.lt_size e
  | ins C dx fs => obtain ⟨_, _, _, e, _⟩ := x; exact Heap.lt_size e
  | own y => obtain ⟨_, e⟩ := x; exact Heap.lt_size e
  | xd fs => obtain ⟨_, ⟨_, _, _, e, _⟩, _⟩ := x; exact Heap.lt_size e
  | rng lo hi => obtain ⟨_, _, _, e⟩ := x; exact Heap.lt_size e
  | frz ob u => obtain ⟨e, _⟩ := x; exact Heap.lt_size e
  | tbl pl q => obtain ⟨_, e, _⟩ := x; exact Heap.lt_size e
  | met f y => exact Heap.lt_size (show h.get? a = some _ from x)
  | ext φ => obtain ⟨_, ⟨_, e⟩, _⟩ := x; exact Heap.lt_size e
theorem Paired.mapP {α β : Type} {F G : α → β → Prop} : ∀ {l₁ : List α} {l₂ : List β}, Paired F l₁ l₂ → (∀ a b, F a b → G a b) → Paired G l₁ l₂
  | _, _, .nil, _ => .nil
  | _, _, .cons r t, f => .cons (f _ _ r) (Paired.mapP t f)
/-- what an object's description leans on: its own object, its own dict, the tuples -/
theorem ObjOk.stay (x : ObjOk P w H h a o) (k : ∀ b u, (b = a ∨ H b = some (.own a)) → h.get? b = some u → h'.get? b = some u)
    (ho : ∀ b, H b = some (.own a) → H' b = some (.own a)) (ht : ∀ b xs, H b = some (.tup xs) → H' b = some (.tup xs)) (hf : ∀ b ob u, H b = some (.frz ob u) → H' b = some (.frz ob u)) : ObjOk P w H' h' a o := by
  induction o with
  | lst xs => obtain ⟨z, its, n, r, e⟩ := x; exact ⟨z, its, n, r, k _ _ (.inl rfl) e⟩
  | tup xs => obtain ⟨z, its, r, ob, e, c⟩ := x; exact ⟨z, its, r, ob, k _ _ (.inl rfl) e, c⟩
  | dK kvs => obtain ⟨z, y, vs, r, ob, es, ep, e, c⟩ := x; exact ⟨z, y, vs, r, ob, es, ep, k _ _ (.inl rfl) e, c⟩
  | dT kvs =>
    obtain ⟨z, y, xs, r, ob, es, ep, e, c⟩ := x
    exact ⟨z, y, xs, Paired.mapP r fun p q z => ⟨z.1, ht _ _ z.2.1, z.2.2⟩, ob, es, ep, k _ _ (.inl rfl) e, c⟩
  | set S n => obtain ⟨ob, es, ep, t, e, c⟩ := x; exact ⟨ob, es, ep, t, k _ _ (.inl rfl) e, c⟩
  | ins C dx fs =>
    obtain ⟨d, z, ne, e, mA, ⟨od, es, ep, e2, c⟩, r⟩ := x
    exact ⟨ho _ d, z, ne, k _ _ (.inl rfl) e, mA, ⟨od, es, ep, k _ _ (.inr d) e2, c⟩, r⟩
  | own y => obtain ⟨ob, e⟩ := x; exact ⟨ob, k _ _ (.inl rfl) e⟩
  | xd fs => obtain ⟨mA, ⟨od, es, ep, e, c⟩, r⟩ := x; exact ⟨mA, ⟨od, es, ep, k _ _ (.inl rfl) e, c⟩, r⟩
  | rng lo hi => obtain ⟨t, u, v, e⟩ := x; exact ⟨t, u, v, k _ _ (.inl rfl) e⟩
  | frz ob u ih => obtain ⟨e, q⟩ := x; exact ⟨k _ _ (.inl rfl) e, ih q⟩
  | tbl pl q =>
    obtain ⟨ps, e, tr, hc⟩ := x
    refine ⟨ps, k a _ (.inl rfl) e, tr, fun cv ecv => ?_⟩
    obtain ⟨c, oc, vs, t, e1, e2, e3⟩ := hc cv ecv
    exact ⟨c, oc, vs, t, e1, hf _ _ _ e2, e3⟩
  | met f y =>
    have e : h.get? a = some (PySem.W.methodObj (.ref f) (.ref y)) := x
    show h'.get? a = some (PySem.W.methodObj (.ref f) (.ref y))
    exact k a _ (.inl rfl) e
  | ext φ => obtain ⟨p, ⟨o, e⟩, st⟩ := x; exact ⟨st _ _ p fun o q => k _ _ (.inl rfl) q, ⟨o, k _ _ (.inl rfl) e⟩, st⟩
theorem HOk.lt (x : HOk P w H h) (e : H a = some o) : a < h.objs.size := (x a o e).lt
theorem HOk.fresh (x : HOk P w H h) (e : h.objs.size ≤ a) : H a = none := by
  cases q : H a with
  | none => rfl
  | some u => exact absurd (Nat.lt_of_lt_of_le (x.lt q) e) (Nat.lt_irrefl _)
/-- every object of the heap is kept -/
theorem HOk.kept (x : HOk P w H h) (k : ∀ b u, h.get? b = some u → h'.get? b = some u) : HOk P w H h' := fun a o e =>
  (x a o e).stay (fun b u _ q => k b u q) (fun _ q => q) (fun _ _ q => q) fun _ _ _ q => q
/-- a new object is laid and tracked -/
theorem HOk.laid (x : HOk P w H h) (k : ∀ b u, h.get? b = some u → h'.get? b = some u) (hp : h.objs.size ≤ a) (new : ObjOk P w (upd H a o) h' a o) : HOk P w (upd H a o) h' := fun b u e => by
  have hn := x.fresh hp
  by_cases hb : b = a
  · subst hb; rw [upd_same] at e; cases e; exact new
  · rw [upd_ne hb] at e
    exact (x b u e).stay (fun c v _ q => k c v q) (fun c q => by rw [upd_ne (ne_of_none q hn)]; exact q) (fun c xs q => by rw [upd_ne (ne_of_none q hn)]; exact q) fun c ob y q => by rw [upd_ne (ne_of_none q hn)]; exact q
end

/-- what may be read as u: it is u, or a known u -/
def Rd (H : Hp) (a : Addr) (u : HO) : Prop := H a = some u ∨ ∃ o, H a = some (.frz o u)
theorem Rd.ok {P : Program} {w : World} {H : Hp} {h : Heap} {a : Addr} {u : HO} (r : Rd H a u) (x : HOk P w H h) : ObjOk P w H h a u := by
  rcases r with r | ⟨o, r⟩
  · exact x a u r
  · obtain ⟨_, q⟩ := x a _ r
    exact q
/-- what may be written -/
def Mut : Option HO → Prop
  | some (.lst _) => True
  | some (.dK _) => True
  | some (.dT _) => True
  | some (.set _ _) => True
  | some (.ins _ _ _) => True
  | some (.ext _) => True
  | _ => False
section
variable {P : Program} {w : World} {H : Hp} {h h' : Heap} {x e : Addr} {o' : HO}
/-- the object at e is changed: x itself, or the dict of the instance x -/
theorem HOk.write (ok : HOk P w H h) (mu : Mut (H x)) (he : e = x ∨ H e = some (.own x)) (k : ∀ b u, b ≠ e → h.get? b = some u → h'.get? b = some u) (heo : ∃ u, h'.get? e = some u)
    (new : ObjOk P w (upd H x o') h' x o') : HOk P w (upd H x o') h' := fun b u q => by
  have nown : ∀ c y, H c = some (.own y) → c ≠ x := fun c y r z => by subst z; rw [r] at mu; exact mu
  have ntup : ∀ c xs, H c = some (.tup xs) → c ≠ x := fun c xs r z => by subst z; rw [r] at mu; exact mu
  have nfrz : ∀ c ob y, H c = some (.frz ob y) → c ≠ x := fun c ob y r z => by subst z; rw [r] at mu; exact mu
  by_cases hb : b = x
  · subst hb; rw [upd_same] at q; cases q; exact new
  · rw [upd_ne hb] at q
    by_cases hbe : b = e
    · have q' : H b = some (.own x) := by
        rcases he with z | z
        · exact absurd (hbe.trans z) hb
        · rw [hbe]; exact z
      rw [q] at q'; cases q'
      obtain ⟨v, hv⟩ := heo
      exact ⟨v, by rw [hbe]; exact hv⟩
    · refine (ok b u q).stay (fun c v hc r => k c v ?_ r) (fun c r => by rw [upd_ne (nown c b r)]; exact r) (fun c xs r => by rw [upd_ne (ntup c xs r)]; exact r) fun c ob y r => by rw [upd_ne (nfrz c ob y r)]; exact r
      rcases hc with rfl | hc
      · exact hbe
      · rintro rfl
        rcases he with z | z
        · exact nown c b hc z
        · rw [hc] at z; cases z; exact hb rfl
end

/-! ### kept unless tracked; of the frames at fs (the callers') the slots may change (an exception that passes writes there); of the records at ex (iterators) nothing is said -/
structure Un (fs ex : List Addr) (H H' : Hp) (h h' : Heap) : Prop where
  keep : ∀ b o, h.get? b = some o → H b = none → b ∉ fs → b ∉ ex → h'.get? b = some o
  slot : ∀ b o, h.get? b = some o → H b = none → b ∈ fs → b ∉ ex → ∃ sl, h'.get? b = some { o with slots := sl }
  free : ∀ b o, h.get? b = some o → H b = none → b ∉ ex → H' b = none
  there : ∀ b o, h.get? b = some o → b ∉ ex → ∃ o', h'.get? b = some o'
  tups : ∀ b xs, H b = some (.tup xs) → H' b = some (.tup xs)
  frzs : ∀ b o u, H b = some (.frz o u) → H' b = some (.frz o u)
  tbls : ∀ b pl q, H b = some (.tbl pl q) → H' b = some (.tbl pl q)
section
variable {fs fs' ex ex' : List Addr} {H H1 H2 : Hp} {h h1 h2 h' : Heap} {a x e : Addr} {o : HO}
theorem Un.any (u : Un fs ex H H1 h h1) {b : Addr} {ob : Obj} (q : h.get? b = some ob) (n : H b = none) (hx : b ∉ ex) : ∃ sl, h1.get? b = some { ob with slots := sl } := by
  by_cases hb : b ∈ fs
  · exact u.slot b ob q n hb hx
  · exact ⟨ob.slots, u.keep b ob q n hb hx⟩
theorem Un.kept (k : ∀ b u, h.get? b = some u → h'.get? b = some u) : Un fs ex H H h h' :=
  ⟨fun b ob q _ _ _ => k b ob q, fun b ob q _ _ _ => ⟨ob.slots, k b ob q⟩, fun _ _ _ n _ => n, fun b ob q _ => ⟨ob, k b ob q⟩, fun _ _ q => q, fun _ _ _ q => q, fun _ _ _ q => q⟩
theorem Un.refl : Un fs ex H H h h := Un.kept fun _ _ q => q
theorem Un.laid (k : ∀ b u, h.get? b = some u → h'.get? b = some u) (hp : h.objs.size ≤ a) (hn : H a = none) : Un fs ex H (upd H a o) h h' where
  keep := fun b u q _ _ _ => k b u q
  slot := fun b u q _ _ _ => ⟨u.slots, k b u q⟩
  free := fun b u q n _ => by rw [upd_ne (Nat.ne_of_lt (Nat.lt_of_lt_of_le (Heap.lt_size q) hp))]; exact n
  there := fun b u q _ => ⟨u, k b u q⟩
  tups := fun b xs q => by rw [upd_ne (ne_of_none q hn)]; exact q
  frzs := fun b u xs q => by rw [upd_ne (ne_of_none q hn)]; exact q
  tbls := fun b pl y q => by rw [upd_ne (ne_of_none q hn)]; exact q
theorem Un.write (mu : Mut (H x)) (he : e = x ∨ H e = some (.own x)) (k : ∀ b u, b ≠ e → h.get? b = some u → h'.get? b = some u) (heo : ∃ u, h'.get? e = some u) : Un fs ex H (upd H x o) h h' := by
  have hx : ∀ b, H b = none → b ≠ x := fun b n z => by subst z; rw [n] at mu; exact mu
  have hb : ∀ b, H b = none → b ≠ e := fun b n z => by
    subst z
    rcases he with r | r
    · exact hx b n r
    · rw [n] at r; cases r
  have hm : ∀ b u, H b = some u → ¬ Mut (some u) → b ≠ x := fun b u q nm z => by subst z; rw [q] at mu; exact nm mu
  refine ⟨fun b u q n _ _ => k b u (hb b n) q, fun b u q n _ _ => ⟨u.slots, k b u (hb b n) q⟩, fun b u q n _ => by rw [upd_ne (hx b n)]; exact n, fun b u q _ => ?_,
    fun b xs q => by rw [upd_ne (hm b _ q fun z => z)]; exact q, fun b u xs q => by rw [upd_ne (hm b _ q fun z => z)]; exact q, fun b pl y q => by rw [upd_ne (hm b _ q fun z => z)]; exact q⟩
  by_cases hbe : b = e
  · subst hbe; exact heo
  · exact ⟨u, k b u hbe q⟩
end

/-! ### the heap without what is tracked -/
def trk (h : Heap) (H : Hp) : List Addr := (List.range h.objs.size).filter fun a => (H a).isSome
def hidT (h : Heap) (H : Hp) : Heap := PySem.W.hideAll h (trk h H)
theorem hidT_size (h : Heap) (H : Hp) : (hidT h H).objs.size = h.objs.size := PySem.W.hideAll_size _ _
theorem hidT_get {h : Heap} {H : Hp} {b : Addr} {o : Obj} (e : h.get? b = some o) (n : H b = none) : (hidT h H).get? b = some o :=
  PySem.W.hideAll_get _ e fun hm => by
    have q : (H b).isSome = true := (List.mem_filter.mp hm).2
    rw [n] at q; simp at q
theorem of_hidT {h : Heap} {H : Hp} {b : Addr} {o : Obj} (e : (hidT h H).get? b = some o) : h.get? b = some o ∧ H b = none := by
  have e' : h.get? b = some o := PySem.W.of_hideAll (trk h H) e
  refine ⟨e', ?_⟩
  cases q : H b with
  | none => rfl
  | some x =>
    have hm : b ∈ trk h H := List.mem_filter.mpr ⟨List.mem_range.mpr (Heap.lt_size e'), by simp [q]⟩
    have z : (hidT h H).get? b = none := PySem.W.hideAll_none (trk h H) hm
    rw [z] at e; cases e

/-! ### OpenK's ledger, filled with every new object but one -/
end L2

namespace L2
open PySem PySem.Spec PyProof.Rows

/-- the module's facts, over the base: the heap at the law's entry without what is tracked there -/
structure Mod (K : PySem.W.Frag) (mg : Str → Option Value) (base : Heap) : Prop where
  kin : K.In base
  glob : base.Ns mainGlobals mg
  blt : ∃ mb, base.Ns builtinsNs mb ∧ ∀ x : Str, x ≠ "__name__" → mb x = bootBuiltins x
  nolimit : base.NoLimit
  bm : ∃ bm ob, mg "__builtins__" = some (.ref bm) ∧ bm ≠ builtinsNs ∧ base.get? bm = some ob ∧ ob.cls = .type "module" ∧ ob.dict = some builtinsNs ∧ ob.data = .plain

/-- the context: a def's body (or a comprehension's block) running. base: fixed through the whole law; s₀, H₀: the entry; outer: the frames whose slots others may change (a def's callers); stack: all frames that run;
   ex: iterators that were made ahead of the entry and are walked here (a comprehension's); fn: the names whose cells were made at the entry (a def: all; a comprehension's block: its own); calm: not within an except suite; pn: pins that every state bears; xe: what is wanted of an exception that leaves the code -/
structure Cx where
  prog : Program
  w : World
  K : PySem.W.Frag
  mg : Str → Option Value
  base : Heap
  A : Around
  N : List Str
  s₀ : Shared
  H₀ : Hp
  env : Env
  outer : List Env
  stack : List Env
  ex : List Addr
  fn : Str → Bool
  calm : Bool
  pn : List (Addr × Obj)
  xe : Value → Shared → Prop
/-- the callers' frames -/
def frs (l : List Env) : List Addr := l.filterMap (·.frame)
abbrev Cx.fs (X : Cx) : List Addr := frs X.outer

def Vis (sc : Scope) (x : Str) : Prop := sc.names.lookup x = some .local ∨ sc.names.lookup x = some .cell ∨ sc.names.lookup x = some .free
def Loc (sc : Scope) (x : Str) : Prop := sc.names.lookup x = some .local ∨ sc.names.lookup x = some .cell
def Look (env : Env) (h : Heap) (m : Str → Option Value) (x : Str) (u : Value) : Prop :=
  (env.kindOf x = some .local ∧ m x = some u) ∨ ((env.kindOf x = some .cell ∨ env.kindOf x = some .free) ∧ ∃ c, env.cells.lookup x = some c ∧ h.IsCell c (some u))

structure Cx.Ok (X : Cx) : Prop where
  mod : Mod X.K X.mg X.base
  kind : X.env.scope.kind = .function
  glob : X.env.globals = mainGlobals
  blt : X.env.builtins = builtinsNs
  above : X.s₀.heap.objs.size ≤ X.env.locals
  inj : ∀ x y c, X.env.cells.lookup x = some c → X.env.cells.lookup y = some c → x = y
  has : ∀ x, (X.env.kindOf x = some .cell ∨ X.env.kindOf x = some .free) → ∃ c, X.env.cells.lookup x = some c
  cab : ∀ x c, X.fn x = true → X.env.cells.lookup x = some c → X.s₀.heap.objs.size ≤ c
  hd : X.calm = true → X.A.handled = none
  frames : X.A.frames = some X.stack
  stk : X.stack = X.outer ∨ (X.stack = X.env :: X.outer ∧ X.env.frame = some X.env.locals)
  exf : ∀ b ∈ X.ex, b ≠ X.env.locals ∧ ∀ x c, X.env.cells.lookup x = some c → c ≠ b
  bs : ∀ b o, X.base.get? b = some o → X.s₀.heap.get? b = some o ∧ X.H₀ b = none
  bsz : X.base.objs.size ≤ X.s₀.heap.objs.size
  noex : ∀ b o, X.base.get? b = some o → b ∉ X.ex
  exfs : ∀ b ∈ X.ex, b ∉ X.fs
  funs : X.s₀.heap.FunFrames X.base X.outer
  frf : ∀ b ∈ X.fs, X.H₀ b = none

structure Inv (X : Cx) (pins : List (Addr × Obj)) (σ : List (Option V)) (H : Hp) (s : Shared) : Prop where
  ok : X.Ok
  os : s.os = X.s₀.os
  bare : AllBare s.gens
  base : Un X.fs X.ex X.H₀ H X.s₀.heap s.heap
  loc : ∃ m, s.heap.Ns X.env.locals m ∧ ∀ (i : Nat) (x : Str) (v : V), X.N[i]? = some x → σ[i]? = some (some v) → Vis X.env.scope x → ∃ u, RelV v u ∧ Look X.env s.heap m x u
  cell : ∀ x c, X.env.cells.lookup x = some c → ∃ v, s.heap.IsCell c v
  free : H X.env.locals = none
  freeC : ∀ x c, X.env.cells.lookup x = some c → H c = none
  pin : ∀ p ∈ X.pn ++ pins, s.heap.get? p.1 = some p.2 ∧ H p.1 = none ∧ p.1 ≠ X.env.locals ∧ p.1 ∉ X.fs ∧ ∀ v, p.2.data ≠ .cell v
  hok : HOk X.prog X.w H s.heap
  len : σ.length = X.N.length

section
variable {X : Cx} {pins : List (Addr × Obj)} {σ : List (Option V)} {H H' : Hp} {s : Shared} {h' : Heap}

theorem Cx.Ok.nofr (ok : X.Ok) {b : Addr} {o : Obj} (e : X.base.get? b = some o) : b ∉ X.fs := fun hb => by
  have := (ok.funs.mem hb).1
  rw [e] at this; cases this
theorem Inv.bs (I : Inv X pins σ H s) : ∀ b o, X.base.get? b = some o → s.heap.get? b = some o ∧ H b = none := fun b o e =>
  ⟨I.base.keep b o (I.ok.bs b o e).1 (I.ok.bs b o e).2 (I.ok.nofr e) (I.ok.noex b o e), I.base.free b o (I.ok.bs b o e).1 (I.ok.bs b o e).2 (I.ok.noex b o e)⟩
theorem Inv.bk (I : Inv X pins σ H s) : ∀ b o, X.base.get? b = some o → s.heap.get? b = some o := fun b o e => (I.bs b o e).1
theorem Inv.mod (I : Inv X pins σ H s) : Mod X.K X.mg X.base := I.ok.mod
theorem Inv.kIn (I : Inv X pins σ H s) : X.K.In s.heap := I.ok.mod.kin.keeps I.bk
theorem Inv.nolimit (I : Inv X pins σ H s) : s.heap.NoLimit := I.ok.mod.nolimit.keeps I.bk
/-- the frame over the base: for OpenK's rules (K.In X.base is I.mod.kin) -/
theorem Inv.fr (I : Inv X pins σ H s) : ∃ m, Fr X.base X.env.locals s.heap m :=
  let ⟨m, hn, _⟩ := I.loc
  ⟨m, hn, I.bk, Nat.le_trans I.ok.bsz I.ok.above⟩
theorem Inv.lt (I : Inv X pins σ H s) : X.env.locals < s.heap.objs.size := let ⟨_, hn, _⟩ := I.loc; hn.lt
theorem Inv.sz (I : Inv X pins σ H s) : X.s₀.heap.objs.size ≤ s.heap.objs.size := Nat.le_trans I.ok.above (Nat.le_of_lt I.lt)
theorem Inv.nofs (I : Inv X pins σ H s) {a : Addr} (h : s.heap.objs.size ≤ a) : a ∉ X.fs := fun hb => by
  obtain ⟨_, o, ho, _⟩ := I.ok.funs.mem hb
  exact absurd (Nat.lt_of_lt_of_le (Heap.lt_size ho) (Nat.le_trans I.sz h)) (Nat.lt_irrefl _)
theorem Inv.cne (I : Inv X pins σ H s) : ∀ x c, X.env.cells.lookup x = some c → c ≠ X.env.locals := fun x c e z => by
  obtain ⟨v, o, ho, hd⟩ := I.cell x c e
  obtain ⟨m, ⟨o', es, ep, ho', hd', _⟩, _⟩ := I.loc
  rw [z, ho'] at ho; cases ho; rw [hd'] at hd; cases hd
theorem Inv.funs (I : Inv X pins σ H s) : s.heap.FunFrames X.base X.outer := by
  have all : ∀ (l : List Env), (∀ b ∈ frs l, b ∈ X.fs) → X.s₀.heap.FunFrames X.base l → s.heap.FunFrames X.base l := by
    intro l
    induction l with
    | nil => intro _ _; trivial
    | cons env r ih =>
      intro hs hl
      obtain ⟨hk, ⟨L, o, hf, hn, ho, hd⟩, hr⟩ := hl
      have hL : L ∈ X.fs := hs L (by unfold frs; rw [List.filterMap_cons, hf]; exact List.mem_cons_self)
      obtain ⟨sl, e⟩ := I.base.slot L o ho (I.ok.frf L hL) hL fun z => I.ok.exfs L z hL
      exact ⟨hk, ⟨L, _, hf, hn, e, hd⟩, ih (fun b hb => hs b (by unfold frs; rw [List.filterMap_cons, hf]; exact List.mem_cons_of_mem _ hb)) hr⟩
  exact all X.outer (fun _ hb => hb) I.ok.funs

/-- the frames that run, for a call -/
theorem Inv.stack (I : Inv X pins σ H s) : s.heap.FunFrames X.base X.stack := by
  rcases I.ok.stk with e | ⟨e, hf⟩
  · rw [e]; exact I.funs
  · rw [e]
    obtain ⟨m, hn, _⟩ := I.loc
    refine .cons (by rw [I.ok.kind]; decide) hf hn ?_ I.funs
    exact Heap.get?_none_of_le (Nat.le_trans I.ok.bsz I.ok.above)
theorem Inv.stkSub (I : Inv X pins σ H s) : ∀ b ∈ frs X.stack, b ∈ X.env.locals :: X.fs := fun b hb => by
  rcases I.ok.stk with e | ⟨e, hf⟩
  · rw [e] at hb; exact List.mem_cons_of_mem _ hb
  · rw [e] at hb
    unfold frs at hb
    rw [List.filterMap_cons, hf] at hb
    exact hb
theorem Inv.stkFree (I : Inv X pins σ H s) : ∀ b ∈ frs X.stack, H b = none := fun b hb => by
  rcases List.mem_cons.mp (I.stkSub b hb) with e | hb
  · rw [e]; exact I.free
  · obtain ⟨_, o, ho, _⟩ := I.ok.funs.mem hb
    exact I.base.free b o ho (I.ok.frf b hb) fun z => I.ok.exfs b z hb

/-- THE STEP: the untracked objects but the frame and the records at ch are kept (the callers' frames up to slots), the frame's map is kept, the new abstract heap is held -/
theorem Inv.step {g' : Array GenState} {t' : Nat} {d' : Drawn} {ch : List Addr} (I : Inv X pins σ H s)
    (hch : ∀ b ∈ ch, (b ∈ X.ex ∨ X.s₀.heap.objs.size ≤ b) ∧ b ≠ X.env.locals ∧ (∀ x c, X.env.cells.lookup x = some c → c ≠ b) ∧ ∀ p ∈ X.pn ++ pins, p.1 ≠ b)
    (keep : ∀ b o, b ≠ X.env.locals → b ∉ X.fs → b ∉ ch → s.heap.get? b = some o → H b = none → h'.get? b = some o)
    (slot : ∀ b o, b ≠ X.env.locals → b ∈ X.fs → b ∉ ch → s.heap.get? b = some o → H b = none → ∃ sl, h'.get? b = some { o with slots := sl }) (free : ∀ b o, b ∉ ch → s.heap.get? b = some o → H b = none → H' b = none)
    (there : ∀ b o, b ∉ ch → s.heap.get? b = some o → ∃ o', h'.get? b = some o')
    (tups : ∀ b xs, H b = some (.tup xs) → H' b = some (.tup xs)) (frzs : ∀ b o u, H b = some (.frz o u) → H' b = some (.frz o u)) (tbls : ∀ b pl q, H b = some (.tbl pl q) → H' b = some (.tbl pl q))
    (ns : ∀ m, s.heap.Ns X.env.locals m → h'.Ns X.env.locals m) (hok : HOk X.prog X.w H' h') (hg : AllBare g') :
    Inv X pins σ H' { s with heap := h', gens := g', drawn := d', toks := t' } := by
  have neL : ∀ b o, X.s₀.heap.get? b = some o → b ≠ X.env.locals := fun b o e => Nat.ne_of_lt (Nat.lt_of_lt_of_le (Heap.lt_size e) I.ok.above)
  have neC : ∀ b o, X.s₀.heap.get? b = some o → b ∉ X.ex → b ∉ ch := fun b o e hx hb => by
    rcases (hch b hb).1 with z | z
    · exact hx z
    · exact absurd (Nat.lt_of_lt_of_le (Heap.lt_size e) z) (Nat.lt_irrefl _)
  have cellK : ∀ x c, X.env.cells.lookup x = some c → ∀ v, s.heap.IsCell c v → h'.IsCell c v := fun x c e v ⟨o, ho, hd⟩ => by
    have nch : c ∉ ch := fun z => (hch c z).2.2.1 x c e rfl
    by_cases hc : c ∈ X.fs
    · obtain ⟨sl, q⟩ := slot c o (I.cne x c e) hc nch ho (I.freeC x c e)
      exact ⟨_, q, hd⟩
    · exact ⟨o, keep c o (I.cne x c e) hc nch ho (I.freeC x c e), hd⟩
  refine ⟨I.ok, I.os, hg, ⟨fun b o e n hb hx => ?_, fun b o e n hb hx => ?_, fun b o e n hx => ?_, fun b o e hx => ?_, fun b xs e => tups b xs (I.base.tups b xs e), fun b o xs e => frzs b o xs (I.base.frzs b o xs e), fun b pl y e => tbls b pl y (I.base.tbls b pl y e)⟩, ?_, fun x c e => ?_, ?_, fun x c e => ?_, fun p hp => ?_, hok, I.len⟩
  · exact keep b o (neL b o e) hb (neC b o e hx) (I.base.keep b o e n hb hx) (I.base.free b o e n hx)
  · obtain ⟨sl, e1⟩ := I.base.slot b o e n hb hx
    obtain ⟨sl', e2⟩ := slot b _ (neL b o e) hb (neC b o e hx) e1 (I.base.free b o e n hx)
    exact ⟨sl', e2⟩
  · obtain ⟨o', e1⟩ := I.base.there b o e hx
    exact free b o' (neC b o e hx) e1 (I.base.free b o e n hx)
  · obtain ⟨o', e1⟩ := I.base.there b o e hx
    exact there b o' (neC b o e hx) e1
  · obtain ⟨m, hn, hl⟩ := I.loc
    refine ⟨m, ns m hn, fun i x v e1 e2 e3 => ?_⟩
    obtain ⟨u, r, l⟩ := hl i x v e1 e2 e3
    refine ⟨u, r, ?_⟩
    rcases l with l | ⟨k, c, e, z⟩
    · exact .inl l
    · exact .inr ⟨k, c, e, cellK x c e _ z⟩
  · obtain ⟨v, z⟩ := I.cell x c e
    exact ⟨v, cellK x c e v z⟩
  · obtain ⟨m, ⟨o, _, _, ho, _⟩, _⟩ := I.loc
    exact free _ o (fun z => (hch _ z).2.1 rfl) ho I.free
  · obtain ⟨v, o, ho, hd⟩ := I.cell x c e
    exact free c o (fun z => (hch c z).2.2.1 x c e rfl) ho (I.freeC x c e)
  · obtain ⟨e, n, ne, nf, d⟩ := I.pin p hp
    have nch : p.1 ∉ ch := fun z => (hch p.1 z).2.2.2 p hp rfl
    exact ⟨keep p.1 p.2 ne nf nch e n, free p.1 p.2 nch e n, ne, nf, d⟩
/-- .. where the frame's own object is kept too -/
theorem Inv.un {t' : Nat} (I : Inv X pins σ H s) (u : Un X.fs [] H H' s.heap h') (hok : HOk X.prog X.w H' h') : Inv X pins σ H' { s with heap := h', toks := t' } := by
  obtain ⟨m, ⟨o, es, ep, ho, r⟩, _⟩ := id I.loc
  obtain ⟨sl, hL⟩ := u.any ho I.free (by simp)
  exact I.step (g' := s.gens) (d' := s.drawn) (ch := []) (fun _ z => nomatch z) (fun b o _ hb _ e n => u.keep b o e n hb (by simp)) (fun b o _ hb _ e n => u.slot b o e n hb (by simp)) (fun b o _ e n => u.free b o e n (by simp)) (fun b o _ e => u.there b o e (by simp)) u.tups u.frzs u.tbls (fun m' hm => by
    obtain ⟨o', es', ep', ho', r'⟩ := hm
    rw [ho] at ho'; cases ho'
    exact ⟨_, es', ep', hL, r'⟩) hok I.bare
/-- behind a call (or a comprehension's block): the slots of this frame may have changed too, the records at ch may have turned -/
theorem Inv.call {g' : Array GenState} {t' : Nat} {d' : Drawn} {ch : List Addr} (I : Inv X pins σ H s) (u : Un (frs X.stack) ch H H' s.heap h') (hok : HOk X.prog X.w H' h') (hg : AllBare g')
    (hch : ∀ b ∈ ch, (b ∈ X.ex ∨ X.s₀.heap.objs.size ≤ b) ∧ b ≠ X.env.locals ∧ (∀ x c, X.env.cells.lookup x = some c → c ≠ b) ∧ ∀ p ∈ X.pn ++ pins, p.1 ≠ b) :
    Inv X pins σ H' { s with heap := h', gens := g', drawn := d', toks := t' } := by
  obtain ⟨m, ⟨o, es, ep, ho, r⟩, _⟩ := id I.loc
  obtain ⟨sl, hL⟩ := u.any ho I.free fun z => (hch _ z).2.1 rfl
  exact I.step (ch := ch) hch (fun b o hL hb hc e n => u.keep b o e n (fun z => (List.mem_cons.mp (I.stkSub b z)).elim hL hb) hc) (fun b o _ _ hc e n => u.any e n hc) (fun b o hc e n => u.free b o e n hc) (fun b o hc e => u.there b o e hc) u.tups u.frzs u.tbls (fun m' hm => by
    obtain ⟨o', es', ep', ho', r'⟩ := hm
    rw [ho] at ho'; cases ho'
    exact ⟨_, es', ep', hL, r'⟩) hok hg
/-- an untracked record of ours (an iterator) has turned -/
theorem Inv.turned {t' : Nat} {it : Addr} (I : Inv X pins σ H s) (k : ∀ b o, b ≠ it → s.heap.get? b = some o → h'.get? b = some o) (hn : H it = none) (hL : it ≠ X.env.locals)
    (h1 : it ∈ X.ex ∨ X.s₀.heap.objs.size ≤ it) (h2 : ∀ x c, X.env.cells.lookup x = some c → c ≠ it) (h3 : ∀ p ∈ X.pn ++ pins, p.1 ≠ it) : Inv X pins σ H { s with heap := h', toks := t' } := by
  have nit : ∀ b u, H b = some u → b ≠ it := fun b u e z => by rw [z, hn] at e; cases e
  refine I.step (g' := s.gens) (d' := s.drawn) (ch := [it]) (fun b hb => ?_) (fun b o _ _ hc e _ => k b o (fun z => hc (by simp [z])) e) (fun b o _ _ hc e _ => ⟨o.slots, k b o (fun z => hc (by simp [z])) e⟩) (fun _ _ _ _ n => n)
    (fun b o hc e => ⟨o, k b o (fun z => hc (by simp [z])) e⟩) (fun _ _ e => e) (fun _ _ _ e => e) (fun _ _ _ e => e) (fun m hm => ?_) (fun b u e => ?_) I.bare
  · have e : b = it := by simpa using hb
    subst e
    exact ⟨h1, hL, h2, h3⟩
  · obtain ⟨o, es, ep, ho, r⟩ := hm
    exact ⟨o, es, ep, k _ o (Ne.symm hL) ho, r⟩
  · refine (I.hok b u e).stay (fun c v hc q => k c v ?_ q) (fun _ q => q) (fun _ _ q => q) fun _ _ _ q => q
    rcases hc with z | z
    · rw [z]; exact nit b u e
    · exact nit c _ z
theorem Inv.tok (I : Inv X pins σ H s) (t : Nat) : Inv X pins σ H { s with toks := t } := I.un (h' := s.heap) (t' := t) Un.refl I.hok
/-- all objects kept -/
theorem Inv.kept {t' : Nat} (I : Inv X pins σ H s) (k : ∀ b u, s.heap.get? b = some u → h'.get? b = some u) : Inv X pins σ H { s with heap := h', toks := t' } := I.un (Un.kept k) (I.hok.kept k)
/-- a new object laid and tracked -/
theorem Inv.laid {a : Addr} {o : HO} {t' : Nat} (I : Inv X pins σ H s) (k : ∀ b u, s.heap.get? b = some u → h'.get? b = some u) (hp : s.heap.objs.size ≤ a) (new : ObjOk X.prog X.w (upd H a o) h' a o) :
    Inv X pins σ (upd H a o) { s with heap := h', toks := t' } := I.un (Un.laid k hp (I.hok.fresh hp)) (I.hok.laid k hp new)
/-- an object written -/
theorem Inv.write {x e : Addr} {o : HO} {t' : Nat} (I : Inv X pins σ H s) (mu : Mut (H x)) (he : e = x ∨ H e = some (.own x)) (k : ∀ b u, b ≠ e → s.heap.get? b = some u → h'.get? b = some u) (heo : ∃ u, h'.get? e = some u)
    (new : ObjOk X.prog X.w (upd H x o) h' x o) : Inv X pins σ (upd H x o) { s with heap := h', toks := t' } := I.un (Un.write mu he k heo) (I.hok.write mu he k heo new)
theorem Inv.pins_of {pins' : List (Addr × Obj)} (I : Inv X pins σ H s) (h : ∀ p ∈ pins', s.heap.get? p.1 = some p.2 ∧ H p.1 = none ∧ p.1 ≠ X.env.locals ∧ p.1 ∉ X.fs ∧ ∀ v, p.2.data ≠ .cell v) : Inv X pins' σ H s :=
  ⟨I.ok, I.os, I.bare, I.base, I.loc, I.cell, I.free, I.freeC, fun p hp => (List.mem_append.mp hp).elim (fun z => I.pin p (List.mem_append_left _ z)) (h p), I.hok, I.len⟩

theorem nodup_ix {N : List Str} (hN : N.Nodup) {i j : Nat} {x : Str} (a : N[i]? = some x) (b : N[j]? = some x) : i = j := by
  obtain ⟨h1, e1⟩ := List.getElem?_eq_some_iff.mp a
  obtain ⟨h2, e2⟩ := List.getElem?_eq_some_iff.mp b
  exact (List.getElem_inj hN).mp (e1.trans e2.symm)

/-- a name is stored; what changed -/
theorem store_ok2 {M : Model} {A : Around} {E : Value → Shared → Prop} {i : Nat} {x : Str} {v : V} {u : Value} {Q : Unit → Shared → Prop} (I : Inv X pins σ H s) (hN : X.N.Nodup) (hi : X.N[i]? = some x) (hx : Loc X.env.scope x) (r : RelV v u)
    (h : ∀ s', Inv X pins (σ.set i (some v)) H s' → (∃ a, Heap.SameBut a s.heap s'.heap ∧ (a = X.env.locals ∨ X.env.cells.lookup x = some a)) → Q () s') (hf : X.fn x = true ∨ X.env.scope.names.lookup x = some .local := by first | exact .inl rfl | exact .inr rfl | assumption) : wpAny M A (storeName X.env x u) Q E s := by
  obtain ⟨m, hn, hl⟩ := id I.loc
  have hcls : (X.env.scope.kind == .class || (X.env.scope.kind == .module && X.env.locals != X.env.globals)) = false := by rw [I.ok.kind]; rfl
  have hiσ : i < σ.length := by rw [I.len]; exact (List.getElem?_eq_some_iff.mp hi).1
  have cne := I.cne
  have tracked : ∀ {a : Addr} {h' : Heap}, (∃ o, s.heap.get? a = some o ∧ H a = none) → Heap.SameBut a s.heap h' → HOk X.prog X.w H h' := fun {a h'} ha hs b ob e => by
    obtain ⟨_, _, hfree⟩ := ha
    refine (I.hok b ob e).stay (fun c w' hc q => (hs.2 c ?_).trans q) (fun _ q => q) (fun _ _ q => q) fun _ _ _ q => q
    rintro rfl
    rcases hc with rfl | hc
    · rw [hfree] at e; cases e
    · rw [hfree] at hc; cases hc
  rcases hx with hk | hk
  · refine wpAny_storeName_local hk hn (fun h' hn' hs => ?_) hcls
    obtain ⟨oL, _, _, hoL, _⟩ := id hn
    refine h _ ⟨I.ok, I.os, I.bare, ⟨fun b o e n hb hx => ?_, fun b o e n hb hx => ?_, I.base.free, fun b o e hx => ?_, I.base.tups, I.base.frzs, I.base.tbls⟩, ⟨_, hn', fun j y v' e1 e2 e3 => ?_⟩, fun y c e => ?_, I.free, I.freeC, fun p hp => ?_, tracked ⟨oL, hoL, I.free⟩ hs, by simpa using I.len⟩ ⟨_, hs, .inl rfl⟩
    · exact (hs.2 b (Nat.ne_of_lt (Nat.lt_of_lt_of_le (Heap.lt_size e) I.ok.above))).trans (I.base.keep b o e n hb hx)
    · obtain ⟨sl, e1⟩ := I.base.slot b o e n hb hx
      exact ⟨sl, (hs.2 b (Nat.ne_of_lt (Nat.lt_of_lt_of_le (Heap.lt_size e) I.ok.above))).trans e1⟩
    · obtain ⟨o', e1⟩ := I.base.there b o e hx
      exact ⟨o', (hs.2 b (Nat.ne_of_lt (Nat.lt_of_lt_of_le (Heap.lt_size e) I.ok.above))).trans e1⟩
    · by_cases hj : j = i
      · subst hj
        rw [hi] at e1; cases e1
        rw [List.getElem?_set_self hiσ] at e2
        cases e2
        exact ⟨u, r, .inl ⟨hk, by simp⟩⟩
      · rw [List.getElem?_set_ne (Ne.symm hj)] at e2
        obtain ⟨u', r', q⟩ := hl j y v' e1 e2 e3
        refine ⟨u', r', ?_⟩
        rcases q with ⟨k, e⟩ | ⟨k, c, e, z⟩
        · refine .inl ⟨k, ?_⟩
          have : y ≠ x := fun e => hj (nodup_ix hN e1 (e ▸ hi))
          simp [this, e]
        · exact .inr ⟨k, c, e, z.sameBut hs (cne y c e)⟩
    · obtain ⟨w', z⟩ := I.cell y c e
      exact ⟨w', z.sameBut hs (cne y c e)⟩
    · obtain ⟨e, n, ne, nf, d⟩ := I.pin p hp
      exact ⟨(hs.2 p.1 ne).trans e, n, ne, nf, d⟩
  · have hfn : X.fn x = true := by
      rcases hf with z | z
      · exact z
      · rw [z] at hk; cases hk
    obtain ⟨c, hc⟩ := I.ok.has x (.inl hk)
    obtain ⟨w', z⟩ := I.cell x c hc
    refine wpAny_storeName_cell I.ok.kind hk hc z (fun h' hc' hs => ?_)
    obtain ⟨oc, hoc, hocd⟩ := id z
    refine h { s with heap := h' } ⟨I.ok, I.os, I.bare, ⟨fun b o e n hb hx => ?_, fun b o e n hb hx => ?_, I.base.free, fun b o e hx => ?_, I.base.tups, I.base.frzs, I.base.tbls⟩, ⟨m, hn.sameBut hs (Ne.symm (cne x c hc)), fun j y v' e1 e2 e3 => ?_⟩, fun y c' e => ?_, I.free, I.freeC, fun p hp => ?_, tracked ⟨oc, hoc, I.freeC x c hc⟩ hs, by simpa using I.len⟩ ⟨c, hs, .inr hc⟩
    · exact (hs.2 b (Nat.ne_of_lt (Nat.lt_of_lt_of_le (Heap.lt_size e) (I.ok.cab x c hfn hc)))).trans (I.base.keep b o e n hb hx)
    · obtain ⟨sl, e1⟩ := I.base.slot b o e n hb hx
      exact ⟨sl, (hs.2 b (Nat.ne_of_lt (Nat.lt_of_lt_of_le (Heap.lt_size e) (I.ok.cab x c hfn hc)))).trans e1⟩
    · obtain ⟨o', e1⟩ := I.base.there b o e hx
      exact ⟨o', (hs.2 b (Nat.ne_of_lt (Nat.lt_of_lt_of_le (Heap.lt_size e) (I.ok.cab x c hfn hc)))).trans e1⟩
    · by_cases hj : j = i
      · subst hj
        rw [hi] at e1; cases e1
        rw [List.getElem?_set_self hiσ] at e2
        cases e2
        exact ⟨u, r, .inr ⟨.inl hk, c, hc, hc'⟩⟩
      · rw [List.getElem?_set_ne (Ne.symm hj)] at e2
        obtain ⟨u', r', q⟩ := hl j y v' e1 e2 e3
        refine ⟨u', r', ?_⟩
        rcases q with q | ⟨k, c', e, z'⟩
        · exact .inl q
        · refine .inr ⟨k, c', e, z'.sameBut hs ?_⟩
          rintro rfl
          exact hj (nodup_ix hN e1 (I.ok.inj _ _ _ e hc ▸ hi))
    · by_cases hcc : c' = c
      · subst hcc; exact ⟨_, hc'⟩
      · obtain ⟨w2, z2⟩ := I.cell y c' e
        exact ⟨w2, z2.sameBut hs hcc⟩
    · obtain ⟨e, n, ne, nf, d⟩ := I.pin p hp
      refine ⟨(hs.2 p.1 ?_).trans e, n, ne, nf, d⟩
      intro q
      rw [q, hoc] at e
      have q' : oc = p.2 := Option.some.inj e
      exact d w' (by rw [← q']; exact hocd)
theorem store_ok {M : Model} {A : Around} {E : Value → Shared → Prop} {i : Nat} {x : Str} {v : V} {u : Value} {Q : Unit → Shared → Prop} (I : Inv X pins σ H s) (hN : X.N.Nodup) (hi : X.N[i]? = some x) (hx : Loc X.env.scope x) (r : RelV v u)
    (h : ∀ s', Inv X pins (σ.set i (some v)) H s' → Q () s') (hf : X.fn x = true ∨ X.env.scope.names.lookup x = some .local := by first | exact .inl rfl | exact .inr rfl | assumption) : wpAny M A (storeName X.env x u) Q E s :=
  store_ok2 I hN hi hx r (fun s' I' _ => h s' I') hf
/-- behind a call or a block, the state as it is -/
theorem Inv.call' {s' : Shared} {ch : List Addr} (I : Inv X pins σ H s) (ho : s'.os = s.os) (u : Un (frs X.stack) ch H H' s.heap s'.heap) (hok : HOk X.prog X.w H' s'.heap) (hg : AllBare s'.gens)
    (hch : ∀ b ∈ ch, (b ∈ X.ex ∨ X.s₀.heap.objs.size ≤ b) ∧ b ≠ X.env.locals ∧ (∀ x c, X.env.cells.lookup x = some c → c ≠ b) ∧ ∀ p ∈ X.pn ++ pins, p.1 ≠ b) : Inv X pins σ H' s' := by
  obtain ⟨h', g', d', t', o'⟩ := s'
  have e : o' = s.os := ho
  subst e
  exact I.call (g' := g') (t' := t') (d' := d') u hok hg hch
end

/-! ### the judgements -/
/-- an exception: its class, its own dict's address (where it has one), the abstract heap behind it -/
abbrev XK := Value → Option Addr → Hp → Prop
abbrev St := List (Option V)
abbrev VK := V → Hp → Prop
/-- an expression's reading; a test's; an argument list's -/
abbrev TE := St → Hp → VK → Prop
abbrev TT := St → Hp → (Bool → Hp → Prop) → Prop
abbrev TA := St → Hp → (List V → Hp → Prop) → Prop
/-- what is wanted behind a statement -/
structure Ends where
  nx : St → Hp → Prop
  rt : VK
  bk : St → Hp → Prop := fun _ _ => False
  ct : St → Hp → Prop := fun _ _ => False
abbrev TS := Ends → St → Hp → Prop

def EP (X : Cx) (pins : List (Addr × Obj)) (σ : St) (Q : VK) (u : Value) (s' : Shared) : Prop := ∃ v H', Inv X pins σ H' s' ∧ RelV v u ∧ Q v H'
def TP (X : Cx) (pins : List (Addr × Obj)) (σ : St) (Q : Bool → Hp → Prop) (b : Bool) (s' : Shared) : Prop := ∃ H', Inv X pins σ H' s' ∧ Q b H'
def AP (X : Cx) (pins : List (Addr × Obj)) (σ : St) (Q : List V → Hp → Prop) (us : List Value) (s' : Shared) : Prop := ∃ vs H', Inv X pins σ H' s' ∧ Vals vs us ∧ Q vs H'
def SP (X : Cx) (pins : List (Addr × Obj)) (D : Ends) (f : Flow) (s' : Shared) : Prop :=
  match f with
  | .next => ∃ σ' H', Inv X pins σ' H' s' ∧ D.nx σ' H'
  | .brk => ∃ σ' H', Inv X pins σ' H' s' ∧ D.bk σ' H'
  | .cont => ∃ σ' H', Inv X pins σ' H' s' ∧ D.ct σ' H'
  | .ret u => ∃ v σ' H', Inv X pins σ' H' s' ∧ RelV v u ∧ D.rt v H'

def PE (X : Cx) (e : Expr) (t : TE) : Prop :=
  ∀ (pins : List (Addr × Obj)) (s : Shared) (σ : St) (H : Hp) (Q : VK), Inv X pins σ H s → t σ H Q → wpAny (model X.prog X.w) X.A (eval e X.env) (EP X pins σ Q) X.xe s
def PT (X : Cx) (e : Expr) (t : TT) : Prop :=
  ∀ (pins : List (Addr × Obj)) (s : Shared) (σ : St) (H : Hp) (Q : Bool → Hp → Prop), Inv X pins σ H s → t σ H Q → wpAny (model X.prog X.w) X.A (isTrue e X.env (eval e X.env)) (TP X pins σ Q) X.xe s
/-- a test whatever its 'whole' is (and, or) -/
def PW (X : Cx) (e : Expr) (t : TT) : Prop :=
  ∀ (whole : Sem Value) (pins : List (Addr × Obj)) (s : Shared) (σ : St) (H : Hp) (Q : Bool → Hp → Prop), Inv X pins σ H s → t σ H Q → wpAny (model X.prog X.w) X.A (isTrue e X.env whole) (TP X pins σ Q) X.xe s
theorem PW.pt {X : Cx} {e : Expr} {t : TT} (h : PW X e t) : PT X e t := h _
/-- an argument list (no star), from the left -/
def PA (X : Cx) (es : List Expr) (t : TA) : Prop :=
  ∀ (pos : Pos) (pins : List (Addr × Obj)) (s : Shared) (σ : St) (H : Hp) (Q : List V → Hp → Prop), Inv X pins σ H s → t σ H Q → wpAny (model X.prog X.w) X.A (spliced (backTo pos (starEach es X.env))) (AP X pins σ Q) X.xe s
def PS (X : Cx) (st : Stmt) (t : TS) : Prop :=
  ∀ (pins : List (Addr × Obj)) (s : Shared) (σ : St) (H : Hp) (D : Ends), Inv X pins σ H s → t D σ H → wpAny (model X.prog X.w) X.A (exec st X.env) (SP X pins D) X.xe s
def PSs (X : Cx) (st : List Stmt) (t : TS) : Prop :=
  ∀ (pins : List (Addr × Obj)) (s : Shared) (σ : St) (H : Hp) (D : Ends), Inv X pins σ H s → t D σ H → wpAny (model X.prog X.w) X.A (execs st X.env) (SP X pins D) X.xe s
/-- weaken the end -/
theorem thn {α : Type} {t : Sem α} {Q Q' : α → Shared → Prop} {M : Model} {A : Around} {E : Value → Shared → Prop} {s : Shared} (h : wpAny M A t Q E s) (hQ : ∀ a s, Q a s → Q' a s) : wpAny M A t Q' E s := wpAny_mono h hQ fun _ _ x => x
end L2

namespace L2
open PySem PySem.Spec PyProof.Rows
section
variable {X : Cx}


/-! ### names and constants -/
def tVar (i : Nat) : TE := fun σ H Q => ∃ v, σ[i]? = some (some v) ∧ Q v H
def tC (v : V) : TE := fun _ H Q => Q v H
theorem pe_var {i : Nat} {x : Str} {pos : Pos} (hN : X.N[i]? = some x) (hv : Vis X.env.scope x) (hd : (x == ("__debug__" : Str)) = false := by decide) (hcd : (x == ("__classdict__" : Str)) = false := by decide) : PE X (.Name x pos) (tVar i) := by
  intro pins s σ H Q I h
  obtain ⟨v, e, h⟩ := h
  obtain ⟨m, hn, hl⟩ := I.loc
  obtain ⟨u, r, l⟩ := hl i x v hN e hv
  have fin : EP X pins σ Q u s := ⟨v, H, I, r, h⟩
  rcases l with ⟨hk, hm⟩ | ⟨hk, c, hc, hcell⟩
  · exact wpAny_Name (wpAny_loadName_local I.ok.kind hk hn hm fin) hd
  · rcases hk with hk | hk
    · exact wpAny_Name (wpAny_loadName_cell I.ok.kind hk hc hcell fin) hd
    · exact wpAny_Name (wpAny_loadName_free I.ok.kind hk hc hcell fin hcd) hd
theorem pe_int {i j pos} : PE X (.Constant (.int i) j pos) (tC (.int i)) := fun _ _ _ H _ I h => wpAny_Constant_int ⟨.int i, H, I.tok _, ⟨_, rfl⟩, h⟩
theorem pe_bl {b j pos} : PE X (.Constant (.bool b) j pos) (tC (.bl b)) := fun _ _ _ H _ I h => Constant_bool ⟨.bl b, H, I, rfl, h⟩
theorem pe_non {j pos} : PE X (.Constant .none j pos) (tC .non) := fun _ _ _ H _ I h => Constant_none ⟨.non, H, I, rfl, h⟩
theorem pe_str {x j pos} : PE X (.Constant (.str x) j pos) (tC (.str x)) := fun _ _ _ H _ I h => Calls.Constant_str ⟨.str x, H, I.tok _, ⟨_, rfl⟩, h⟩

/-- a global name of the def -/
def Gl (X : Cx) (x : Str) : Prop := X.env.kindOf x = some .globalImplicit
theorem ld_glob {E : Value → Shared → Prop} {pins : List (Addr × Obj)} {s : Shared} {σ : St} {H : Hp} {x : Str} {u : Value} {pos : Pos} {Q : Value → Shared → Prop} (I : Inv X pins σ H s) (hg : Gl X x) (hm : X.mg x = some u) (h : Q u s)
    (hd : (x == ("__debug__" : Str)) = false := by decide) : wpAny (model X.prog X.w) X.A (eval (.Name x pos) X.env) Q E s :=
  Calls.Name_function_global I.ok.kind hg (Calls.loadGlobal_global (by rw [I.ok.glob]; exact I.mod.glob.keeps I.bk) hm h) hd
theorem ld_blt {E : Value → Shared → Prop} {pins : List (Addr × Obj)} {s : Shared} {σ : St} {H : Hp} {x : Str} {u : Value} {pos : Pos} {Q : Value → Shared → Prop} (I : Inv X pins σ H s) (hg : Gl X x) (hm : X.mg x = none) (hv : bootBuiltins x = some u) (h : Q u s)
    (hn : x ≠ "__name__" := by decide) (hd : (x == ("__debug__" : Str)) = false := by decide) : wpAny (model X.prog X.w) X.A (eval (.Name x pos) X.env) Q E s := by
  obtain ⟨mb, h1, h2⟩ := I.mod.blt
  exact Calls.Name_function_global I.ok.kind hg (Calls.loadGlobal_builtin (by rw [I.ok.glob]; exact I.mod.glob.keeps I.bk) hm (by rw [I.ok.blt]; exact h1.keeps I.bk) ((h2 x hn).trans hv) h) hd
/-- a module's constant, a class, a function, as a value -/
theorem pe_glob {x : Str} {v : V} {u : Value} {pos : Pos} (hg : Gl X x) (hm : X.mg x = some u) (r : RelV v u) (hd : (x == ("__debug__" : Str)) = false := by decide) : PE X (.Name x pos) (tC v) :=
  fun _ _ _ H _ I h => ld_glob I hg hm ⟨v, H, I, r, h⟩ hd
theorem pe_bltn {x : Str} {v : V} {u : Value} {pos : Pos} (hg : Gl X x) (hm : X.mg x = none) (hv : bootBuiltins x = some u) (r : RelV v u) (hn : x ≠ "__name__" := by decide) (hd : (x == ("__debug__" : Str)) = false := by decide) : PE X (.Name x pos) (tC v) :=
  fun _ _ _ H _ I h => ld_blt I hg hm hv ⟨v, H, I, r, h⟩ hn hd

/-! ### arithmetic -/
variable {a b : Expr} {ta tb : TE} {pos : Pos}

/-! ### comparisons -/

/-! ### and, or, not -/
variable {tA tB' : TT} {rest : List Expr}
def tAnd (t u : TT) : TT := fun σ H Q => t σ H fun c H1 => if c = true then u σ H1 Q else Q false H1
def tOr (t u : TT) : TT := fun σ H Q => t σ H fun c H1 => if c = true then Q true H1 else u σ H1 Q
def tNot (t : TT) : TT := fun σ H Q => t σ H fun c H1 => Q (!c) H1
theorem pw_and1 (ha : PT X a tA) : PW X (.BoolOp .And [a] pos) tA := by
  intro wh pins s σ H Q I h
  refine isTrue_and (thn (ha pins s σ H Q I h) fun c s1 e => ?_)
  cases c with
  | true => exact isTrue_and_nil e
  | false => exact e
theorem pw_or1 (ha : PT X a tA) : PW X (.BoolOp .Or [a] pos) tA := by
  intro wh pins s σ H Q I h
  refine isTrue_or (thn (ha pins s σ H Q I h) fun c s1 e => ?_)
  cases c with
  | false => exact isTrue_or_nil e
  | true => exact e
theorem pw_and (ha : PT X a tA) (hb : PW X (.BoolOp .And (b :: rest) pos) tB') : PW X (.BoolOp .And (a :: b :: rest) pos) (tAnd tA tB') := by
  intro wh pins s σ H Q I h
  refine isTrue_and (thn (ha pins s σ H _ I h) fun c s1 ⟨H1, I1, q1⟩ => ?_)
  cases c with
  | true => exact hb wh pins s1 σ H1 Q I1 q1
  | false => exact ⟨H1, I1, q1⟩
theorem pw_or (ha : PT X a tA) (hb : PW X (.BoolOp .Or (b :: rest) pos) tB') : PW X (.BoolOp .Or (a :: b :: rest) pos) (tOr tA tB') := by
  intro wh pins s σ H Q I h
  refine isTrue_or (thn (ha pins s σ H _ I h) fun c s1 ⟨H1, I1, q1⟩ => ?_)
  cases c with
  | true => exact ⟨H1, I1, q1⟩
  | false => exact hb wh pins s1 σ H1 Q I1 q1
theorem pt_not (ha : PT X a tA) : PT X (.UnaryOp .Not a pos) (tNot tA) := by
  intro pins s σ H Q I h
  exact isTrue_not (ha pins s σ H (fun c H1 => Q (!c) H1) I h)
/-- .. as values (bools) -/
def tAndV (ta tb : TE) : TE := fun σ H Q => ta σ H fun x H1 => ∃ c, x = .bl c ∧ if c = true then tb σ H1 Q else Q (.bl false) H1
def tNotV (ta : TE) : TE := fun σ H Q => ta σ H fun x H1 => ∃ c, x = .bl c ∧ Q (.bl (!c)) H1
theorem pe_one {op} {t : TE} (h : PE X a t) : PE X (.BoolOp op [a] pos) t := fun pins s σ H Q I hw => BoolOp_one (h pins s σ H Q I hw)
theorem pe_and (ha : PE X a ta) (hb : PE X (.BoolOp .And (b :: rest) pos) tb) : PE X (.BoolOp .And (a :: b :: rest) pos) (tAndV ta tb) := by
  intro pins s σ H Q I h
  refine BoolOp_and (thn (ha pins s σ H _ I h) fun v s1 ⟨x, H1, I1, r1, q1⟩ => ?_)
  obtain ⟨c, rfl, q1⟩ := q1
  cases r1
  refine wpAny_truthy_bool ?_
  cases c with
  | true => exact hb pins s1 σ H1 Q I1 q1
  | false => exact ⟨.bl false, H1, I1, rfl, q1⟩
theorem pe_not (ha : PE X a ta) : PE X (.UnaryOp .Not a pos) (tNotV ta) := by
  intro pins s σ H Q I h
  refine UnaryOp_ (thn (ha pins s σ H _ I h) fun v s1 ⟨x, H1, I1, r1, q1⟩ => ?_)
  obtain ⟨c, rfl, q1⟩ := q1
  cases r1
  exact not_of (wpAny_truthy_bool ⟨.bl (!c), H1, I1, rfl, q1⟩)
/-- a if t else b -/
def tIf (t : TT) (ta tb : TE) : TE := fun σ H Q => t σ H fun c H1 => if c = true then ta σ H1 Q else tb σ H1 Q
theorem pe_ifExp {c : Expr} (hc : PT X c tA) (ha : PE X a ta) (hb : PE X b tb) : PE X (.IfExp c a b pos) (tIf tA ta tb) := by
  intro pins s σ H Q I h
  refine wpAny_IfExp (thn (hc pins s σ H _ I h) fun d s1 ⟨H1, I1, q1⟩ => ?_)
  cases d with
  | true => exact ha pins s1 σ H1 Q I1 q1
  | false => exact hb pins s1 σ H1 Q I1 q1
end
end L2

namespace L2
open PySem PySem.Spec PyProof.Rows

/-! ### a list, a tuple that is read: tracked, frozen, or an object of the module -/
def SqL (K : PySem.W.Frag) (H : Hp) (a : Addr) (xs : List V) : Prop :=
  Rd H a (.lst xs) ∨
    ∃ (o : Obj) (its : Array Value) (n : Nat), K.lookup a = some o ∧ o.cls = .type "list" ∧ o.dict = none ∧ o.data = .seq its n ∧ its.size ≤ sizeLine ∧ Vals xs its.toList
def SqT (K : PySem.W.Frag) (H : Hp) (a : Addr) (xs : List V) : Prop :=
  Rd H a (.tup xs) ∨
    ∃ (o : Obj) (its : Array Value) (n : Nat), K.lookup a = some o ∧ o.cls = .type "tuple" ∧ o.data = .seq its n ∧ its.size ≤ sizeLine ∧ Vals xs its.toList
def absV : Value → Option V
  | .none => some .non
  | .bool b => some (.bl b)
  | .int i _ => some (.int i)
  | .str x _ => some (.str x)
  | .bytes b _ => some (.byt b)
  | .float b _ => some (.flt b)
  | .ref a => some (.ref a)
  | .type n => some (.ty n)
  | _ => none
theorem RelV.abs {x : V} {u : Value} (r : RelV x u) : absV u = some x := by
  cases x with
  | non => cases r; rfl
  | bl _ => cases r; rfl
  | int _ => obtain ⟨t, rfl⟩ := r; rfl
  | str _ => obtain ⟨t, rfl⟩ := r; rfl
  | byt _ => obtain ⟨t, rfl⟩ := r; rfl
  | flt _ => obtain ⟨t, rfl⟩ := r; rfl
  | ref _ => cases r; rfl
  | ty _ => cases r; rfl
theorem RelV.inj {x y : V} {u : Value} (r : RelV x u) (q : RelV y u) : x = y := Option.some.inj (r.abs.symm.trans q.abs)
theorem Vals.inj : ∀ {xs ys : List V} {us : List Value}, Vals xs us → Vals ys us → xs = ys
  | _, _, _, .nil, .nil => rfl
  | _, _, _, .cons r t, .cons r' t' => by rw [r.inj r', Vals.inj t t']
section
variable {X : Cx} {pins : List (Addr × Obj)} {σ : St} {H : Hp} {s : Shared} {a : Addr} {xs ys : List V}
theorem SqL.of {K : PySem.W.Frag} (h : H a = some (.lst xs)) : SqL K H a xs := .inl (.inl h)
theorem SqT.of {K : PySem.W.Frag} (h : H a = some (.tup xs)) : SqT K H a xs := .inl (.inl h)
theorem Inv.list (I : Inv X pins σ H s) (h : SqL X.K H a xs) : ∃ its : List Value, Vals xs its ∧ PlainL s.heap a its.toArray ∧ xs.length ≤ sizeLine := by
  rcases h with h | ⟨o, its, n, hk, hc, hd, hs, hz, r⟩
  · obtain ⟨z, its, n, r, e⟩ := h.ok I.hok
    exact ⟨its, r, ⟨_, n, e, rfl, rfl, rfl⟩, z⟩
  · refine ⟨its.toList, r, ⟨o, n, I.kIn a o hk, hc, hd, by simpa using hs⟩, ?_⟩
    have e := r.length
    simp only [Array.length_toList] at e
    omega
theorem Inv.tuple (I : Inv X pins σ H s) (h : SqT X.K H a xs) : ∃ its : List Value, Vals xs its ∧ IsTup s.heap a its.toArray ∧ xs.length ≤ sizeLine := by
  rcases h with h | ⟨o, its, n, hk, hc, hs, hz, r⟩
  · obtain ⟨z, its, r, p⟩ := h.ok I.hok
    exact ⟨its, r, p, z⟩
  · refine ⟨its.toList, r, ⟨o, I.kIn a o hk, hc, n, by simpa using hs⟩, ?_⟩
    have e := r.length
    simp only [Array.length_toList] at e
    omega
theorem Inv.list_inj (I : Inv X pins σ H s) (h : SqL X.K H a xs) (h' : SqL X.K H a ys) : xs = ys := by
  obtain ⟨its, r, ⟨o, n, e, _, _, d⟩, _⟩ := I.list h
  obtain ⟨its', r', ⟨o', n', e', _, _, d'⟩, _⟩ := I.list h'
  rw [e] at e'; cases e'
  rw [d] at d'
  injection d' with d1 _
  have : its = its' := by simpa using congrArg Array.toList d1
  subst this
  exact r.inj r'
end

/-! ### another wish about exceptions -/
abbrev Cx.wish (X : Cx) (E : Value → Shared → Prop) : Cx := { X with xe := E }
/-- no exception leaves -/
abbrev Cx.nox (X : Cx) : Cx := X.wish fun _ _ => False
theorem Cx.Ok.wish {X : Cx} (ok : X.Ok) (E : Value → Shared → Prop) : (X.wish E).Ok :=
  ⟨ok.mod, ok.kind, ok.glob, ok.blt, ok.above, ok.inj, ok.has, ok.cab, ok.hd, ok.frames, ok.stk, ok.exf, ok.bs, ok.bsz, ok.noex, ok.exfs, ok.funs, ok.frf⟩
theorem Cx.Ok.unwish {X : Cx} {E : Value → Shared → Prop} (ok : (X.wish E).Ok) : X.Ok :=
  ⟨ok.mod, ok.kind, ok.glob, ok.blt, ok.above, ok.inj, ok.has, ok.cab, ok.hd, ok.frames, ok.stk, ok.exf, ok.bs, ok.bsz, ok.noex, ok.exfs, ok.funs, ok.frf⟩
section
variable {X : Cx} {pins : List (Addr × Obj)} {σ : St} {H : Hp} {s : Shared} {E : Value → Shared → Prop}
theorem Inv.wish (I : Inv X pins σ H s) (E : Value → Shared → Prop) : Inv (X.wish E) pins σ H s := ⟨I.ok.wish E, I.os, I.bare, I.base, I.loc, I.cell, I.free, I.freeC, I.pin, I.hok, I.len⟩
theorem Inv.unwish (I : Inv (X.wish E) pins σ H s) : Inv X pins σ H s := ⟨I.ok.unwish, I.os, I.bare, I.base, I.loc, I.cell, I.free, I.freeC, I.pin, I.hok, I.len⟩
theorem SP.unwish {D : Ends} {f : Flow} {s' : Shared} (h : SP (X.wish E) pins D f s') : SP X pins D f s' := by
  cases f with
  | next => obtain ⟨σ', H', I, q⟩ := h; exact ⟨σ', H', I.unwish, q⟩
  | brk => obtain ⟨σ', H', I, q⟩ := h; exact ⟨σ', H', I.unwish, q⟩
  | cont => obtain ⟨σ', H', I, q⟩ := h; exact ⟨σ', H', I.unwish, q⟩
  | ret u => obtain ⟨v, σ', H', I, r, q⟩ := h; exact ⟨v, σ', H', I.unwish, r, q⟩
theorem PSs.nox {st : List Stmt} {t : TS} (h : PSs X.nox st t) : PSs X st t := fun pins s σ H D I hw =>
  wpAny_mono (h pins s σ H D (I.wish _) hw) (fun _ _ q => q.unwish) fun _ _ z => False.elim z
end

/-! ### blocks and small statements -/
section
variable {X : Cx} {st : Stmt} {rest : List Stmt} {t u : TS} {e : Expr} {te : TE} {pos : Pos}
def tNext : TS := fun D σ H => D.nx σ H
def tSeq (t u : TS) : TS := fun D σ H => t { D with nx := u D } σ H
theorem pss_nil : PSs X [] tNext := fun _ _ σ H _ I h => wpAny_execs_nil ⟨σ, H, I, h⟩
theorem pss_cons (h1 : PS X st t) (h2 : PSs X rest u) : PSs X (st :: rest) (tSeq t u) := by
  intro pins s σ H D I h
  refine wpAny_execs_cons (thn (h1 pins s σ H { D with nx := u D } I h) fun f s1 q => ?_)
  cases f with
  | next =>
    obtain ⟨σ', H', I', q⟩ := q
    exact h2 pins s1 σ' H' D I' q
  | ret v => exact q
  | brk => exact q
  | cont => exact q
theorem pss_one (h1 : PS X st t) : PSs X [st] t := by
  intro pins s σ H D I h
  refine wpAny_execs_cons (thn (h1 pins s σ H D I h) fun f s1 q => ?_)
  cases f with
  | next => exact wpAny_execs_nil q
  | ret v => exact q
  | brk => exact q
  | cont => exact q
/-- in a def's body nothing is shown -/
theorem Inv.quiet {pins : List (Addr × Obj)} {σ : St} {H : Hp} {s : Shared} (I : Inv X pins σ H s) : interactive X.env = false := by simp [interactive, I.ok.kind]
def tRet (te : TE) : TS := fun D σ H => te σ H D.rt
theorem ps_ret (he : PE X e te) : PS X (.Return (some e) pos) (tRet te) := by
  intro pins s σ H D I h
  exact wpAny_Return_some (thn (he pins s σ H _ I h) fun v s1 ⟨x, H1, I1, r1, q1⟩ => ⟨x, σ, H1, I1, r1, q1⟩)
def tIfS (c : TT) (t u : TS) : TS := fun D σ H => c σ H fun b H1 => if b = true then t D σ H1 else u D σ H1
theorem ps_if {c : Expr} {a b : List Stmt} {tc : TT} (hc : PT X c tc) (ha : PSs X a t) (hb : PSs X b u) : PS X (.If c a b pos) (tIfS tc t u) := by
  intro pins s σ H D I h
  refine wpAny_If (thn (hc pins s σ H _ I h) fun d s1 ⟨H1, I1, q1⟩ => ?_)
  cases d with
  | true => exact ha pins s1 σ H1 D I1 q1
  | false => exact hb pins s1 σ H1 D I1 q1
end

/-! ### targets -/
abbrev TG := V → St → Hp → (St → Hp → Prop) → Prop
abbrev TGs := List V → St → Hp → (St → Hp → Prop) → Prop
def PG (X : Cx) (target : Expr) (t : TG) : Prop :=
  ∀ (pins : List (Addr × Obj)) (s : Shared) (σ : St) (H : Hp) (v : V) (u : Value) (Q : St → Hp → Prop), Inv X pins σ H s → RelV v u → t v σ H Q →
    wpAny (model X.prog X.w) X.A (assign target X.env u) (fun _ s' => ∃ σ' H', Inv X pins σ' H' s' ∧ Q σ' H') X.xe s
/-- several targets, one after another -/
def PGs (X : Cx) (ts : List Expr) (t : TGs) : Prop :=
  ∀ (pins : List (Addr × Obj)) (s : Shared) (σ : St) (H : Hp) (vs : List V) (us : List Value) (Q : St → Hp → Prop), Inv X pins σ H s → Vals vs us → t vs σ H Q →
    wpAny (model X.prog X.w) X.A (assignInOrder ((assignEach ts X.env).map (·.2)) us) (fun _ s' => ∃ σ' H', Inv X pins σ' H' s' ∧ Q σ' H') X.xe s
/-- o[i] = v, by values -/
abbrev TSet := V → V → V → Hp → (Hp → Prop) → Prop
def PSet (X : Cx) (t : TSet) : Prop :=
  ∀ (pins : List (Addr × Obj)) (s : Shared) (σ : St) (H : Hp) (o i v : V) (ov iv u : Value) (Q : Hp → Prop), Inv X pins σ H s → RelV o ov → RelV i iv → RelV v u → t o i v H Q →
    wpAny (model X.prog X.w) X.A (setItem ov iv u) (fun _ s' => ∃ H', Inv X pins σ H' s' ∧ Q H') X.xe s
section
variable {X : Cx} {pos : Pos}
def gName (i : Nat) : TG := fun v σ H Q => Q (σ.set i (some v)) H
theorem pg_name {i : Nat} {x : Str} (hN : X.N.Nodup) (hi : X.N[i]? = some x) (hx : Loc X.env.scope x) (hf : X.fn x = true ∨ X.env.scope.names.lookup x = some .local := by first | exact .inl rfl | exact .inr rfl | assumption) : PG X (.Name x pos) (gName i) := by
  intro pins s σ H v u Q I r h
  exact wpAny_assign_Name (store_ok I hN hi hx r (fun s' I' => ⟨_, H, I', h⟩) hf)
def gNil : TGs := fun vs σ H Q => vs = [] ∧ Q σ H
def gCons (t : TG) (u : TGs) : TGs := fun vs σ H Q => ∃ v r, vs = v :: r ∧ t v σ H fun σ' H' => u r σ' H' Q
theorem pgs_nil : PGs X [] gNil := by
  intro pins s σ H vs us Q I r h
  obtain ⟨e, h⟩ := h
  subst e
  cases r
  exact assignInOrder_nil ⟨σ, H, I, h⟩
theorem pgs_cons {e : Expr} {es : List Expr} {t : TG} {u : TGs} (h1 : PG X e t) (h2 : PGs X es u)
    (hs : (assignEach (e :: es) X.env).map (·.2) = assign e X.env :: (assignEach es X.env).map (·.2) := by rfl) : PGs X (e :: es) (gCons t u) := by
  intro pins s σ H vs us Q I r h
  obtain ⟨v, vr, e1, h⟩ := h
  subst e1
  cases r with
  | cons r rr =>
    rw [hs]
    refine assignInOrder_cons (thn (h1 pins s σ H _ _ _ I r h) fun _ s1 ⟨σ1, H1, I1, q1⟩ => ?_)
    exact h2 pins s1 σ1 H1 _ _ Q I1 rr q1
/-- (a, b, ..) = a tuple of that length -/
def gTup (K : PySem.W.Frag) (n : Nat) (t : TGs) : TG := fun v σ H Q => ∃ a xs, v = .ref a ∧ SqT K H a xs ∧ xs.length = n ∧ t xs σ H Q
theorem pg_tup {es : List Expr} {k : Nat} {t : TGs} {n : Nat} (hc : X.calm = true) (h : PGs X es t)
    (hn : (assignEach es X.env).length = n := by rfl) (hst : (assignEach es X.env).findIdx? (·.1) = none := by rfl) : PG X (.Tuple es k pos) (gTup X.K n t) := by
  intro pins s σ H v u Q I r hw
  obtain ⟨a, xs, e1, hq, hl, hw⟩ := hw
  subst e1
  cases r
  obtain ⟨its, rv, ht, hz⟩ := I.tuple hq
  refine assign_Tuple_tuple (I.ok.hd hc) ht (by simp [hn, ← hl, rv.length]) hst fun h' hx => ?_
  have I1 : Inv X pins σ H { s with heap := h' } := I.kept (t' := s.toks) fun b o e => hx b o (Nat.ne_of_lt (Heap.lt_size e)) e
  exact h pins _ σ H xs _ Q I1 (by simpa using rv) hw
/-- o[i] = .. -/
def gSub (to ti : TE) (t : TSet) : TG := fun v σ H Q => to σ H fun o H1 => ti σ H1 fun i H2 => t o i v H2 fun H3 => Q σ H3
theorem pg_sub {o i : Expr} {to ti : TE} {t : TSet} (ho : PE X o to) (hi : PE X i ti) (hs : PSet X t)
    (ha : ∀ v, assign (.Subscript o i pos) X.env v = (do
      let ov ← holding [v] (eval o X.env)
      let iv ← holding [v, ov] (eval i X.env)
      standAt pos
      holding [v, ov, iv] (setItem ov iv v)
      release [v, ov, iv] []) := by intro _; rfl) : PG X (.Subscript o i pos) (gSub to ti t) := by
  intro pins s σ H v u Q I r h
  rw [ha]
  refine wpAny_bind (wpAny_holding (thn (ho pins s σ H _ I h) fun ov s1 ⟨x, H1, I1, r1, q1⟩ => ?_))
  refine wpAny_bind (wpAny_holding (thn (hi pins s1 σ H1 _ I1 q1) fun iv s2 ⟨y, H2, I2, r2, q2⟩ => ?_))
  refine wpAny_bind (wpAny_standAt (wpAny_bind (wpAny_holding (thn (hs pins s2 σ H2 x y v ov iv u _ I2 r1 r2 r q2) fun _ s3 ⟨H3, I3, q3⟩ => ?_))))
  exact wpAny_release ⟨σ, H3, I3, q3⟩
/-- target = value -/
def tAsg (te : TE) (g : TG) : TS := fun D σ H => te σ H fun x H1 => g x σ H1 D.nx
theorem ps_asg {tg e : Expr} {te : TE} {g : TG} (he : PE X e te) (hg : PG X tg g) (hs : swapsWithSole [tg] e pos.line X.env = pure false := by rfl) (hw : swappedStores [tg] e X.env = pure none := by rfl)
    (h1 : (assignEach [tg] X.env).map (·.2) = [assign tg X.env] := by rfl) : PS X (.Assign [tg] e pos) (tAsg te g) := by
  intro pins s σ H D I h
  refine wpAny_Assign_stores (thn (he pins s σ H _ I h) fun v s1 ⟨x, H1, I1, r1, q1⟩ => ?_) hs hw
  rw [h1]
  exact thn (hg pins s1 σ H1 x v _ I1 r1 q1) fun _ s2 q => q
/-- name = value -/
theorem ps_set {i : Nat} {x : Str} {e : Expr} {te : TE} {pos' : Pos} (hN : X.N.Nodup) (hi : X.N[i]? = some x) (hx : Loc X.env.scope x) (he : PE X e te) (hs : swapsWith e (some (.Name x pos')) pos.line X.env = pure false := by rfl) (hf : X.fn x = true ∨ X.env.scope.names.lookup x = some .local := by first | exact .inl rfl | exact .inr rfl | assumption) :
    PS X (.Assign [.Name x pos'] e pos) (tAsg te (gName i)) := by
  intro pins s σ H D I h
  refine wpAny_Assign_Name (thn (he pins s σ H _ I h) fun v s1 ⟨y, H1, I1, r1, q1⟩ => ?_) hs
  exact store_ok I1 hN hi hx r1 (fun s2 I2 => ⟨_, H1, I2, q1⟩) hf
end

/-! ### while -/
section
variable {X : Cx} {pos : Pos}
end

/-! ### what a loop or a comprehension walks -/
/-- at turn i: it yields x (the heap may grow), or it stops -/
structure It where
  go : Nat → Hp → Prop
  yld : Nat → Hp → V → Hp → Prop
  stop : Nat → Hp → Prop
/-- the iterator's own objects may turn: they are not the frame's, not pinned, younger than the entry (or a comprehension's own) -/
def FpOk (X : Cx) (pins : List (Addr × Obj)) (H : Hp) (b : Addr) : Prop :=
  H b = none ∧ b ≠ X.env.locals ∧ b ∉ X.fs ∧ (b ∈ X.ex ∨ X.s₀.heap.objs.size ≤ b) ∧ (∀ x c, X.env.cells.lookup x = some c → c ≠ b) ∧ ∀ p ∈ X.pn ++ pins, p.1 ≠ b
theorem Inv.fpOk {X : Cx} {pins : List (Addr × Obj)} {σ : St} {H H' : Hp} {s : Shared} {b : Addr} (I : Inv X pins σ H s) (hb : s.heap.objs.size ≤ b) (hn : H' b = none) : FpOk X pins H' b := by
  refine ⟨hn, Nat.ne_of_gt (Nat.lt_of_lt_of_le I.lt hb), I.nofs hb, .inr (Nat.le_trans I.sz hb), fun x c e z => ?_, fun p hp z => ?_⟩
  · obtain ⟨v, q⟩ := I.cell x c e
    exact absurd (Nat.lt_of_lt_of_le q.lt (by rw [z]; exact hb)) (Nat.lt_irrefl _)
  · exact absurd (Nat.lt_of_lt_of_le (Heap.lt_size (I.pin p hp).1) (by rw [z]; exact hb)) (Nat.lt_irrefl _)
structure Turn (P : Program) (w : World) (K : PySem.W.Frag) (tg : Expr) (J : It) (fp : List Addr) (it : Addr) (tn : Nat → Heap → Prop) : Prop where
  mem : it ∈ fp
  obj : ∀ i h, tn i h → ∀ b ∈ fp, ∃ o, h.get? b = some o ∧ ∀ v, o.data ≠ .cell v
  keep : ∀ i h h', tn i h → (∀ b ∈ fp, ∀ o, h.get? b = some o → h'.get? b = some o) → tn i h'
  item : ∀ (X : Cx), X.prog = P → X.w = w → X.K = K → X.calm = true → ∀ (i : Nat) (pins : List (Addr × Obj)) (s : Shared) (σ : St) (H : Hp) (E : Value → Shared → Prop), Inv X pins σ H s → (∀ b ∈ fp, FpOk X pins H b) → tn i s.heap → J.go i H →
    wpAny (model P w) X.A (pyNext (.ref it)) (fun r s1 => ∃ u, r = some u ∧
      wpAny (model P w) X.A (letOwnedTupleGo tg (.ref it) u) (fun _ s2 => ∃ x H', Inv X pins σ H' s2 ∧ RelV x u ∧ J.yld i H x H' ∧ tn (i + 1) s2.heap ∧ ∀ b ∈ fp, H' b = none) E s1) E s
  done : ∀ (X : Cx), X.prog = P → X.w = w → X.K = K → X.calm = true → ∀ (i : Nat) (pins : List (Addr × Obj)) (s : Shared) (σ : St) (H : Hp) (E : Value → Shared → Prop), Inv X pins σ H s → (∀ b ∈ fp, FpOk X pins H b) → tn i s.heap → J.stop i H →
    wpAny (model P w) X.A (pyNext (.ref it)) (fun r s1 => r = none ∧ Inv X pins σ H s1) E s
  self : ∀ (A : Around) (i : Nat) (s : Shared) (Q : Value → Shared → Prop) (E : Value → Shared → Prop), tn i s.heap → Q (.ref it) s → wpAny (model P w) A (pyIter (.ref it)) Q E s
abbrev TI := St → Hp → (It → Hp → Prop) → Prop
/-- an iterator has come -/
def PIE (X : Cx) (pins : List (Addr × Obj)) (σ : St) (tg : Expr) (R : It → Hp → Prop) (itv : Value) (s2 : Shared) : Prop :=
  ∃ (it : Addr) (fp : List Addr) (tn : Nat → Heap → Prop) (J : It) (H' : Hp), itv = .ref it ∧ Inv X pins σ H' s2 ∧ Turn X.prog X.w X.K tg J fp it tn ∧ tn 0 s2.heap ∧ (∀ b ∈ fp, FpOk X pins H' b) ∧ R J H'
def PI (X : Cx) (tg iter : Expr) (wi : TI) : Prop :=
  ∀ (pins : List (Addr × Obj)) (s : Shared) (σ : St) (H : Hp) (R : It → Hp → Prop), Inv X pins σ H s → wi σ H R →
    wpAny (model X.prog X.w) X.A (eval iter X.env) (fun v s1 => wpAny (model X.prog X.w) X.A (pyIter v) (PIE X pins σ tg R) X.xe s1) X.xe s

/-- the step ahead of the store is nothing for an iterator that keeps no tuple -/
theorem go_of {M : Model} {A : Around} {E : Value → Shared → Prop} {s : Shared} {tg : Expr} {it : Addr} {u : Value} {o : Obj} {n : String} {vs : Array Value} {Q : Unit → Shared → Prop} (ho : s.heap.get? it = some o) (hc : o.cls = .type n) (hd : o.data = .fields vs)
    (hn : ["enumerate", "zip", "dict_itemiterator", "dict_reverseitemiterator", "odict_iterator", "itertools.zip_longest", "itertools.pairwise"].contains n = false) (hQ : Q () s) : wpAny M A (letOwnedTupleGo tg (.ref it) u) Q E s := by
  unfold letOwnedTupleGo
  cases tg <;> first
    | exact wpAny_pure hQ
    | (cases u <;> first
        | exact wpAny_pure hQ
        | (refine wpAny_bind (wpAny_load ho ?_)
           rw [hc, hd]
           show wpAny M A (if (["enumerate", "zip", "dict_itemiterator", "dict_reverseitemiterator", "odict_iterator", "itertools.zip_longest", "itertools.pairwise"].contains n && vs[0]? == some (rawInt _)) = true then _ else _) Q E s
           rw [if_neg (by intro h; rw [hn, Bool.false_and] at h; cases h)]
           exact wpAny_pure hQ))

/-- the list at a, as it stands at each turn (a loop may append to it) -/
def Itl (K : PySem.W.Frag) (a : Addr) : It :=
  ⟨fun i H => ∃ xs x, SqL K H a xs ∧ xs[i]? = some x, fun i H x H' => H' = H ∧ ∀ xs, SqL K H a xs → xs[i]? = some x, fun i H => ∃ xs, SqL K H a xs ∧ xs.length ≤ i⟩
theorem turn_list {P : Program} {w : World} {K : PySem.W.Frag} {tg : Expr} (a it : Addr) : Turn P w K tg (Itl K a) [it] it (fun i h => h.IsListIter it a i) where
  mem := by simp
  obj := fun i h st b hb => by
    have e : b = it := by simpa using hb
    subst e
    obtain ⟨o, e, c, d⟩ := st
    exact ⟨o, e, fun v z => by rw [d] at z; cases z⟩
  keep := fun i h h' st k => st.at fun o e => k it (by simp) o e
  item := by
    intro X hP hw hK hc i pins s σ H E I hf st hg
    subst hP hw hK
    obtain ⟨xs, x, hq, hx⟩ := hg
    obtain ⟨its, rv, p, hz⟩ := I.list hq
    obtain ⟨u, hu, ru⟩ := rv.get hx
    obtain ⟨f0, f1, f2, f3, f4, f5⟩ := hf it (by simp)
    refine wpAny_pyNext_list_item st p.isList (x := u) (by simpa using hu) fun h' st' sb => ?_
    have I1 : Inv X pins σ H { s with heap := h' } := I.turned (t' := s.toks) (fun b o hb e => (sb.2 b hb).trans e) f0 f1 f3 f4 f5
    obtain ⟨o, e, c, d⟩ := id st'
    exact ⟨u, rfl, go_of (s := { s with heap := h' }) e c d (by decide) ⟨x, H, I1, ru, ⟨rfl, fun ys hy => by rw [I.list_inj hy hq]; exact hx⟩, st', fun b hb => (hf b hb).1⟩⟩
  done := by
    intro X hP hw hK hc i pins s σ H E I hf st hg
    subst hP hw hK
    obtain ⟨xs, hq, hx⟩ := hg
    obtain ⟨its, rv, p, hz⟩ := I.list hq
    obtain ⟨f0, f1, f2, f3, f4, f5⟩ := hf it (by simp)
    have hl := rv.length
    exact wpAny_pyNext_list_end (I.ok.hd hc) st p.isList (by simp; omega) fun h' eb => ⟨rfl, I.turned (t' := s.toks) (fun b o hb e => eb b o hb e) f0 f1 f3 f4 f5⟩
  self := fun _ _ _ _ _ st h => wpAny_pyIter_listiter st h
end L2

namespace L2
open PySem PySem.Spec PyProof.Rows
section
variable {X : Cx} {tg : Expr}
def iList (K : PySem.W.Frag) (tl : TE) : TI := fun σ H R => tl σ H fun x H1 => ∃ a, x = .ref a ∧ (∃ xs, SqL K H1 a xs) ∧ R (Itl K a) H1
theorem pi_list {l : Expr} {tl : TE} (hl : PE X l tl) : PI X tg l (iList X.K tl) := by
  intro pins s σ H R I h
  refine thn (hl pins s σ H _ I h) fun v s1 ⟨x, H1, I1, r1, q1⟩ => ?_
  obtain ⟨a, e, ⟨xs, hq⟩, q⟩ := q1
  subst e
  cases r1
  obtain ⟨its, rv, p, hz⟩ := I1.list hq
  refine wpAny_pyIter_list p.isList ?_
  refine ⟨s1.heap.objs.size, [s1.heap.objs.size], _, _, H1, rfl, I1.kept (t' := s1.toks) fun b o e => Heap.get?_push_of_some _ e, turn_list a _, ⟨_, Heap.get?_push_size _ rfl, rfl, rfl⟩, fun b hb => ?_, q⟩
  have e : b = s1.heap.objs.size := by simpa using hb
  subst e
  exact I1.fpOk (Nat.le_refl _) (I1.hok.fresh (Nat.le_refl _))

/-! ### for -/
/-- W: the invariant by the turn and a measure; N: what the body is to reach -/
def tFor (wi : TI) (g : TG) (tb : TS) : TS := fun D σ H => wi σ H fun J H1 => ∃ W : Nat → Nat → St → Hp → Prop, (∃ m, W 0 m σ H1) ∧ ∀ i m σ H, W i m σ H →
  (J.stop i H ∧ D.nx σ H) ∨ (J.go i H ∧ ∃ N : St → Hp → Prop, (∀ σ' H', N σ' H' → ∃ m', m' < m ∧ W (i + 1) m' σ' H') ∧ ∀ x H', J.yld i H x H' → g x σ H' fun σ2 H2 => tb { D with nx := N, ct := N, bk := D.nx } σ2 H2)
/-- the records at fp as they stand -/
def pinsAt (fp : List Addr) (h : Heap) : List (Addr × Obj) := fp.filterMap fun b => (h.get? b).map fun o => (b, o)
theorem mem_pinsAt {fp : List Addr} {h : Heap} {b : Addr} {o : Obj} (hb : b ∈ fp) (e : h.get? b = some o) : (b, o) ∈ pinsAt fp h := List.mem_filterMap.mpr ⟨b, hb, by rw [e]; rfl⟩
theorem of_pinsAt {fp : List Addr} {h : Heap} {p : Addr × Obj} (hp : p ∈ pinsAt fp h) : p.1 ∈ fp ∧ h.get? p.1 = some p.2 := by
  obtain ⟨b, hb, e⟩ := List.mem_filterMap.mp hp
  cases q : h.get? b with
  | none => rw [q] at e; cases e
  | some o =>
    rw [q] at e
    have e' : (b, o) = p := Option.some.inj e
    subst e'
    exact ⟨hb, q⟩
theorem Inv.pinned {pins : List (Addr × Obj)} {σ : St} {H : Hp} {s : Shared} {fp : List Addr} (I : Inv X pins σ H s) (hf : ∀ b ∈ fp, FpOk X pins H b) (ho : ∀ b ∈ fp, ∃ o, s.heap.get? b = some o ∧ ∀ v, o.data ≠ .cell v) : Inv X (pins ++ pinsAt fp s.heap) σ H s :=
  I.pins_of fun p hp => (List.mem_append.mp hp).elim (fun z => I.pin p (List.mem_append_right _ z)) fun z => by
    obtain ⟨hb, e⟩ := of_pinsAt z
    obtain ⟨f0, f1, f2, _⟩ := hf p.1 hb
    obtain ⟨o, e', d⟩ := ho p.1 hb
    rw [e] at e'; cases e'
    exact ⟨e, f0, f1, f2, d⟩
theorem Inv.unpinned {pins pl : List (Addr × Obj)} {σ : St} {H : Hp} {s : Shared} (I : Inv X (pins ++ pl) σ H s) : Inv X pins σ H s := I.pins_of fun p hp => I.pin p (List.mem_append_right _ (List.mem_append_left _ hp))
theorem ps_for {iter : Expr} {body : List Stmt} {wi : TI} {g : TG} {tb : TS} {pos : Pos} (hp : PassesOwn (model X.prog X.w) X.A X.env X.xe) (hc : X.calm = true) (hi : PI X tg iter wi) (hg : PG X tg g) (hb : PSs X body tb)
    (hs : ∀ x, foldedSetIterable iter X.env x = pure x := by intro _; rfl) : PS X (.For tg iter body [] pos) (tFor wi g tb) := by
  intro pins s σ H D I h
  refine wpAny_For (thn (hi pins s σ H _ I h) fun v s1 h1 => thn h1 fun itv s2 h2 => ?_) hs
  obtain ⟨it, fp, tn, J, H2, e, I2, T, st2, f2, W, ⟨m0, w0⟩, turn⟩ := h2
  subst e
  -- what stays true of the iterator's objects through the loop
  have stat : ∀ {H' : Hp}, (∀ b ∈ fp, H' b = none) → ∀ b ∈ fp, FpOk X pins H' b := fun hn b hb => ⟨hn b hb, (f2 b hb).2⟩
  refine codeAny_forLoop_any (fun n s' => ∃ i σ' H', Inv X pins σ' H' s' ∧ tn i s'.heap ∧ (∀ b ∈ fp, H' b = none) ∧ W i n σ' H') ?_ m0 ⟨0, σ, H2, I2, st2, fun b hb => (f2 b hb).1, w0⟩
  rintro n s3 ⟨i, σ3, H3, I3, st3, fr3, w3⟩
  rcases turn i n σ3 H3 w3 with ⟨stop, qn⟩ | ⟨go, N, hN, step⟩
  · refine wpAny_passesOwn hp (thn (T.done X rfl rfl rfl hc i pins s3 σ3 H3 X.xe I3 (stat fr3) st3 stop) fun r s4 ⟨hr, I4⟩ => ?_)
    subst hr
    exact wpAny_execs_nil ⟨σ3, H3, I4, qn⟩
  · refine wpAny_passesOwn hp (thn (T.item X rfl rfl rfl hc i pins s3 σ3 H3 X.xe I3 (stat fr3) st3 go) fun r s4 ⟨u, hr, h4⟩ => ?_)
    subst hr
    refine wpAny_passesOwn hp (thn h4 fun _ s5 ⟨x, H5, I5, r5, y5, st5, fr5⟩ => ?_)
    have I5' := I5.pinned (stat fr5) (T.obj _ _ st5)
    refine wpAny_passesOwn hp (thn (hg _ s5 σ3 H5 x u _ I5' r5 (step x H5 y5)) fun _ s6 ⟨σ6, H6, I6, q6⟩ => ?_)
    refine wpAny_passesOwn hp (thn (hb _ s6 σ6 H6 _ I6 q6) fun f s7 q7 => ?_)
    have again : ∀ {σ7 : St} {H7 : Hp}, Inv X (pins ++ pinsAt fp s5.heap) σ7 H7 s7 → N σ7 H7 → ∃ m, m < n ∧ ∃ i σ' H', Inv X pins σ' H' s7 ∧ tn i s7.heap ∧ (∀ b ∈ fp, H' b = none) ∧ W i m σ' H' := fun {σ7 H7} I7 n7 => by
      obtain ⟨m', hm, w7⟩ := hN σ7 H7 n7
      refine ⟨m', hm, i + 1, σ7, H7, I7.unpinned, T.keep _ _ _ st5 fun b hb o e => (I7.pin (b, o) (List.mem_append_right _ (List.mem_append_right _ (mem_pinsAt hb e)))).1, fun b hb => ?_, w7⟩
      obtain ⟨o, e, d⟩ := T.obj _ _ st5 b hb
      exact (I7.pin (b, o) (List.mem_append_right _ (List.mem_append_right _ (mem_pinsAt hb e)))).2.1
    cases f with
    | next => obtain ⟨σ7, H7, I7, n7⟩ := q7; exact again I7 n7
    | cont => obtain ⟨σ7, H7, I7, n7⟩ := q7; exact again I7 n7
    | brk => obtain ⟨σ7, H7, I7, q7⟩ := q7; exact ⟨σ7, H7, I7.unpinned, q7⟩
    | ret v => obtain ⟨x7, σ7, H7, I7, r7, q7⟩ := q7; exact ⟨x7, σ7, H7, I7.unpinned, r7, q7⟩
end

/-! ### the forms one uses -/
/-- over a list that the body leaves as it is -/
theorem for_list {K : PySem.W.Frag} {a : Addr} {xs : List V} {g : TG} {tb : TS} {D : Ends} {σ : St} {H : Hp} (Pv : Nat → St → Hp → Prop) (h0 : Pv 0 σ H) (hl : ∀ i σ H, i ≤ xs.length → Pv i σ H → SqL K H a xs)
    (hs : ∀ i x σ H, xs[i]? = some x → Pv i σ H → g x σ H fun σ2 H2 => tb { D with nx := Pv (i + 1), ct := Pv (i + 1), bk := D.nx } σ2 H2) (hd : ∀ σ H, Pv xs.length σ H → D.nx σ H) :
    ∃ W : Nat → Nat → St → Hp → Prop, (∃ m, W 0 m σ H) ∧ ∀ i m σ H, W i m σ H →
      ((Itl K a).stop i H ∧ D.nx σ H) ∨ ((Itl K a).go i H ∧ ∃ N : St → Hp → Prop, (∀ σ' H', N σ' H' → ∃ m', m' < m ∧ W (i + 1) m' σ' H') ∧ ∀ x H', (Itl K a).yld i H x H' → g x σ H' fun σ2 H2 => tb { D with nx := N, ct := N, bk := D.nx } σ2 H2) := by
  refine ⟨fun i m σ H => m = xs.length - i ∧ i ≤ xs.length ∧ Pv i σ H, ⟨xs.length, by simp, Nat.zero_le _, h0⟩, ?_⟩
  rintro i m σ H ⟨rfl, hi, p⟩
  have q := hl i σ H hi p
  by_cases hlt : i < xs.length
  · refine .inr ⟨⟨xs, xs[i], q, by simp [hlt]⟩, Pv (i + 1), fun σ' H' p' => ⟨xs.length - (i + 1), by omega, rfl, hlt, p'⟩, fun x H' y => ?_⟩
    obtain ⟨e, y⟩ := y
    subst e
    exact hs i x σ _ (y xs q) p
  · have e : i = xs.length := by omega
    subst e
    exact .inl ⟨⟨xs, q, Nat.le_refl _⟩, hd σ H p⟩
end L2

namespace L2
open PySem PySem.Spec PyProof.Rows

abbrev R2 := V → V → Hp → VK → Prop
/-- a two-place operation on values: f is binaryOp op, inplaceOp op or compareOp op -/
def OpR (X : Cx) (f : Value → Value → Sem Value) (r : R2) : Prop :=
  ∀ (pins : List (Addr × Obj)) (s : Shared) (σ : St) (H : Hp) (x y : V) (v u : Value) (Q : VK), Inv X pins σ H s → RelV x v → RelV y u → r x y H Q →
    wpAny (model X.prog X.w) X.A (f v u) (EP X pins σ Q) X.xe s
/-- a one-place operation -/
def UnR (X : Cx) (f : Value → Sem Value) (r : V → Hp → VK → Prop) : Prop :=
  ∀ (pins : List (Addr × Obj)) (s : Shared) (σ : St) (H : Hp) (x : V) (v : Value) (Q : VK), Inv X pins σ H s → RelV x v → r x H Q →
    wpAny (model X.prog X.w) X.A (f v) (EP X pins σ Q) X.xe s
/-- a call of a value that is known (a builtin, a type) with values -/
def CallR (X : Cx) (f : Value) (r : List V → Hp → VK → Prop) : Prop :=
  ∀ (pins : List (Addr × Obj)) (s : Shared) (σ : St) (H : Hp) (xs : List V) (us : List Value) (Q : VK), Inv X pins σ H s → Vals xs us → r xs H Q →
    wpAny (model X.prog X.w) X.A (call f us) (EP X pins σ Q) X.xe s
/-- a value's truth -/
def TruR (X : Cx) (r : V → Hp → (Bool → Hp → Prop) → Prop) : Prop :=
  ∀ (pins : List (Addr × Obj)) (s : Shared) (σ : St) (H : Hp) (x : V) (v : Value) (Q : Bool → Hp → Prop), Inv X pins σ H s → RelV x v → r x H Q →
    wpAny (model X.prog X.w) X.A (truthy v) (TP X pins σ Q) X.xe s

def tOp (r : R2) (ta tb : TE) : TE := fun σ H Q => ta σ H fun x H1 => tb σ H1 fun y H2 => r x y H2 Q
def tUn (r : V → Hp → VK → Prop) (ta : TE) : TE := fun σ H Q => ta σ H fun x H1 => r x H1 Q
/-- ints in, under C, and a value out -/
def rI (C : Int → Int → Prop) (g : Int → Int → V) : R2 := fun x y H Q => ∃ i j, x = .int i ∧ y = .int j ∧ C i j ∧ Q (g i j) H
def rI0 (g : Int → Int → V) : R2 := fun x y H Q => ∃ i j, x = .int i ∧ y = .int j ∧ Q (g i j) H
def rU (g : Int → V) : V → Hp → VK → Prop := fun x H Q => ∃ i, x = .int i ∧ Q (g i) H

section
variable {X : Cx} {a b c : Expr} {ta tb tc : TE} {pos : Pos}

theorem binT (ha : PE X a ta) (hb : PE X b tb) {pins : List (Addr × Obj)} {s : Shared} {σ : St} {H : Hp} {R : V → V → Hp → Prop} (I : Inv X pins σ H s)
    (h : ta σ H fun x H1 => tb σ H1 fun y H2 => R x y H2) {Q : Value → Shared → Prop} {f : Value → Value → Sem Value}
    (hf : ∀ v u s2 x y H2, Inv X pins σ H2 s2 → RelV x v → RelV y u → R x y H2 → wpAny (model X.prog X.w) X.A (f v u) Q X.xe s2) :
    wpAny (model X.prog X.w) X.A (eval a X.env) (fun v s₁ => wpAny (model X.prog X.w) X.A (eval b X.env) (fun u s₂ => wpAny (model X.prog X.w) X.A (f v u) Q X.xe s₂) X.xe s₁) X.xe s := by
  refine thn (ha pins s σ H _ I h) fun v s1 ⟨x, H1, I1, r1, q1⟩ => ?_
  refine thn (hb pins s1 σ H1 _ I1 q1) fun u s2 ⟨y, H2, I2, r2, q2⟩ => ?_
  exact hf v u s2 x y H2 I2 r1 r2 q2

theorem pe_op {op : Operator} {r : R2} (ho : OpR X (binaryOp op) r) (ha : PE X a ta) (hb : PE X b tb) : PE X (.BinOp a op b pos) (tOp r ta tb) := by
  intro pins s σ H Q I h
  exact wpAny_BinOp (binT ha hb I h fun v u s2 x y H2 I2 rx ry q => ho pins s2 σ H2 x y v u Q I2 rx ry q)
theorem pe_un {op : UnaryOp} {r : V → Hp → VK → Prop} (ho : UnR X (unaryOp op) r) (ha : PE X a ta) : PE X (.UnaryOp op a pos) (tUn r ta) := by
  intro pins s σ H Q I h
  exact UnaryOp_ (thn (ha pins s σ H _ I h) fun v s1 ⟨x, H1, I1, r1, q1⟩ => ho pins s1 σ H1 x v Q I1 r1 q1)

/-! ### ints -/
theorem opI {f : Value → Value → Sem Value} {C : Int → Int → Prop} {g : Int → Int → Int}
    (rule : ∀ (i j : Int) (t u : Tok) (s : Shared) (Q : Value → Shared → Prop) (E : Value → Shared → Prop), C i j → Q (.int (g i j) s.toks) { s with toks := s.toks + 1 } → wpAny (model X.prog X.w) X.A (f (.int i t) (.int j u)) Q E s) :
    OpR X f (rI C fun i j => .int (g i j)) := by
  intro pins s σ H x y v u Q I rx ry h
  obtain ⟨i, j, rfl, rfl, hc, q⟩ := h
  obtain ⟨t, rfl⟩ := rx
  obtain ⟨t', rfl⟩ := ry
  exact rule i j t t' s _ _ hc ⟨.int (g i j), H, I.tok _, ⟨_, rfl⟩, q⟩
theorem opI0 {f : Value → Value → Sem Value} {g : Int → Int → Int}
    (rule : ∀ (i j : Int) (t u : Tok) (s : Shared) (Q : Value → Shared → Prop) (E : Value → Shared → Prop), Q (.int (g i j) s.toks) { s with toks := s.toks + 1 } → wpAny (model X.prog X.w) X.A (f (.int i t) (.int j u)) Q E s) :
    OpR X f (rI0 fun i j => .int (g i j)) := by
  intro pins s σ H x y v u Q I rx ry h
  obtain ⟨i, j, rfl, rfl, q⟩ := h
  obtain ⟨t, rfl⟩ := rx
  obtain ⟨t', rfl⟩ := ry
  exact rule i j t t' s _ _ ⟨.int (g i j), H, I.tok _, ⟨_, rfl⟩, q⟩
theorem opB0 {f : Value → Value → Sem Value} {g : Int → Int → Bool}
    (rule : ∀ (i j : Int) (t u : Tok) (s : Shared) (Q : Value → Shared → Prop) (E : Value → Shared → Prop), Q (.bool (g i j)) s → wpAny (model X.prog X.w) X.A (f (.int i t) (.int j u)) Q E s) :
    OpR X f (rI0 fun i j => .bl (g i j)) := by
  intro pins s σ H x y v u Q I rx ry h
  obtain ⟨i, j, rfl, rfl, q⟩ := h
  obtain ⟨t, rfl⟩ := rx
  obtain ⟨t', rfl⟩ := ry
  exact rule i j t t' s _ _ ⟨.bl (g i j), H, I, rfl, q⟩

def CDiv (i j : Int) : Prop := 0 < j ∧ j < 1073741824
def CPow (i j : Int) : Prop := 0 ≤ j ∧ j ≤ 1000000 ∧ i.natAbs < 2 ^ 64
def CMul (i j : Int) : Prop := (-(2 ^ 64) < i ∧ i < 2 ^ 64) ∨ (-(2 ^ 64) < j ∧ j < 2 ^ 64)
theorem CMul.ok {i j : Int} (h : CMul i j) : IntMulOk i j := by
  rcases h with ⟨h1, h2⟩ | ⟨h1, h2⟩
  · exact .of_left (intBits_le_64 h1 h2)
  · exact .of_right (intBits_le_64 h1 h2)

theorem op_add : OpR X (binaryOp .Add) (rI0 fun i j => .int (i + j)) := opI0 fun _ _ _ _ _ _ _ q => add_int q
theorem op_sub : OpR X (binaryOp .Sub) (rI0 fun i j => .int (i - j)) := opI0 fun _ _ _ _ _ _ _ q => sub_int q
theorem op_mul : OpR X (binaryOp .Mult) (rI CMul fun i j => .int (i * j)) := opI fun _ _ _ _ _ _ _ hc q => mul_int q hc.ok
/-- // by a positive divisor -/
theorem op_fdiv : OpR X (binaryOp .FloorDiv) (rI CDiv fun i j => .int (i / j)) := opI fun i j _ _ _ _ _ hc q => by
  have h1 : (0 : Int) < j := hc.1
  have h2 : j < 1073741824 := hc.2
  exact floordiv_int (by omega) (by rw [Int.fdiv_eq_ediv_of_nonneg i (by omega)]; exact q) (.inl (PyProof.noPylong_small (by omega)))
/-- % by a positive divisor of any size -/
theorem op_mod : OpR X (binaryOp .Mod) (rI (fun _ j => 0 < j) fun i j => .int (i % j)) := opI fun i j _ _ _ _ _ hc q => by
  have h1 : (0 : Int) < j := hc
  exact mod_int' (by omega) (by rw [Int.fmod_eq_emod_of_nonneg i (by omega)]; exact q)
theorem op_pow : OpR X (binaryOp .Pow) (rI CPow fun i j => .int (i ^ j.toNat)) := opI fun _ _ _ _ _ _ _ hc q => pow_int_small hc.1 hc.2.1 hc.2.2 q


theorem unI {f : Value → Sem Value} {g : Int → Int}
    (rule : ∀ (i : Int) (t : Tok) (s : Shared) (Q : Value → Shared → Prop) (E : Value → Shared → Prop), Q (.int (g i) s.toks) { s with toks := s.toks + 1 } → wpAny (model X.prog X.w) X.A (f (.int i t)) Q E s) :
    UnR X f (rU fun i => .int (g i)) := by
  intro pins s σ H x v Q I rx h
  obtain ⟨i, rfl, q⟩ := h
  obtain ⟨t, rfl⟩ := rx
  exact rule i t s _ _ ⟨.int (g i), H, I.tok _, ⟨_, rfl⟩, q⟩
theorem un_neg : UnR X (unaryOp .USub) (rU fun i => .int (-i)) := unI fun _ _ _ _ _ q => neg_int q

/-! ### bools among ints: n += (a < b) -/
end

/-! ### comparisons -/
/-- the scalars that == tells apart as data does -/
def scal : V → V → Bool
  | .non, .non => true | .non, .int _ => true | .int _, .non => true | .non, .bl _ => true | .bl _, .non => true | .non, .str _ => true | .str _, .non => true
  | .int _, .int _ => true | .bl _, .bl _ => true | .str _, .str _ => true | .byt _, .byt _ => true
  | .int _, .str _ => true | .str _, .int _ => true | .bl _, .str _ => true | .str _, .bl _ => true
  | _, _ => false
def rEq : R2 := fun x y H Q => scal x y = true ∧ Q (.bl (decide (x = y))) H
def rNe : R2 := fun x y H Q => scal x y = true ∧ Q (.bl (!decide (x = y))) H

theorem dec_int {i j : Int} : decide (V.int i = V.int j) = (i == j) := by
  rw [Bool.eq_iff_iff]
  simp
theorem dec_bl {i j : Bool} : decide (V.bl i = V.bl j) = (i == j) := by
  rw [Bool.eq_iff_iff]
  simp
theorem dec_str {i j : Str} : decide (V.str i = V.str j) = (i == j) := by
  rw [Bool.eq_iff_iff]
  simp
theorem dec_byt {i j : Array UInt8} : decide (V.byt i = V.byt j) = (i.toList == j.toList) := by
  rw [Bool.eq_iff_iff]
  cases i
  cases j
  simp

section
variable {X : Cx} {a b c : Expr} {ta tb tc : TE} {pos : Pos}
theorem fin_bl {pins : List (Addr × Obj)} {σ : St} {H : Hp} {s : Shared} {Q : VK} {k k' : Bool} (I : Inv X pins σ H s) (q : Q (.bl k) H) (e : k = k') : EP X pins σ Q (.bool k') s := by
  subst e
  exact ⟨.bl k, H, I, rfl, q⟩
theorem op_eq : OpR X (compareOp .Eq) rEq := by
  intro pins s σ H x y v u Q I rx ry h
  obtain ⟨hs, q⟩ := h
  cases x with
  | non =>
    cases rx
    cases y with
    | non => cases ry; exact PySem.EqNone.eq_none_none (fin_bl I q (by simp))
    | bl j => cases ry; exact PySem.EqNone.eq_none_bool (fin_bl I q (by simp))
    | int j => obtain ⟨t', rfl⟩ := ry; exact PySem.EqNone.eq_none_int (fin_bl I q (by simp))
    | str j => obtain ⟨t', rfl⟩ := ry; exact PySem.EqNone.eq_none_str (fin_bl I q (by simp))
    | _ => exact absurd (show false = true from hs) Bool.false_ne_true
  | bl i =>
    cases rx
    cases y with
    | non => cases ry; exact PySem.EqNone.eq_bool_none (fin_bl I q (by simp))
    | bl j => cases ry; exact eq_bool (fin_bl I q dec_bl)
    | str j => obtain ⟨t', rfl⟩ := ry; exact PySem.EqMixed.eq_bool_str (fin_bl I q (by simp))
    | _ => exact absurd (show false = true from hs) Bool.false_ne_true
  | int i =>
    obtain ⟨t, rfl⟩ := rx
    cases y with
    | non => cases ry; exact PySem.EqNone.eq_int_none (fin_bl I q (by simp))
    | int j => obtain ⟨t', rfl⟩ := ry; exact eq_int (fin_bl I q dec_int)
    | str j => obtain ⟨t', rfl⟩ := ry; exact PySem.EqMixed.eq_int_str (fin_bl I q (by simp))
    | _ => exact absurd (show false = true from hs) Bool.false_ne_true
  | str i =>
    obtain ⟨t, rfl⟩ := rx
    cases y with
    | non => cases ry; exact PySem.EqNone.eq_str_none (fin_bl I q (by simp))
    | bl j => cases ry; exact PySem.EqMixed.eq_str_bool (fin_bl I q (by simp))
    | int j => obtain ⟨t', rfl⟩ := ry; exact PySem.EqMixed.eq_str_int (fin_bl I q (by simp))
    | str j => obtain ⟨t', rfl⟩ := ry; exact eq_str (fin_bl I q dec_str)
    | _ => exact absurd (show false = true from hs) Bool.false_ne_true
  | byt i =>
    obtain ⟨t, rfl⟩ := rx
    cases y with
    | byt j => obtain ⟨t', rfl⟩ := ry; exact PySem.W.eq_bytes (fin_bl I q dec_byt)
    | _ => exact absurd (show false = true from hs) Bool.false_ne_true
  | _ => cases y <;> exact absurd (show false = true from hs) Bool.false_ne_true
theorem op_ne : OpR X (compareOp .NotEq) rNe := by
  intro pins s σ H x y v u Q I rx ry h
  obtain ⟨hs, q⟩ := h
  cases x with
  | non =>
    cases rx
    cases y with
    | non => cases ry; exact PySem.EqNone.ne_none_none (fin_bl I q (by simp))
    | bl j => cases ry; exact PySem.EqNone.ne_none_bool (fin_bl I q (by simp))
    | int j => obtain ⟨t', rfl⟩ := ry; exact PySem.EqNone.ne_none_int (fin_bl I q (by simp))
    | str j => obtain ⟨t', rfl⟩ := ry; exact PySem.EqNone.ne_none_str (fin_bl I q (by simp))
    | _ => exact absurd (show false = true from hs) Bool.false_ne_true
  | bl i =>
    cases rx
    cases y with
    | non => cases ry; exact PySem.EqNone.ne_bool_none (fin_bl I q (by simp))
    | bl j => cases ry; exact ne_bool (fin_bl I q (congrArg not dec_bl))
    | str j => obtain ⟨t', rfl⟩ := ry; exact PySem.EqMixed.ne_bool_str (fin_bl I q (by simp))
    | _ => exact absurd (show false = true from hs) Bool.false_ne_true
  | int i =>
    obtain ⟨t, rfl⟩ := rx
    cases y with
    | non => cases ry; exact PySem.EqNone.ne_int_none (fin_bl I q (by simp))
    | int j => obtain ⟨t', rfl⟩ := ry; exact ne_int (fin_bl I q (congrArg not dec_int))
    | str j => obtain ⟨t', rfl⟩ := ry; exact PySem.EqMixed.ne_int_str (fin_bl I q (by simp))
    | _ => exact absurd (show false = true from hs) Bool.false_ne_true
  | str i =>
    obtain ⟨t, rfl⟩ := rx
    cases y with
    | non => cases ry; exact PySem.EqNone.ne_str_none (fin_bl I q (by simp))
    | bl j => cases ry; exact PySem.EqMixed.ne_str_bool (fin_bl I q (by simp))
    | int j => obtain ⟨t', rfl⟩ := ry; exact PySem.EqMixed.ne_str_int (fin_bl I q (by simp))
    | str j => obtain ⟨t', rfl⟩ := ry; exact ne_str (fin_bl I q (congrArg not dec_str))
    | _ => exact absurd (show false = true from hs) Bool.false_ne_true
  | byt i =>
    obtain ⟨t, rfl⟩ := rx
    cases y with
    | byt j => obtain ⟨t', rfl⟩ := ry; exact PySem.W.ne_bytes (fin_bl I q (congrArg not dec_byt))
    | _ => exact absurd (show false = true from hs) Bool.false_ne_true
  | _ => cases y <;> exact absurd (show false = true from hs) Bool.false_ne_true

theorem op_lt : OpR X (compareOp .Lt) (rI0 fun i j => .bl (decide (i < j))) := opB0 fun _ _ _ _ _ _ _ q => lt_int q
theorem op_gt : OpR X (compareOp .Gt) (rI0 fun i j => .bl (decide (j < i))) := opB0 fun _ _ _ _ _ _ _ q => gt_int q
theorem op_ge : OpR X (compareOp .GtE) (rI0 fun i j => .bl (decide (j ≤ i))) := opB0 fun _ _ _ _ _ _ _ q => ge_int q



/-- two rules for one operation: by cases -/
theorem OpR.or {f : Value → Value → Sem Value} {r r' : R2} (h : OpR X f r) (h' : OpR X f r') : OpR X f (fun x y H Q => r x y H Q ∨ r' x y H Q) := by
  intro pins s σ H x y v u Q I rx ry q
  rcases q with q | q
  · exact h pins s σ H x y v u Q I rx ry q
  · exact h' pins s σ H x y v u Q I rx ry q

theorem nomark (b : Expr) {op : CmpOp} (h : op ≠ .In := by decide) (h2 : op ≠ .NotIn := by decide) : behindInMarks op b = false := by
  have e1 : (op == CmpOp.In) = false := by cases op <;> first | rfl | exact absurd rfl h
  have e2 : (op == CmpOp.NotIn) = false := by cases op <;> first | rfl | exact absurd rfl h2
  cases b <;> simp [behindInMarks, e1, e2]
/-- a comparison as a value; hm: nomark b, or (for in, not in) by with_unfolding_all rfl -/
theorem pe_cmpR {op : CmpOp} {r : R2} (ho : OpR X (compareOp op) r) (ha : PE X a ta) (hb : PE X b tb) (hm : behindInMarks op b = false) : PE X (.Compare a [op] [b] pos) (tOp r ta tb) := by
  intro pins s σ H Q I h
  exact wpAny_Compare1 (binT ha hb I h fun v u s2 x y H2 I2 rx ry q => ho pins s2 σ H2 x y v u Q I2 rx ry q) hm
/-- a reading of a value as a test -/
def tTest (t : TE) : TT := fun σ H Q => t σ H fun x H' => ∃ k, x = .bl k ∧ Q k H'
theorem pt_cmpR {op : CmpOp} {r : R2} (ho : OpR X (compareOp op) r) (ha : PE X a ta) (hb : PE X b tb) (hm : behindInMarks op b = false) : PT X (.Compare a [op] [b] pos) (tTest (tOp r ta tb)) := by
  intro pins s σ H Q I h
  refine wpAny_isTrue_Compare1 (thn (ha pins s σ H _ I h) fun v s1 ⟨x, H1, I1, r1, q1⟩ => thn (hb pins s1 σ H1 _ I1 q1) fun u s2 ⟨y, H2, I2, r2, q2⟩ =>
    thn (ho pins s2 σ H2 x y v u _ I2 r1 r2 q2) fun c s3 ⟨z, H3, I3, r3, k, e, q3⟩ => ?_) hm
  subst e
  cases r3
  exact wpAny_truthy_bool ⟨H3, I3, q3⟩

/-! ### truth -/
/-- a value's truth by the abstract heap -/
def TruV (K : PySem.W.Frag) (x : V) (H : Hp) (k : Bool) : Prop :=
  match x with
  | .non => k = false
  | .bl b => k = b
  | .int i => k = (i != 0)
  | .str y => y.length ≤ sizeLine ∧ k = ((y.length : Int) != 0)
  | .byt y => y.size ≤ sizeLine ∧ k = ((y.size : Int) != 0)
  | .ref p => (∃ xs, SqL K H p xs ∧ k = !xs.isEmpty) ∨ (∃ xs, SqT K H p xs ∧ k = !xs.isEmpty) ∨ ∃ kvs, H p = some (.dK kvs) ∧ k = !kvs.isEmpty
  | _ => False
theorem isEmpty_kv {κ : Type} {kvs : List (κ × V)} {vs : List (κ × Value)} (r : KV kvs vs) : (!vs.isEmpty) = !kvs.isEmpty := by
  cases r <;> rfl
theorem isEmpty_of {xs : List V} {its : List Value} (r : Vals xs its) : (!its.toArray.isEmpty) = !xs.isEmpty := by
  cases r <;> simp
theorem line63 : (sizeLine : Nat) < 2 ^ 63 := by rw [sizeLine_eq]; decide
theorem tru_ok : TruR X (fun x H Q => ∃ k, TruV X.K x H k ∧ Q k H) := by
  intro pins s σ H x v Q I rx h
  obtain ⟨k, e, q⟩ := h
  have hl := line63
  have hs : sizeLine = 16777216 := sizeLine_eq
  cases x with
  | non =>
    cases rx
    have e' : k = false := e
    subst e'
    exact truthy_none ⟨H, I, q⟩
  | bl b =>
    cases rx
    have e' : k = b := e
    subst e'
    exact wpAny_truthy_bool ⟨H, I, q⟩
  | int i =>
    obtain ⟨t, rfl⟩ := rx
    have e' : k = (i != 0) := e
    subst e'
    exact PySem.P.truthy_int ⟨H, I, q⟩
  | str y =>
    obtain ⟨t, rfl⟩ := rx
    obtain ⟨hy, e'⟩ : y.length ≤ sizeLine ∧ k = ((y.length : Int) != 0) := e
    subst e'
    exact PySem.P.truthy_str (by omega) ⟨H, I.tok _, q⟩
  | byt y =>
    obtain ⟨t, rfl⟩ := rx
    obtain ⟨hy, e'⟩ : y.size ≤ sizeLine ∧ k = ((y.size : Int) != 0) := e
    subst e'
    exact PySem.W.truthy_bytes (by omega) ⟨H, I.tok _, q⟩
  | ref p =>
    cases rx
    have e' : (∃ xs, SqL X.K H p xs ∧ k = !xs.isEmpty) ∨ (∃ xs, SqT X.K H p xs ∧ k = !xs.isEmpty) ∨ ∃ kvs, H p = some (.dK kvs) ∧ k = !kvs.isEmpty := e
    rcases e' with ⟨xs, hx, e'⟩ | ⟨xs, hx, e'⟩ | ⟨kvs, hx, e'⟩
    · subst e'
      obtain ⟨its, r, pl, hz⟩ := I.list hx
      have hlen := r.length
      exact wpAny_truthy_list pl.isList (by simp only [List.size_toArray]; omega) ⟨H, I.tok _, by rw [isEmpty_of r]; exact q⟩
    · subst e'
      obtain ⟨its, r, pl, hz⟩ := I.tuple hx
      have hlen := r.length
      exact truthy_tuple pl (by simp only [List.size_toArray]; omega) ⟨H, I.tok _, by rw [isEmpty_of r]; exact q⟩
    · subst e'
      obtain ⟨hz, hS, vs, r, m⟩ : kvs.length ≤ sizeLine ∧ (p == sysModules) = false ∧ ∃ vs, KV kvs vs ∧ s.heap.DictOf (mixKind X.prog X.w) p vs := I.hok p _ hx
      have hlen : kvs.length = vs.length := Paired.length r
      exact wpAny_truthy_dict hS m (by omega) ⟨H, I.tok _, by rw [isEmpty_kv r]; exact q⟩
  | _ => exact (show False from e).elim
/-- any expression whose test is its value's truth (a name, a call, a subscript, a field ..: he by fun _ => rfl) -/
theorem pt_truth (ha : PE X a ta) (he : ∀ whole, isTrue a X.env whole = (do let v ← whole; standAt a.pos; holding [v] (truthy v))) :
    PT X a (fun σ H Q => ta σ H fun x H' => ∃ k, TruV X.K x H' k ∧ Q k H') := by
  intro pins s σ H Q I h
  exact isTrue_plain (thn (ha pins s σ H _ I h) fun v s1 ⟨x, H1, I1, r1, q1⟩ => tru_ok pins s1 σ H1 x v Q I1 r1 q1) (he _)

/-! ### strs and bytes -/
theorem op_add_str : OpR X (binaryOp .Add) (fun x y H Q => ∃ i j, x = .str i ∧ y = .str j ∧ i.length + j.length ≤ sizeLine ∧ Q (.str (i ++ j)) H) := by
  intro pins s σ H x y v u Q I rx ry h
  obtain ⟨i, j, rfl, rfl, hz, q⟩ := h
  obtain ⟨t, rfl⟩ := rx
  obtain ⟨t', rfl⟩ := ry
  exact add_str (fun t' tk => ⟨.str (i ++ j), H, I.tok _, ⟨_, rfl⟩, q⟩) hz


/-! ### scalar builtins, by CallR -/
theorem vals1 {x : V} {us : List Value} (r : Vals [x] us) : ∃ u, us = [u] ∧ RelV x u := by
  cases r with
  | cons r1 r2 => cases r2; exact ⟨_, rfl, r1⟩
theorem vals2 {x y : V} {us : List Value} (r : Vals [x, y] us) : ∃ u w', us = [u, w'] ∧ RelV x u ∧ RelV y w' := by
  cases r with
  | cons r1 r2 =>
    cases r2 with
    | cons r3 r4 => cases r4; exact ⟨_, _, rfl, r1, r3⟩
theorem call_int1 : CallR X (.type "int") (fun xs H Q => (∃ i, xs = [.int i] ∧ Q (.int i) H) ∨ ∃ k, xs = [.bl k] ∧ Q (.int (if k then 1 else 0)) H) := by
  intro pins s σ H xs us Q I r h
  rcases h with ⟨i, rfl, q⟩ | ⟨k, rfl, q⟩
  · obtain ⟨u, rfl, t, rfl⟩ := vals1 r
    exact call_int_int ⟨.int i, H, I, ⟨_, rfl⟩, q⟩
  · obtain ⟨u, rfl, r1⟩ := vals1 r
    cases r1
    exact call_int_bool ⟨.int (if k then 1 else 0), H, I.tok _, ⟨_, rfl⟩, q⟩
/-- len of a str, a bytes, a list, a tuple -/
def LenV (K : PySem.W.Frag) (x : V) (H : Hp) (n : Nat) : Prop :=
  match x with
  | .str y => y.length ≤ sizeLine ∧ n = y.length
  | .byt y => y.size ≤ sizeLine ∧ n = y.size
  | .ref p => (∃ xs, SqL K H p xs ∧ n = xs.length) ∨ ∃ xs, SqT K H p xs ∧ n = xs.length
  | _ => False
theorem call_len : CallR X (.builtin "len") (fun xs H Q => ∃ x n, xs = [x] ∧ LenV X.K x H n ∧ Q (.int n) H) := by
  intro pins s σ H xs us Q I r h
  obtain ⟨x, n, rfl, e, q⟩ := h
  obtain ⟨u, rfl, rx⟩ := vals1 r
  have hl := line63
  have hs : sizeLine = 16777216 := sizeLine_eq
  cases x with
  | str y =>
    obtain ⟨t, rfl⟩ := rx
    obtain ⟨hy, e'⟩ : y.length ≤ sizeLine ∧ n = y.length := e
    subst e'
    exact len_str (by omega) ⟨.int _, H, I.tok _, ⟨_, rfl⟩, q⟩
  | byt y =>
    obtain ⟨t, rfl⟩ := rx
    obtain ⟨hy, e'⟩ : y.size ≤ sizeLine ∧ n = y.size := e
    subst e'
    exact PySem.W.len_bytes (by omega) ⟨.int _, H, I.tok _, ⟨_, rfl⟩, q⟩
  | ref p =>
    cases rx
    have e' : (∃ xs, SqL X.K H p xs ∧ n = xs.length) ∨ ∃ xs, SqT X.K H p xs ∧ n = xs.length := e
    rcases e' with ⟨xs, hx, e'⟩ | ⟨xs, hx, e'⟩
    · subst e'
      obtain ⟨its, r', pl, hz⟩ := I.list hx
      have hlen := r'.length
      exact Calls.call_len_list pl.isList (by simp only [List.size_toArray]; omega) ⟨.int xs.length, H, I.tok _, ⟨_, by simp only [List.size_toArray]; rw [hlen]⟩, q⟩
    · subst e'
      obtain ⟨its, r', pl, hz⟩ := I.tuple hx
      have hlen := r'.length
      exact len_tuple pl (by simp only [List.size_toArray]; omega) ⟨.int xs.length, H, I.tok _, ⟨_, by simp only [List.size_toArray]; rw [hlen]⟩, q⟩
  | _ => exact (show False from e).elim
end
end L2

namespace L2
open PySem PySem.Spec PyProof.Rows

/-! ### an instance, its attributes a map -/
structure ObjM (h : Heap) (x dx C : Addr) (mA : Str → Option Value) : Prop where
  obj : h.get? x = some (PySem.W.instObj C dx)
  ns : h.Ns1 dx mA
  ne : dx ≠ x

theorem lookIn_ns {h : Heap} {dx : Addr} {mA : Str → Option Value} (n : h.Ns1 dx mA) : ∃ od, h.get? dx = some od ∧ ∀ name, PySem.W.lookIn name od = some (mA name) := by
  obtain ⟨o, es, ep, ho, hd, hk, _, hm⟩ := n
  refine ⟨o, ho, fun name => ?_⟩
  have e := hm name
  unfold nsFind findBy at e
  rw [← Array.find?_toList] at e
  unfold PySem.W.lookIn
  rw [hd]
  dsimp only
  split
  · rename_i y q
    rw [q] at e
    exact congrArg some e
  · rename_i q
    rw [q] at e
    have a : es.toList.any (·.refKey) = false := by
      rw [List.any_eq_false]
      intro y hy
      obtain ⟨z, t, hkey⟩ := hk y (Array.mem_toList_iff.mp hy)
      simp [DictEntry.refKey, hkey]
    have a' : ¬ es.toList.any (·.refKey) = true := by rw [a]; exact Bool.false_ne_true
    rw [if_neg a']
    exact congrArg some e

theorem ObjM.look {h : Heap} {x dx C : Addr} {mA : Str → Option Value} (I : ObjM h x dx C mA) : ∃ od, PySem.W.InstAt h x (PySem.W.instObj C dx) C (some od) ∧ ∀ name, PySem.W.lookIn name od = some (mA name) :=
  let ⟨od, ho, hl⟩ := lookIn_ns I.ns
  ⟨od, ⟨I.obj, rfl, rfl, ho⟩, hl⟩

section
variable {prog : Program} {w : World} {A : Around} {E : Value → Shared → Prop} {s : Shared} {K : PySem.W.Frag} {x dx C f : Addr} {mA : Str → Option Value} {name : Str} {v : Value}





end

/-! ### the attributes as a list of pairs -/


section
variable {P : Program} {w : World} {H H' : Hp} {h h' : Heap} {a C dx : Addr} {fs fs' : List (Str × V)}
theorem ins_get (hok : HOk P w H h) (e : H a = some (.ins C dx fs)) : ∃ mA, ObjM h a dx C mA ∧ (∀ f, RelO (fs.lookup f) (mA f)) ∧ PySem.Within mA (fs.map (·.1)) ∧ fs.length ≤ 1000 ∧ H dx = some (.own a) := by
  obtain ⟨d, z, ne, ob, mA, n, r, q⟩ := (show ObjOk P w H h a (.ins C dx fs) from hok a _ e)
  exact ⟨mA, ⟨ob, n, ne⟩, r, q, z, d⟩
end

/-! ### what of the text a class must have -/
structure Cls (K : PySem.W.Frag) (C : Addr) : Prop where
  pg : PySem.W.plainGet K C Str.empty = true
  hd : PySem.W.hasDictIn K C = true
  po : PySem.W.plainOver K C = true
  sa : PySem.W.findIn K (.ref C) "__setattr__" = some (some (.builtin "object.__setattr__"))
theorem Cls.get {K : PySem.W.Frag} {C : Addr} (c : Cls K C) (f : Str) : PySem.W.plainGet K C f = true := c.pg
/-- no class of it has the name -/
def NoAttr (K : PySem.W.Frag) (C : Addr) (f : Str) : Prop := PySem.W.findIn K (.ref C) f = some none
/-- a method: a plain def of the class or of one above it -/
structure Meth (K : PySem.W.Frag) (C : Addr) (m : Str) (f : Addr) : Prop where
  at_ : PySem.W.findIn K (.ref C) m = some (some (.ref f))
  fn : PySem.W.isFn K (.ref f) = true
  kp : PySem.W.keepIn K (.ref f) = true

section
variable {X : Cx} {pins : List (Addr × Obj)} {σ : St} {H : Hp} {s : Shared} {a C dx : Addr} {fs : List (Str × V)} {f : Str} {v : V} {A : Around} {E : Value → Shared → Prop}






end

/-! ### readings and rules -/

section
variable {X : Cx} {o e value : Expr} {f : Str} {pos pos' tpos : Pos} {ta tv : TE}

end

/-! ### isinstance -/
section
variable {X : Cx} {pins : List (Addr × Obj)} {σ : St} {H : Hp} {s : Shared} {A : Around} {E : Value → Shared → Prop} {Q : Value → Shared → Prop} {c : Value} {b : Bool}
/-- the type of a value, as the fragment's deciders take it; for an instance its class -/
inductive TyOf (K : PySem.W.Frag) (H : Hp) : V → Value → Prop where
  | non : TyOf K H .non (.type "NoneType")
  | bl (x : Bool) : TyOf K H (.bl x) (.type "bool")
  | int (i : Int) : TyOf K H (.int i) (.type "int")
  | str (x : Str) : TyOf K H (.str x) (.type "str")
  | flt (x : UInt64) : TyOf K H (.flt x) (.type "float")
  | lst {a : Addr} {xs : List V} (e : H a = some (.lst xs)) : TyOf K H (.ref a) (.type "list")
  | frz {a : Addr} {o : Obj} {xs : List V} (e : H a = some (.frz o (.lst xs))) : TyOf K H (.ref a) (.type "list")
  | tup {a : Addr} {xs : List V} (e : H a = some (.tup xs)) : TyOf K H (.ref a) (.type "tuple")
  | dK {a : Addr} {kvs : List (Key × V)} (e : H a = some (.dK kvs)) : TyOf K H (.ref a) (.type "dict")
  | dT {a : Addr} {kvs : List (List Key × V)} (e : H a = some (.dT kvs)) : TyOf K H (.ref a) (.type "dict")
  | ins {a C dx : Addr} {fs : List (Str × V)} (e : H a = some (.ins C dx fs)) (cl : Cls K C) (ha : PySem.W.findIn K (.ref C) "__class__" = some (some (.builtin "object.__class__")))
      (hn : PySem.W.specialIn K (.builtin "object.__class__") "__get__" = some (some (.builtin "getset_descriptor.__get__"))) (htk : PySem.W.takesIn K (.builtin "object.__class__") = some true)
      (hm : PySem.W.mroIn K C (.type "object") = some true) : TyOf K H (.ref a) (.ref C)
/-- isinstance(x, c) for one class c, a built-in or an own one: kitOne's answer -/
theorem isinst_ok {x : V} {u t : Value} (I : Inv X pins σ H s) (rx : RelV x u) (ty : TyOf X.K H x t) (e : PySem.W.kitOne X.K t c = some b) (h : ∀ tk, Q (.bool b) { s with toks := tk }) :
    wpAny (model X.prog X.w) A (call (.builtin "isinstance") [u, c]) Q E s := by
  cases ty with
  | non => cases (show u = Value.none from rx); exact PySem.W.kia_one PySem.W.kitx_none I.kIn True.intro e (fun z => nomatch z) h
  | bl y => cases (show u = Value.bool y from rx); exact PySem.W.kia_one PySem.W.kitx_bool I.kIn True.intro e (fun z => nomatch z) h
  | int i => obtain ⟨t, q⟩ := (show ∃ t, u = Value.int i t from rx); cases q; exact PySem.W.kia_one PySem.W.kitx_int I.kIn True.intro e (fun z => nomatch z) h
  | str y => obtain ⟨t, q⟩ := (show ∃ t, u = Value.str y t from rx); cases q; exact PySem.W.kia_one PySem.W.kitx_str I.kIn True.intro e (fun z => nomatch z) h
  | flt y => obtain ⟨t, q⟩ := (show ∃ t, u = Value.float y t from rx); cases q; exact PySem.W.kia_one PySem.W.kitx_float I.kIn True.intro e (fun z => nomatch z) h
  | @lst a xs ea =>
    cases (show u = Value.ref a from rx)
    obtain ⟨_, _, n, _, h1⟩ := (show ObjOk X.prog X.w H s.heap a (.lst xs) from I.hok a _ ea)
    exact PySem.W.kia_one PySem.W.kitx_list I.kIn ⟨_, h1, rfl⟩ e (fun z => nomatch z) h
  | @frz a ob xs ea =>
    cases (show u = Value.ref a from rx)
    obtain ⟨_, _, _, n, _, h1⟩ := (show ObjOk X.prog X.w H s.heap a (.frz ob (.lst xs)) from I.hok a _ ea)
    exact PySem.W.kia_one PySem.W.kitx_list I.kIn ⟨_, h1, rfl⟩ e (fun z => nomatch z) h
  | @tup a xs ea =>
    cases (show u = Value.ref a from rx)
    obtain ⟨_, _, _, p⟩ := (show ObjOk X.prog X.w H s.heap a (.tup xs) from I.hok a _ ea)
    obtain ⟨o, h1, h2, _⟩ := p
    exact PySem.W.kia_one PySem.W.kitx_tuple I.kIn ⟨o, h1, h2⟩ e (fun z => nomatch z) h
  | @dK a kvs ea =>
    cases (show u = Value.ref a from rx)
    obtain ⟨_, _, vs, _, p⟩ := (show ObjOk X.prog X.w H s.heap a (.dK kvs) from I.hok a _ ea)
    obtain ⟨o, es, ep, h1, h2, _⟩ := p
    exact PySem.W.kia_one PySem.W.kitx_dict I.kIn ⟨o, h1, h2.1⟩ e (fun z => nomatch z) h
  | @dT a kvs ea =>
    cases (show u = Value.ref a from rx)
    obtain ⟨_, _, xs, _, o, es, ep, h1, h2, _⟩ := (show ObjOk X.prog X.w H s.heap a (.dT kvs) from I.hok a _ ea)
    exact PySem.W.kia_one PySem.W.kitx_dict I.kIn ⟨o, h1, h2.1⟩ e (fun z => nomatch z) h
  | @ins a C dx fs ea cl ha hn htk hm =>
    cases (show u = Value.ref a from rx)
    obtain ⟨mA, O, _⟩ := ins_get I.hok ea
    obtain ⟨od, J, _⟩ := O.look
    exact PySem.W.kia_one (PySem.W.kitx_own (cl.get _) cl.hd ha hn htk hm) I.kIn J e (fun z => nomatch z) h
end
end L2

namespace L2
open PySem PySem.Spec PyProof.Rows

/-! ### room -/
structure Room (k : Nat) (A : Around) : Prop where
  hd : A.handled = none
  dp : A.depth + 3 * k + 5 < recursionLimit
  un : A.units + 16 * k + 200 < cLine
theorem Room.mono {j k : Nat} {A : Around} (r : Room k A) (h : j ≤ k) : Room j A := ⟨r.hd, by have := r.dp; omega, by have := r.un; omega⟩
theorem Room.deeper {k : Nat} {A : Around} (r : Room (k + 1) A) (env : Env) : Room k (A.deeper env) :=
  ⟨r.hd, by have := r.dp; show A.depth + 1 + 3 * k + 5 < _; omega, by have := r.un; show A.units + 3 + 16 * k + 200 < _; omega⟩
theorem Room.depth {k : Nat} {A : Around} (r : Room k A) : A.depth < recursionLimit := by have := r.dp; omega
theorem Room.units {k : Nat} {A : Around} (r : Room k A) : A.units + 64 < cLine := by have := r.un; omega

/-! ### argument lists and displays -/
def tNil : TA := fun _ H Q => Q [] H
def tCons (ta : TE) (tr : TA) : TA := fun σ H Q => ta σ H fun x H1 => tr σ H1 fun xs H2 => Q (x :: xs) H2
section
variable {X : Cx} {e : Expr} {es : List Expr} {te : TE} {t : TA} {pos : Pos}
theorem pa_nil : PA X [] tNil := fun _ _ _ _ H Q I h => Calls.spliced_nil ⟨[], H, I, .nil, h⟩
theorem pa_cons (ha : PE X e te) (hr : PA X es t) (hs : starEach (e :: es) X.env = (false, eval e X.env) :: starEach es X.env := by rfl) : PA X (e :: es) (tCons te t) := by
  intro pos pins s σ H Q I h
  rw [hs]
  show wpAny _ _ (spliced ((false, eval e X.env) :: backTo pos (starEach es X.env))) _ _ s
  refine Calls.spliced_cons (thn (ha pins s σ H _ I h) fun u s1 ⟨x, H1, I1, r1, q1⟩ => ?_)
  exact thn (hr pos pins s1 σ H1 _ I1 q1) fun us s2 ⟨xs, H2, I2, r2, q2⟩ => ⟨x :: xs, H2, I2, .cons r1 r2, q2⟩

/-- a tuple, a list of written items -/
def tTup (t : TA) : TE := fun σ H Q => t σ H fun xs H1 => xs.length ≤ sizeLine ∧ ∀ p, H1 p = none → Q (.ref p) (upd H1 p (.tup xs))
def tLst (t : TA) : TE := fun σ H Q => t σ H fun xs H1 => xs.length ≤ sizeLine ∧ ∀ p, H1 p = none → Q (.ref p) (upd H1 p (.lst xs))
theorem pe_tup {x1} (h : PA X es t) : PE X (.Tuple es x1 pos) (tTup t) := by
  intro pins s σ H Q I hq
  refine wpAny_Tuple_spliced (thn (h pos pins s σ H _ I hq) fun us s1 ⟨xs, H1, I1, r, z, q⟩ => ⟨by rw [← r.length]; exact z, ?_⟩)
  have hf : H1 s1.heap.objs.size = none := I1.hok.fresh (Nat.le_refl _)
  refine ⟨.ref s1.heap.objs.size, upd H1 s1.heap.objs.size (.tup xs), I1.laid (t' := s1.toks) (fun b u e => Heap.get?_push_of_some _ e) (Nat.le_refl _) ?_, rfl, q _ hf⟩
  exact ⟨z, us, r, ⟨_, Heap.get?_push_size _ rfl, rfl, _, rfl⟩⟩
theorem pe_lst (h : PA X es t) : PE X (.List es pos) (tLst t) := by
  intro pins s σ H Q I hq
  refine wpAny_List_spliced (thn (h pos pins s σ H _ I hq) fun us s1 ⟨xs, H1, I1, r, z, q⟩ => ⟨by rw [← r.length]; exact z, ?_⟩)
  have hf : H1 s1.heap.objs.size = none := I1.hok.fresh (Nat.le_refl _)
  refine ⟨.ref s1.heap.objs.size, upd H1 s1.heap.objs.size (.lst xs), I1.laid (t' := s1.toks) (fun b u e => Heap.get?_push_of_some _ e) (Nat.le_refl _) ?_, rfl, q _ hf⟩
  exact ⟨z, us, 0, r, Heap.get?_push_size _ rfl⟩
end

/-! ### what a def promises -/
/-- a def's promise: the bound arguments in the parameters' order, the heap, the wanted end, the wanted exception -/
abbrev Sp := List V → Hp → VK → XK → Prop
/-- how an exception lies behind a call (file 08 gives it): the callers' frames, abstract heap and state ahead of the call, the wish, the exception, the state -/
abbrev CXT := List Env → Hp → Shared → XK → Value → Shared → Prop

/-- the state at a call -/
structure Env0 (P : Program) (w : World) (K : PySem.W.Frag) (mg : Str → Option Value) (base : Heap) (A : Around) (outer : List Env) (s : Shared) (H : Hp) : Prop where
  frames : A.frames = some outer
  mod : Mod K mg base
  bs : ∀ b o, base.get? b = some o → s.heap.get? b = some o ∧ H b = none
  bsz : base.objs.size ≤ s.heap.objs.size
  funs : s.heap.FunFrames base outer
  frf : ∀ b ∈ frs outer, H b = none
  hok : HOk P w H s.heap
  bare : AllBare s.gens
/-- a call's end -/
def CE (outer : List Env) (P : Program) (w : World) (H : Hp) (s : Shared) (Q : VK) (u : Value) (s' : Shared) : Prop :=
  ∃ v H', s'.os = s.os ∧ AllBare s'.gens ∧ Un (frs outer) [] H H' s.heap s'.heap ∧ HOk P w H' s'.heap ∧ RelV v u ∧ Q v H'
def CR (CX : CXT) (outer : List Env) (P : Program) (w : World) (H : Hp) (s : Shared) (Q : VK) (E : XK) (r : Result) (s' : Shared) : Prop :=
  match r with
  | .ok (.ret u) => CE outer P w H s Q u s'
  | .ok _ => False
  | .error e => CX outer H s E e s'
structure FnOk (P : Program) (w : World) (K : PySem.W.Frag) (mg : Str → Option Value) (base : Heap) (CX : CXT) (k : Nat) (f : Addr) (fd : FuncData) (ps : List Str) (sp : Sp) : Prop where
  len : ∀ vs H Q E, sp vs H Q E → vs.length = ps.length
  run : ∀ (A : Around) (outer : List Env) (s : Shared) (H : Hp) (args : Args) (us : List Value) (vs : List V) (Q : VK) (E : XK), Room k A → Env0 P w K mg base A outer s H → BindsTo s fd args (ps.zip us) → Vals vs us → sp vs H Q E →
    codeAny (model P w) A (.call (.ref f) args) (CR CX outer P w H s Q E) s
theorem FnOk.mono {P : Program} {w : World} {K : PySem.W.Frag} {mg : Str → Option Value} {base : Heap} {CX : CXT} {j k : Nat} {f : Addr} {fd : FuncData} {ps : List Str} {sp : Sp} (F : FnOk P w K mg base CX j f fd ps sp) (h : j ≤ k) :
    FnOk P w K mg base CX k f fd ps sp := ⟨F.len, fun A outer s H args us vs Q E hr => F.run A outer s H args us vs Q E (hr.mono h)⟩


section
variable {X : Cx} {pins : List (Addr × Obj)} {σ : St} {H : Hp} {s s' : Shared}
/-- from a body: what a callee wants -/
theorem Inv.env0 (I : Inv X pins σ H s) : Env0 X.prog X.w X.K X.mg X.base X.A X.stack s H :=
  ⟨I.ok.frames, I.ok.mod, I.bs, Nat.le_trans I.ok.bsz I.sz, I.stack, I.stkFree, I.hok, I.bare⟩
/-- behind a call -/
theorem Inv.after {Q : VK} {u : Value} (I : Inv X pins σ H s) (h : CE X.stack X.prog X.w H s Q u s') : EP X pins σ Q u s' := by
  obtain ⟨v, H', os, bare, un, hok, r, q⟩ := h
  obtain ⟨hh, g, d, t, os'⟩ := s'
  obtain rfl : os' = s.os := os
  exact ⟨v, H', I.call (h' := hh) (g' := g) (d' := d) (t' := t) (ch := []) un hok bare (fun b z => absurd z (by simp)), r, q⟩
end

/-! ### calls -/
/-- f(..): the written arguments, then the defaults dvs; E: what is wanted of an exception -/
def tCall (sp : Sp) (dvs : List V) (E : XK) (t : TA) : TE := fun σ H Q => t σ H fun vs H1 => sp (vs ++ dvs) H1 Q E

/-- how the parameters are bound: us the positional arguments, kw the keywords' values by name, ds the defaults that fill up -/
def Binds (K : PySem.W.Frag) (fd : FuncData) (ps : List Str) (ds : List Value) : Prop :=
  ∀ (s : Shared) (us : List Value), K.In s.heap → (us ++ ds).length = ps.length → BindsTo s fd ⟨us, []⟩ (ps.zip (us ++ ds))
/-- every parameter is given -/
theorem Binds.all {K : PySem.W.Frag} {fd : FuncData} {ps : List Str} (h : ∀ us : List Value, us.length = ps.length → bindArgs fd ⟨us, []⟩ = pure (ps.zip us)) : Binds K fd ps [] := fun s us _ hl => by
  rw [List.append_nil] at hl ⊢
  exact .of_eq (h us hl)

/-- an exception of a callee reaches what this body wants of exceptions -/
def Passes (CX : CXT) (X : Cx) (E : XK) : Prop := ∀ (pins : List (Addr × Obj)) (σ : St) (H : Hp) (s : Shared) (e : Value) (s' : Shared), Inv X pins σ H s → CX X.stack H s E e s' → X.xe e s'

section
variable {X : Cx} {CX : CXT} {k : Nat} {f C : Addr} {fd : FuncData} {ps : List Str} {sp : Sp} {dvs : List V} {ds : List Value} {E : XK} {x m : Str} {p pos apos : Pos} {e o : Expr} {es : List Expr} {ta : TE} {t : TA}

/-- the callee runs -/
theorem run_fn {pins : List (Addr × Obj)} {σ : St} {H : Hp} {s : Shared} {Q : VK} {us : List Value} {vs : List V} (F : FnOk X.prog X.w X.K X.mg X.base CX k f fd ps sp) (hr : Room k X.A) (hb : Binds X.K fd ps ds) (hd : Vals dvs ds) (hx : Passes CX X E)
    (I : Inv X pins σ H s) (r : Vals vs us) (h : sp (vs ++ dvs) H Q E) : wpAny (model X.prog X.w) X.A (call (.ref f) us) (EP X pins σ Q) X.xe s := by
  have r2 : Vals (vs ++ dvs) (us ++ ds) := r.append hd
  have hl : (us ++ ds).length = ps.length := by rw [← r2.length]; exact F.len _ _ _ _ h
  refine wpAny_call (codeAny_mono (F.run X.A X.stack s H ⟨us, []⟩ (us ++ ds) (vs ++ dvs) Q E hr I.env0 (hb s us I.kIn hl) r2 h) fun r s' hq => ?_)
  cases r with
  | error e => exact hx pins σ H s e s' I hq
  | ok fl =>
    cases fl with
    | ret u => exact I.after hq
    | next => exact False.elim hq
    | brk => exact False.elim hq
    | cont => exact False.elim hq

theorem pe_call (F : FnOk X.prog X.w X.K X.mg X.base CX k f fd ps sp) (hr : Room k X.A) (hg : Gl X x) (hm : X.mg x = some (.ref f)) (hk : PySem.W.keepIn X.K (.ref f) = true) (hb : Binds X.K fd ps ds) (hd : Vals dvs ds) (hx : Passes CX X E)
    (ha : PA X (e :: es) t) (hdb : (x == ("__debug__" : Str)) = false := by decide) (he : starEach (e :: es) X.env = (false, eval e X.env) :: starEach es X.env := by rfl) (hpl : (backTo pos (starEach es X.env)).any (·.1) = false := by rfl) :
    PE X (.Call (.Name x p) (e :: es) [] pos) (tCall sp dvs E t) := by
  intro pins s σ H Q I h
  refine wpAny_Call_Name_kw (ld_glob I hg hm ?_ hdb)
  refine PySem.W.callWith_K (h₀ := X.base) I.ok.mod.kin hk (thn (ha pos pins s σ H _ I h) fun us s1 ⟨vs, H1, I1, r, q⟩ => ⟨I1.kIn, ?_⟩) he hpl
  exact run_fn F hr hb hd hx I1 r q


/-- what a class must have to be made -/
structure Mk (K : PySem.W.Frag) (C f : Addr) : Prop where
  makes : PySem.W.makesIn K C = true
  init : PySem.W.findIn K (.ref C) "__init__" = some (some (.ref f))
  fn : PySem.W.isFn K (.ref f) = true
  kp : PySem.W.keepIn K (.ref C) = true

end

/-! ### keywords -/
section
variable {X : Cx} {CX : CXT} {k : Nat} {f C : Addr} {fd : FuncData} {ps ks : List Str} {sp : Sp} {E : XK} {x m : Str} {p pos apos kpos : Pos} {e o : Expr} {es : List Expr} {kws : List Keyword} {te ta : TE} {t tk : TA} {nm : Option Str}

variable {g : List Value → List Value → List Value} {gV : List V → List V → List V}
end

/-! ### a def's body keeps its promise -/
/-- names: the parameters first -/
structure FnScope (N P : List Str) (sc : Scope) : Prop where
  kind : sc.kind = .function
  co : sc.isCoroutine = false
  gen : sc.isGenerator = false
  nd : N.Nodup
  pre : N.take P.length = P
  par : ∀ x ∈ P, sc.names.lookup x = some .local ∨ sc.names.lookup x = some .cell
  nofree : ∀ y ∈ sc.names, y.2 ≠ .free

theorem bindL_out {kindOf : Str → Option NameKind} {x : Str} : ∀ {binds : List (Str × Value)} {m : Str → Option Value}, (∀ v, (x, v) ∉ binds) → bindL kindOf binds m x = m x
  | [], _, _ => rfl
  | (n, v) :: r, m, h => by
    unfold bindL
    rw [bindL_out fun w hw => h w (List.mem_cons_of_mem _ hw)]
    split
    · have : x ≠ n := by rintro rfl; exact h v List.mem_cons_self
      simp [this]
    · rfl
theorem bindC_out {kindOf : Str → Option NameKind} {x : Str} : ∀ {binds : List (Str × Value)} {m : Str → Option Value}, (∀ v, (x, v) ∉ binds) → bindC kindOf binds m x = m x
  | [], _, _ => rfl
  | (n, v) :: r, m, h => by
    unfold bindC
    rw [bindC_out fun w hw => h w (List.mem_cons_of_mem _ hw)]
    split
    · rfl
    · have : x ≠ n := by rintro rfl; exact h v List.mem_cons_self
      simp [this]
theorem bindL_get {kindOf : Str → Option NameKind} {x : Str} {v : Value} : ∀ {P : List Str} {vs : List Value} {i : Nat} {m : Str → Option Value}, P.Nodup → P[i]? = some x → vs[i]? = some v → kindOf x = some .local →
    bindL kindOf (P.zip vs) m x = some v
  | [], _, _, _, _, h, _, _ => by simp at h
  | _ :: _, [], _, _, _, _, h, _ => by simp at h
  | p :: P, w :: vs, 0, m, nd, h1, h2, hk => by
    simp at h1 h2; subst h1; subst h2
    show bindL kindOf ((p, w) :: P.zip vs) m p = _
    unfold bindL
    rw [bindL_out fun v hv => (List.nodup_cons.mp nd).1 (List.of_mem_zip hv).1, if_pos hk]
    simp
  | p :: P, w :: vs, i + 1, m, nd, h1, h2, hk => by
    show bindL kindOf ((p, w) :: P.zip vs) m x = _
    unfold bindL
    exact bindL_get (i := i) (List.nodup_cons.mp nd).2 (by simpa using h1) (by simpa using h2) hk
theorem bindC_get {kindOf : Str → Option NameKind} {x : Str} {v : Value} : ∀ {P : List Str} {vs : List Value} {i : Nat} {m : Str → Option Value}, P.Nodup → P[i]? = some x → vs[i]? = some v → kindOf x ≠ some .local →
    bindC kindOf (P.zip vs) m x = some v
  | [], _, _, _, _, h, _, _ => by simp at h
  | _ :: _, [], _, _, _, _, h, _ => by simp at h
  | p :: P, w :: vs, 0, m, nd, h1, h2, hk => by
    simp at h1 h2; subst h1; subst h2
    show bindC kindOf ((p, w) :: P.zip vs) m p = _
    unfold bindC
    rw [bindC_out fun v hv => (List.nodup_cons.mp nd).1 (List.of_mem_zip hv).1, if_neg hk]
    simp
  | p :: P, w :: vs, i + 1, m, nd, h1, h2, hk => by
    show bindC kindOf ((p, w) :: P.zip vs) m x = _
    unfold bindC
    exact bindC_get (i := i) (List.nodup_cons.mp nd).2 (by simpa using h1) (by simpa using h2) hk

/-- the names' values at the entry -/
def start (N : List Str) (vs : List V) : St := vs.map some ++ List.replicate (N.length - vs.length) none

/-- the context of a def's body, at its entry; an exception leaves the frame, then lies as CX says -/
def cxOf (CX : CXT) (P : Program) (w : World) (K : PySem.W.Frag) (mg : Str → Option Value) (base : Heap) (N : List Str) (qual : Str) (scope : Scope) (f : Addr) (cd : Value) (A : Around) (outer : List Env) (s : Shared) (H : Hp) (E : XK) : Cx where
  prog := P
  w := w
  K := K
  mg := mg
  base := base
  A := A.deeper (envOfC qual scope s.heap.objs.size f cd)
  N := N
  s₀ := s
  H₀ := H
  env := envOfC qual scope s.heap.objs.size f cd
  outer := outer
  stack := envOfC qual scope s.heap.objs.size f cd :: outer
  ex := []
  calm := true
  fn := fun _ => true
  pn := []
  xe := fun e s' => wpAny (model P w) (A.deeper (envOfC qual scope s.heap.objs.size f cd)) (leaving (envOfC qual scope s.heap.objs.size f cd) e) (fun _ s'' => CX outer H s E e s'') (fun e' s'' => CX outer H s E e' s'') s'

theorem cell_has {sc : Scope} {n : Nat} {x : Str} (h : sc.names.lookup x = some .cell) : ∃ c, (cellsFrom n sc.names []).lookup x = some c := by
  have q := PySem.W.cellsFrom_some sc.names n [] (.inl h)
  exact Option.isSome_iff_exists.mp q

theorem inv_start {CX : CXT} {P : Program} {w : World} {K : PySem.W.Frag} {mg : Str → Option Value} {base : Heap} {N ps : List Str} {qual : Str} {scope : Scope} {f : Addr} {cd : Value} {A : Around} {outer : List Env} {s s1 : Shared} {H : Hp} {E : XK} {us : List Value} {vs : List V}
    (S : FnScope N ps scope) (hd : A.handled = none) (e0 : Env0 P w K mg base A outer s H) (hl : vs.length = ps.length) (r : Vals vs us)
    (x : InCallC s s.heap.objs.size (bindL (envOfC qual scope s.heap.objs.size f cd).kindOf (ps.zip us) fun _ => none) (cellsFrom (s.heap.objs.size + 1) scope.names []) (bindC (envOfC qual scope s.heap.objs.size f cd).kindOf (ps.zip us) fun _ => none) s1) :
    Inv (cxOf CX P w K mg base N qual scope f cd A outer s H E) [] (start N vs) H s1 := by
  have hpl : ps.length ≤ N.length := by have := congrArg List.length S.pre; rw [List.length_take] at this; omega
  obtain ⟨h1, tk, rfl, hk⟩ := x.done
  have noA : ∀ b : Addr, b ∉ (cxOf CX P w K mg base N qual scope f cd A outer s H E).ex := fun b z => absurd (show b ∈ ([] : List Addr) from z) (by simp)
  refine ⟨⟨e0.mod, S.kind, rfl, rfl, Nat.le_refl _, fun y z c h1 h2 => ?_, fun y hy => ?_, fun y c _ h => ?_, fun _ => hd, Around.frames_deeper e0.frames, .inr ⟨rfl, rfl⟩, fun b z => absurd z (noA b), e0.bs, e0.bsz, fun b _ _ => noA b, fun b z => absurd z (noA b), e0.funs, e0.frf⟩,
    rfl, e0.bare, Un.kept hk, ⟨_, x.toInCall.ns, fun i y v h1 h2 h3 => ?_⟩, fun y c h => ⟨_, x.cell y c h⟩, e0.hok.fresh (Nat.le_refl _), fun y c h => ?_, fun p hp => absurd (show p ∈ ([] : List (Addr × Obj)) from hp) (by simp), e0.hok.kept hk, ?_⟩
  · exact name_of_addr x.apart (PySem.mem_of_lookup h1) (PySem.mem_of_lookup h2)
  · have hy : scope.names.lookup y = some .cell ∨ scope.names.lookup y = some .free := hy
    rcases hy with hy | hy
    · exact cell_has hy
    · exact absurd rfl (S.nofree _ (PySem.mem_of_lookup hy))
  · exact Nat.le_of_lt (x.above y c (PySem.mem_of_lookup h))
  · have hi : i < vs.length := by
      unfold start at h2
      by_cases hi : i < vs.length
      · exact hi
      · rw [List.getElem?_append_right (by simpa using hi)] at h2
        rw [List.getElem?_replicate] at h2
        split at h2 <;> cases h2
    have ha : vs[i]? = some v := by
      unfold start at h2
      rw [List.getElem?_append_left (by simpa using hi), List.getElem?_map] at h2
      cases e : vs[i]? with
      | none => rw [e] at h2; cases h2
      | some a => rw [e] at h2; cases h2; rfl
    obtain ⟨u, hu, rv⟩ := r.get ha
    have hp : ps[i]? = some y := by
      rw [← S.pre, List.getElem?_take_of_lt (by omega)]; exact h1
    have ndP : ps.Nodup := by rw [← S.pre]; exact S.nd.sublist (List.take_sublist _ _)
    refine ⟨u, rv, ?_⟩
    rcases S.par y (List.mem_of_getElem? hp) with k | k
    · exact .inl ⟨k, bindL_get ndP hp hu k⟩
    · obtain ⟨c, e⟩ := cell_has (n := s.heap.objs.size + 1) k
      refine .inr ⟨.inl k, c, e, ?_⟩
      have q := x.cell y c e
      rw [bindC_get ndP hp hu (by show scope.names.lookup y ≠ _; rw [k]; decide)] at q
      exact q
  · exact e0.hok.fresh (Nat.le_of_lt (x.above y c (PySem.mem_of_lookup h)))
  · unfold start
    show _ = N.length
    rw [List.length_append, List.length_map, List.length_replicate]
    omega

/-- THE RULE: a def (or a method) of the text, by its body. The body's reading t is chosen for each entry; it is run at the parameters' values -/
theorem fn_of {CX : CXT} {P : Program} {w : World} {K : PySem.W.Frag} {mg : Str → Option Value} {base : Heap} {k : Nat} {f : Addr} {name qual : Str} {params : Arguments} {body : List Stmt} {scope : Scope} {dV kV doc pm cdv ct oc : Value} {an od : Option Addr}
    {osl : Array (Option Value)} {N ps : List Str} {sp : Sp} (lk : K.lookup f = some ⟨oc, od, .func (PySem.W.fnOf name qual params body scope dV kV doc pm an cdv ct), osl⟩) (hcd : PySem.W.codeIn K cdv qual = true) (S : FnScope N ps scope)
    (len : ∀ vs H Q E, sp vs H Q E → vs.length = ps.length)
    (hbody : ∀ (A : Around) (outer : List Env) (s : Shared) (H : Hp) (vs : List V) (Q : VK) (E : XK), Room k (A.deeper (envOfC qual scope s.heap.objs.size f cdv)) → sp vs H Q E →
      ∃ t, PSs (cxOf CX P w K mg base N qual scope f cdv A outer s H E) body t ∧ t { nx := fun _ H' => Q .non H', rt := Q } (start N vs) H) :
    FnOk P w K mg base CX (k + 1) f (PySem.W.fnOf name qual params body scope dV kV doc pm an cdv ct) ps sp := by
  refine ⟨len, fun A outer s H args us vs Q E hr e0 hb r hsp => ?_⟩
  have hl := len _ _ _ _ hsp
  have KX : K.In s.heap := e0.mod.kin.keeps fun b o e => (e0.bs b o e).1
  have lim : s.heap.NoLimit := e0.mod.nolimit.keeps fun b o e => (e0.bs b o e).1
  have hkind : ∀ y ∈ ps.zip us, scope.names.lookup y.1 = some .local ∨ (scope.names.lookup y.1 = some .cell ∧ ((cellsFrom (s.heap.objs.size + 1) scope.names []).lookup y.1).isSome = true) := fun ⟨n, v⟩ hy => by
    rcases S.par n (List.of_mem_zip hy).1 with q | q
    · exact .inl q
    · exact .inr ⟨q, PySem.W.cellsFrom_some _ _ _ (.inl q)⟩
  refine codeAny_call_function hr.depth (KX _ _ lk) rfl S.co S.gen rfl (PySem.W.codeRec_of KX hcd) (hb _ _ _ _ ?_)
  refine wpAny_newFunctionEnv_cells S.kind hkind fun env he s1 x => ?_
  subst he
  refine ⟨lim.keeps x.toInCall.keep, codeAny_func ?_⟩
  obtain ⟨t, ht, hq⟩ := hbody A outer s H vs Q E (hr.deeper _) hsp
  have I : Inv (cxOf CX P w K mg base N qual scope f cdv A outer s H E) [] (start N vs) H s1 := inv_start S hr.hd e0 hl r x
  refine wpAny_mono (ht [] s1 (start N vs) H _ I hq) (fun fl s' hs => ?_) fun e s' hs => hs
  have fin : ∀ {σ' : St} {H' : Hp} {v : V} {u : Value}, Inv (cxOf CX P w K mg base N qual scope f cdv A outer s H E) [] σ' H' s' → RelV v u → Q v H' → CE outer P w H s Q u s' :=
    fun {σ' H' v u} J rv q => ⟨v, H', J.os, J.bare, J.base, J.hok, rv, q⟩
  cases fl with
  | ret u =>
    obtain ⟨v, σ', H', J, rv, q⟩ := hs
    exact fin J rv q
  | next =>
    obtain ⟨σ', H', J, q⟩ := hs
    exact fin (v := V.non) (u := Value.none) J rfl q
  | brk =>
    obtain ⟨_, _, _, q⟩ := hs
    exact False.elim q
  | cont =>
    obtain ⟨_, _, _, q⟩ := hs
    exact False.elim q
end L2

namespace L2
open PySem PySem.Spec PyProof.Rows
section
variable {X : Cx} {x : Str} {p pos : Pos} {e : Expr} {es : List Expr} {t : TA} {id T : String} {r : List V → Hp → VK → Prop}

def tCB (r : List V → Hp → VK → Prop) (t : TA) : TE := fun σ H Q => t σ H fun vs H1 => r vs H1 Q
/-- f(e, ..), f a built-in function -/
theorem pe_callB (hc : CallR X (.builtin id) r) (hg : Gl X x) (hm : X.mg x = none) (hv : bootBuiltins x = some (.builtin id)) (ha : PA X (e :: es) t) (hn : x ≠ "__name__" := by decide) (hdb : (x == ("__debug__" : Str)) = false := by decide)
    (he : starEach (e :: es) X.env = (false, eval e X.env) :: starEach es X.env := by rfl) (hpl : (backTo pos (starEach es X.env)).any (·.1) = false := by rfl) : PE X (.Call (.Name x p) (e :: es) [] pos) (tCB r t) := by
  intro pins s σ H Q I h
  refine wpAny_Call_Name_kw (ld_blt I hg hm hv ?_ hn hdb)
  exact PyProof.Rows.callWith_builtin1 (thn (ha pos pins s σ H _ I h) fun us s1 ⟨vs, H1, I1, r1, q1⟩ => hc pins s1 σ H1 vs us Q I1 r1 q1) he hpl
/-- T(e, ..), T a built-in type -/
theorem pe_callTy (hc : CallR X (.type T) r) (hg : Gl X x) (hm : X.mg x = none) (hv : bootBuiltins x = some (.type T)) (ha : PA X (e :: es) t) (hn : x ≠ "__name__" := by decide) (hdb : (x == ("__debug__" : Str)) = false := by decide)
    (he : starEach (e :: es) X.env = (false, eval e X.env) :: starEach es X.env := by rfl) (hpl : (backTo pos (starEach es X.env)).any (·.1) = false := by rfl) : PE X (.Call (.Name x p) (e :: es) [] pos) (tCB r t) := by
  intro pins s σ H Q I h
  refine wpAny_Call_Name_kw (ld_blt I hg hm hv ?_ hn hdb)
  exact PyProof.Rows.callWith_type1 (thn (ha pos pins s σ H _ I h) fun us s1 ⟨vs, H1, I1, r1, q1⟩ => hc pins s1 σ H1 vs us Q I1 r1 q1) he hpl
end
end L2

namespace HT
open PySem PyProof.Rows



section
open PySem.SeqAt
open PySem.AutoSeq1 (wpAny_loadPart')
open PySem.MeetsSeq PySem.MeetsSeq2 PySem.MeetsSeq3

end

section
variable {prog : Program} {w : World} {A : Around} {E : Value → Shared → Prop} {s : Shared}


/-- t + u, t not empty -/
theorem cat_tup {t b : Addr} {vs ws : List Value} {Q : Value → Shared → Prop} (ht : IsTup s.heap t vs.toArray) (hb : IsTup s.heap b ws.toArray) (hv : vs ≠ [])
    (h1 : ws = [] → Q (.ref t) s) (h2 : ws ≠ [] → Q (.ref s.heap.objs.size) { s with heap := s.heap.push { cls := .type "tuple", data := .seq (vs ++ ws).toArray } })
    (hsz : vs.length + ws.length ≤ sizeLine) : wpAny (model prog w) A (binaryOp .Add (.ref t) (.ref b)) Q E s := by
  obtain ⟨⟨cls, dd, data, sl⟩, ho, hc, n, hd⟩ := id ht
  obtain ⟨⟨cls2, dd2, data2, sl2⟩, ho2, hc2, n2, hd2⟩ := id hb
  simp only at hc hd hc2 hd2
  subst hc hd hc2 hd2
  have e : vs.toArray ++ ws.toArray = (vs ++ ws).toArray := by simp
  by_cases hw : ws = []
  · exact concat_meets ⟨_, ho, rfl⟩ ⟨_, ho2, rfl⟩ noFill_tuple_add seq_tuple_add PySem.F.slot_tuple_add PySem.F.entry_tuple_add (PySem.F.args_tuple_add_2 _ _)
      (tuple_addW1 t b vs.toArray ws.toArray n n2 dd dd2 sl sl2 (by simpa using hv) (by simp [hw])) ⟨ho, ho2, h1 hw⟩
  · refine concat_meets ⟨_, ho, rfl⟩ ⟨_, ho2, rfl⟩ noFill_tuple_add seq_tuple_add PySem.F.slot_tuple_add PySem.F.entry_tuple_add (PySem.F.args_tuple_add_2 _ _)
      (tuple_addW2 t b vs.toArray ws.toArray n n2 dd dd2 sl sl2 (by simpa using hv) (by simpa using hw) (by rw [List.size_toArray, List.size_toArray]; exact hsz)) ⟨ho, ho2, ?_⟩
    rw [e]
    exact h2 hw

/-! ### t[a:b], not the whole -/
/-- a slice's bound as a place among n (d where it is left out) -/
def sIx (n d : Nat) : Option Int → Nat
  | none => d
  | some v => if v < 0 then (v + (n : Int)).toNat else min v.toNat n
theorem sIx_none (n d : Nat) : sIx n d none = d := rfl
theorem sIx_nat (n d k : Nat) : sIx n d (some (k : Int)) = min k n := by
  show (if (k : Int) < 0 then ((k : Int) + (n : Int)).toNat else min (k : Int).toNat n) = min k n
  rw [if_neg (by omega), Int.toNat_natCast]

end
end HT

namespace L2
open PySem PySem.Spec PyProof.Rows

/-! ### the parts of a slice -/
abbrev TO := St → Hp → (Option Int → Hp → Prop) → Prop
/-- a slice's part (left out, or an int) -/
def PO (X : Cx) (e : Option Expr) (t : TO) : Prop :=
  ∀ (pins : List (Addr × Obj)) (s : Shared) (σ : St) (H : Hp) (Q : Option Int → Hp → Prop), Inv X pins σ H s → t σ H Q →
    wpAny (model X.prog X.w) X.A (evalPart e X.env) (fun u s' => ∃ o H', Inv X pins σ H' s' ∧ IsPart u o ∧ Q o H') X.xe s
def tNoPart : TO := fun _ H Q => Q none H
def tPart (t : TE) : TO := fun σ H Q => t σ H fun x H1 => ∃ i, x = .int i ∧ Q (some i) H1

theorem intsAre_of {ns : List Int} : ∀ {us : List Value}, Vals (ns.map V.int) us → IntsAre us ns := by
  induction ns with
  | nil => intro us r; rw [List.map_nil] at r; cases r; exact .nil
  | cons n ns ih =>
    intro us r
    rw [List.map_cons] at r
    cases r with
    | cons r1 r2 =>
      obtain ⟨t, e⟩ := r1
      subst e
      exact .cons n t (ih r2)

section
variable {X : Cx} {e : Expr} {te : TE} {lo hi : Option Expr} {tl th : TO} {pos p2 : Pos}

theorem po_none : PO X none tNoPart := by
  intro pins s σ H Q I h
  rw [evalPart_none]
  exact wpAny_pure ⟨none, H, I, .none, h⟩
theorem po_some (h : PE X e te) : PO X (some e) (tPart te) := by
  intro pins s σ H Q I hw
  rw [evalPart_some]
  refine thn (h pins s σ H _ I hw) fun u s1 ⟨x, H1, I1, r1, q1⟩ => ?_
  obtain ⟨i, rfl, q⟩ := q1
  obtain ⟨t, rfl⟩ := r1
  exact ⟨some i, H1, I1, .int i t, q⟩

/-- what a slice of a value is, by values: the slice object stands at sl -/
def SlR (X : Cx) (r : V → Option Int → Option Int → Hp → VK → Prop) : Prop :=
  ∀ (pins : List (Addr × Obj)) (s : Shared) (σ : St) (H : Hp) (x : V) (v vl vu : Value) (lo hi : Option Int) (sl : Addr) (Q : VK), Inv X pins σ H s → RelV x v → s.heap.IsSliceOf sl vl vu .none → IsPart vl lo → IsPart vu hi → r x lo hi H Q →
    ∃ T id, typeLookup (.type T) "__getitem__" = pure (some (.builtin id)) ∧ s.TypeIs v T ∧ wpAny (model X.prog X.w) X.A (getItem v (.ref sl)) (EP X pins σ Q) X.xe s
def tSl (r : V → Option Int → Option Int → Hp → VK → Prop) (te : TE) (tl th : TO) : TE := fun σ H Q => te σ H fun x H1 => tl σ H1 fun l H2 => th σ H2 fun u H3 => r x l u H3 Q
/-- a[lo:hi], any a -/
theorem pe_slice {r : V → Option Int → Option Int → Hp → VK → Prop} (hr : SlR X r) (he : PE X e te) (hl : PO X lo tl) (hu : PO X hi th) : PE X (.Subscript e (.Slice lo hi none p2) pos) (tSl r te tl th) := by
  intro pins s σ H Q I h
  refine Subscript_ (thn (he pins s σ H _ I h) fun v s1 ⟨x, H1, I1, r1, q1⟩ => ?_)
  refine wpAny_Slice (thn (hl pins s1 σ H1 _ I1 q1) fun vl s2 ⟨l, H2, I2, pl, q2⟩ => thn (hu pins s2 σ H2 _ I2 q2) fun vu s3 ⟨u, H3, I3, pu, q3⟩ => ?_)
  rw [evalPart_none]
  refine wpAny_pure ?_
  have I4 : Inv X pins σ H3 { s3 with heap := s3.heap.push { cls := .type "slice", data := .fields #[vl, vu, .none] } } := I3.kept (t' := s3.toks) fun b ob q => Heap.get?_push_of_some _ q
  obtain ⟨T, id, hT, ht, hg⟩ := hr pins { s3 with heap := s3.heap.push { cls := .type "slice", data := .fields #[vl, vu, .none] } } σ H3 x v vl vu l u s3.heap.objs.size Q I4 r1 (Heap.IsSliceOf.new ..) pl pu q3
  show wpAny (model X.prog X.w) X.A (subscriptTail e (.Slice lo hi none p2) v (.ref s3.heap.objs.size)) (EP X pins σ Q) X.xe { s3 with heap := s3.heap.push { cls := .type "slice", data := .fields #[vl, vu, .none] } }
  exact tail_any (ops := [.ref s3.heap.objs.size, v]) ht hT hg (by with_unfolding_all rfl)

/-- the items of xs[lo:hi] -/
def cutV (xs : List V) (lo hi : Option Int) : List V := (xs.drop (HT.sIx xs.length 0 lo)).take (HT.sIx xs.length xs.length hi - HT.sIx xs.length 0 lo)
theorem cutV_length (xs : List V) (lo hi : Option Int) : (cutV xs lo hi).length ≤ xs.length := by
  unfold cutV
  rw [List.length_take, List.length_drop]
  omega

/-! ### t < u, t + u -/
/-- t + u, t not empty: u empty gives t itself -/
def rCatT (K : PySem.W.Frag) : R2 := fun x y H Q => ∃ a b xs ys, x = .ref a ∧ y = .ref b ∧ SqT K H a xs ∧ SqT K H b ys ∧ xs ≠ [] ∧ xs.length + ys.length ≤ sizeLine ∧
  (ys = [] → Q (.ref a) H) ∧ (ys ≠ [] → ∀ p, H p = none → Q (.ref p) (upd H p (.tup (xs ++ ys))))
theorem Vals.nil_iff {xs : List V} {us : List Value} (r : Vals xs us) : us = [] ↔ xs = [] := by
  cases r with
  | nil => simp
  | cons _ _ => simp
theorem op_catT : OpR X (binaryOp .Add) (rCatT X.K) := by
  intro pins s σ H x y v u Q I rx ry h
  obtain ⟨a, b, xs, ys, rfl, rfl, ha, hb, hx, hz, q1, q2⟩ := h
  cases rx
  cases ry
  obtain ⟨its, r1, p1, _⟩ := I.tuple ha
  obtain ⟨its2, r2, p2, _⟩ := I.tuple hb
  refine HT.cat_tup p1 p2 (fun z => hx (r1.nil_iff.mp z)) (fun z => ⟨.ref a, H, I, rfl, q1 (r2.nil_iff.mp z)⟩) (fun z => ?_) (by rw [← r1.length, ← r2.length]; exact hz)
  refine ⟨.ref s.heap.objs.size, _, I.laid (t' := s.toks) (o := .tup (xs ++ ys)) (fun b ob q => Heap.get?_push_of_some _ q) (Nat.le_refl _) ?_, rfl, q2 (fun w => z (r2.nil_iff.mpr w)) _ (I.hok.fresh (Nat.le_refl _))⟩
  exact ⟨by rw [List.length_append]; exact hz, _, r1.append r2, IsTup.new _ _⟩
end
end L2

namespace L2
open PySem PySem.Spec PyProof.Rows

/-! ### places -/
/-- the place that an index of any sign means -/
def ixN (n : Nat) (i : Int) : Option Nat := if 0 ≤ i then (if i < n then some i.toNat else none) else if -(n : Int) ≤ i then some (i + n).toNat else none
def atI {α : Type} (xs : List α) (i : Int) : Option α := (ixN xs.length i).bind fun j => xs[j]?
theorem ixN_seq {n : Nat} {i : Int} {j : Nat} (h : ixN n i = some j) : seqIndex? i n = some j ∧ j < n ∧ -(n : Int) ≤ i ∧ i < n := by
  unfold ixN at h
  by_cases h0 : 0 ≤ i
  · rw [if_pos h0] at h
    by_cases h1 : i < n
    · rw [if_pos h1] at h
      have e : i.toNat = j := Option.some.inj h
      exact ⟨by rw [seqIndex_of h0 h1, e], by omega, by omega, h1⟩
    · rw [if_neg h1] at h; cases h
  · rw [if_neg h0] at h
    by_cases h1 : -(n : Int) ≤ i
    · rw [if_pos h1] at h
      have e : (i + n).toNat = j := Option.some.inj h
      exact ⟨by rw [seqIndex_neg (by omega) h1, e], by omega, h1, by omega⟩
    · rw [if_neg h1] at h; cases h
theorem atI_get {α : Type} {xs : List α} {i : Int} {v : α} (h : atI xs i = some v) : ∃ j, seqIndex? i xs.length = some j ∧ xs[j]? = some v ∧ j < xs.length ∧ -(xs.length : Int) ≤ i ∧ i < xs.length := by
  unfold atI at h
  cases e : ixN xs.length i with
  | none => rw [e] at h; cases h
  | some j =>
    rw [e] at h
    obtain ⟨h1, h2, h3, h4⟩ := ixN_seq e
    exact ⟨j, h1, h, h2, h3, h4⟩
theorem atI_nat {α : Type} {xs : List α} {j : Nat} {v : α} (h : xs[j]? = some v) : atI xs (j : Int) = some v := by
  have hj : j < xs.length := (List.getElem?_eq_some_iff.mp h).1
  have e : ixN xs.length (j : Int) = some j := by
    unfold ixN
    rw [if_pos (by omega), if_pos (by omega)]; simp
  unfold atI; rw [e]; exact h

/-! ### what may be subscripted -/
/-- what stands as an index of a plain subscript -/
def PlainIx (b : Expr) : Prop := ∀ o i, subscripted b false o i = operate [o, i] (getItem o i)
/-- a subscript by values -/
def IxR (X : Cx) (r : R2) : Prop :=
  ∀ (value slice : Expr) (pins : List (Addr × Obj)) (s : Shared) (σ : St) (H : Hp) (x y : V) (v u : Value) (Q : VK), Inv X pins σ H s → RelV x v → RelV y u → r x y H Q →
    subscripted slice false v u = operate [v, u] (getItem v u) → wpAny (model X.prog X.w) X.A (subscriptTail value slice v u) (EP X pins σ Q) X.xe s
/-- a call of a builtin's method by values: the receiver, the arguments -/
def MtR (X : Cx) (id : String) (r : V → List V → Hp → VK → Prop) : Prop :=
  ∀ (pins : List (Addr × Obj)) (s : Shared) (σ : St) (H : Hp) (x : V) (xs : List V) (v : Value) (us : List Value) (Q : VK), Inv X pins σ H s → RelV x v → Vals xs us → r x xs H Q →
    wpAny (model X.prog X.w) X.A (call (.builtin id) (v :: us)) (EP X pins σ Q) X.xe s
section
variable {X : Cx} {a b : Expr} {ta tb : TE} {pos : Pos}
theorem IxR.or {r r' : R2} (h : IxR X r) (h' : IxR X r') : IxR X (fun x y H Q => r x y H Q ∨ r' x y H Q) := by
  intro value slice pins s σ H x y v u Q I rx ry q hs
  rcases q with q | q
  · exact h value slice pins s σ H x y v u Q I rx ry q hs
  · exact h' value slice pins s σ H x y v u Q I rx ry q hs
/-- a[b] -/
theorem pe_ix {r : R2} (hr : IxR X r) (ha : PE X a ta) (hb : PE X b tb) (hs : PlainIx b) : PE X (.Subscript a b pos) (tOp r ta tb) := by
  intro pins s σ H Q I h
  exact Subscript_ (binT ha hb I h fun v u s2 x y H2 I2 rx ry q => hr a b pins s2 σ H2 x y v u Q I2 rx ry q (hs _ _))

def rIxL (K : PySem.W.Frag) : R2 := fun x y H Q => ∃ p xs i v, x = .ref p ∧ y = .int i ∧ SqL K H p xs ∧ atI xs i = some v ∧ Q v H
def rIxT (K : PySem.W.Frag) : R2 := fun x y H Q => ∃ p xs i v, x = .ref p ∧ y = .int i ∧ SqT K H p xs ∧ atI xs i = some v ∧ Q v H
theorem ix_list : IxR X (rIxL X.K) := by
  intro value slice pins s σ H x y v u Q I rx ry h hs
  obtain ⟨p, xs, i, z, rfl, rfl, hq, he, q⟩ := h
  cases rx
  obtain ⟨t, rfl⟩ := ry
  obtain ⟨its, r, pl, hz⟩ := I.list hq
  obtain ⟨j, h1, h2, h3, h4, h5⟩ := atI_get he
  obtain ⟨w, ew, rw'⟩ := r.get h2
  have hl := r.length
  have hn := line63
  have fin : EP X pins σ Q w s := ⟨z, H, I, rw', q⟩
  by_cases h0 : 0 ≤ i
  · have hj : i.toNat = j := by
      rw [seqIndex_of h0 h5] at h1
      exact Option.some.inj h1
    exact item_listR pl.isList h0 (by omega) (by rw [hj]; simpa using ew) fin hs
  · have hj : (i + (its.toArray.size : Int)).toNat = j := by
      rw [seqIndex_neg (by omega) h4] at h1
      rw [List.size_toArray, ← hl]
      exact Option.some.inj h1
    exact subscriptTail_builtinR (x := w) pl.isList.typeIs slot_list_getitem.lookup
      (wpAny_getItem_list_neg (Q := fun r s' => r = w ∧ EP X pins σ Q r s') pl.isList (by omega) (by rw [List.size_toArray] <;> omega) (by omega) (by rw [hj]; simpa using ew) ⟨rfl, fin⟩) hs
theorem ix_tup : IxR X (rIxT X.K) := by
  intro value slice pins s σ H x y v u Q I rx ry h hs
  obtain ⟨p, xs, i, z, rfl, rfl, hq, he, q⟩ := h
  cases rx
  obtain ⟨t, rfl⟩ := ry
  obtain ⟨its, r, pl, hz⟩ := I.tuple hq
  obtain ⟨j, h1, h2, h3, h4, h5⟩ := atI_get he
  obtain ⟨w, ew, rw'⟩ := r.get h2
  have hl := r.length
  have hn := line63
  have fin : EP X pins σ Q w s := ⟨z, H, I, rw', q⟩
  exact subscriptTail_builtinR (x := w) pl.typeIs slot_tuple_getitem.lookup
    (getItem_tuple (j := j) (Q := fun r s' => r = w ∧ EP X pins σ Q r s') pl (by omega) (by omega) (by rw [List.size_toArray, ← hl]; exact h1) (by simpa using ew) ⟨rfl, fin⟩) hs

/-! ### xs[i] = v, any sign -/
/-- the list's object behind a store -/
theorem mapSeq_set (its : List Value) (n j : Nat) (u : Value) : Obj.mapSeq (·.setIfInBounds j u) { cls := .type "list", data := .seq its.toArray n } = { cls := .type "list", data := .seq (its.set j u).toArray n } := by
  simp [Obj.mapSeq]
theorem Inv.lst {pins : List (Addr × Obj)} {σ : St} {H : Hp} {s : Shared} {p : Addr} {xs : List V} (I : Inv X pins σ H s) (h : H p = some (.lst xs)) :
    ∃ (its : List Value) (n : Nat), Vals xs its ∧ s.heap.get? p = some { cls := .type "list", data := .seq its.toArray n } ∧ xs.length ≤ sizeLine := by
  obtain ⟨z, its, n, r, e⟩ := I.hok p _ h
  exact ⟨its, n, r, e, z⟩
/-- the list at p is written by an update of its object -/
theorem Inv.lstUpd {pins : List (Addr × Obj)} {σ : St} {H : Hp} {s : Shared} {p : Addr} {xs ys : List V} {its its' : List Value} {n n' : Nat} {f : Obj → Obj} (I : Inv X pins σ H s) (h : H p = some (.lst xs))
    (ho : s.heap.get? p = some { cls := .type "list", data := .seq its.toArray n }) (hf : f { cls := .type "list", data := .seq its.toArray n } = { cls := .type "list", data := .seq its'.toArray n' }) (r : Vals ys its') (hz : ys.length ≤ sizeLine) (t : Nat) :
    Inv X pins σ (upd H p (.lst ys)) { s with heap := s.heap.update p f, toks := t } := by
  have e : (s.heap.update p f).get? p = some { cls := .type "list", data := .seq its'.toArray n' } := by
    rw [Heap.get?_update_self f ho (by rw [hf] <;> rfl), hf]
  refine I.write (x := p) (e := p) (by rw [h]; trivial) (.inl rfl) (fun b u hb q => (Heap.get?_update_other _ _ (Ne.symm hb)).trans q) ⟨_, e⟩ ?_
  exact ⟨hz, its', n', r, e⟩
def rSetL : V → V → V → Hp → (Hp → Prop) → Prop := fun o i v H Q => ∃ p xs k j, o = .ref p ∧ i = .int k ∧ H p = some (.lst xs) ∧ ixN xs.length k = some j ∧ Q (upd H p (.lst (xs.set j v)))
theorem set_list : PSet X rSetL := by
  intro pins s σ H o i v ov iv u Q I ro ri rv h
  obtain ⟨p, xs, k, j, rfl, rfl, hp, hj, q⟩ := h
  cases ro
  obtain ⟨t, rfl⟩ := ri
  obtain ⟨its, n, r, ho, hz⟩ := I.lst hp
  obtain ⟨h1, h2, h3, h4⟩ := ixN_seq hj
  have hl := r.length
  have hn := line63
  have I' : Inv X pins σ (upd H p (.lst (xs.set j v))) { s with heap := s.heap.update p (Obj.mapSeq (·.setIfInBounds j u)) } :=
    I.lstUpd hp ho (mapSeq_set its n j u) (r.set rv j) (by rw [List.length_set]; exact hz) s.toks
  by_cases h0 : 0 ≤ k
  · have hk : k.toNat = j := by
      rw [seqIndex_of h0 h4] at h1
      exact Option.some.inj h1
    exact PySem.W.ki_setAt ho h0 (by omega) (by rw [List.size_toArray, ← hl]; exact h4) (by rw [hk]; exact ⟨_, I', q⟩)
  · have hk : (k + (its.toArray.size : Int)).toNat = j := by
      rw [seqIndex_neg (by omega) h3] at h1
      rw [List.size_toArray, ← hl]
      exact Option.some.inj h1
    exact PySem.W.ki_setBack ho (by omega) (by rw [List.size_toArray, ← hl]; exact h3) (by omega) (by rw [hk]; exact ⟨_, I', q⟩)

/-! ### slices -/
theorem slice_bounds (lo hi : Option Int) (n : Nat) : (sliceBounds lo hi none n).1 = ((HT.sIx n 0 lo : Nat) : Int) ∧ (sliceBounds lo hi none n).2.1 = ((HT.sIx n n hi : Nat) : Int) ∧ (sliceBounds lo hi none n).2.2 = 1 := by
  refine ⟨?_, ?_, rfl⟩
  · cases lo with
    | none => simp [sliceBounds, HT.sIx]
    | some i =>
      simp only [sliceBounds, HT.sIx, Option.getD_none, show (1 : Int) > 0 by decide, if_true]
      by_cases h : i < 0
      · simp only [h, if_true] <;> omega
      · simp only [h, if_false] <;> omega
  · cases hi with
    | none => simp [sliceBounds, HT.sIx]
    | some i =>
      simp only [sliceBounds, HT.sIx, Option.getD_none, show (1 : Int) > 0 by decide, if_true]
      by_cases h : i < 0
      · simp only [h, if_true] <;> omega
      · simp only [h, if_false] <;> omega
theorem slicePick_cut (its : List Value) (lo hi : Option Int) : slicePick its.toArray lo hi none = ((its.drop (HT.sIx its.length 0 lo)).take (HT.sIx its.length its.length hi - HT.sIx its.length 0 lo)).toArray := by
  obtain ⟨h1, h2, h3⟩ := slice_bounds lo hi its.toArray.size
  unfold slicePick
  rw [h1, h2, h3]
  simp only [sliceRange_one, pick_run, List.size_toArray] <;> rfl
/-- xs[lo:hi] of a list: a new list -/
def rSlL (K : PySem.W.Frag) : V → Option Int → Option Int → Hp → VK → Prop := fun x lo hi H Q => ∃ a xs, x = .ref a ∧ SqL K H a xs ∧ ∀ p, H p = none → Q (.ref p) (upd H p (.lst (cutV xs lo hi)))
theorem sl_list : SlR X (rSlL X.K) := by
  intro pins s σ H x v vl vu lo hi sl Q I rx hs pl pu h
  obtain ⟨a, xs, rfl, hx, q⟩ := h
  cases rx
  obtain ⟨its, r, ht, hz⟩ := I.list hx
  have hlen := r.length
  refine ⟨"list", _, slot_list_getitem.lookup, ht.isList.typeIs, ?_⟩
  refine wpAny_getItem_list_slice ht.isList hs pl pu .none (by simp) ?_ (by rw [List.size_toArray] <;> omega)
  rw [slicePick_cut, ← hlen]
  refine ⟨.ref s.heap.objs.size, _, I.laid (t' := s.toks) (o := .lst (cutV xs lo hi)) (fun b ob q => Heap.get?_push_of_some _ q) (Nat.le_refl _) ?_, rfl, q _ (I.hok.fresh (Nat.le_refl _))⟩
  exact ⟨Nat.le_trans (cutV_length xs lo hi) hz, _, 0, (r.drop (HT.sIx xs.length 0 lo)).take (HT.sIx xs.length xs.length hi - HT.sIx xs.length 0 lo), Heap.get?_push_size _ rfl⟩

/-! ### in, not in: flat items -/
def flatV : V → Bool
  | .non => true
  | .bl _ => true
  | .int _ => true
  | .str _ => true
  | _ => false
/-- == of flat values -/
def eqV : V → V → Bool
  | .non, .non => true
  | .bl a, .bl b => a == b
  | .bl a, .int b => (if a then 1 else 0) == b
  | .int a, .bl b => a == (if b then 1 else 0)
  | .int a, .int b => a == b
  | .str a, .str b => a == b
  | _, _ => false
theorem eqAt_V {A : Around} {s : Shared} {y x : V} {u v : Value} (ry : RelV y u) (rx : RelV x v) (fy : flatV y = true) (fx : flatV x = true) : SeqAt.EqAt A s u v (eqV y x) := by
  cases y with
  | non =>
    cases ry
    cases x with
    | non => cases rx; exact SeqAt.EqAt.same _
    | bl b => cases rx; exact SeqAt.EqAt.none_bool b
    | int b => obtain ⟨t, rfl⟩ := rx; exact SeqAt.EqAt.none_int b t
    | str b => obtain ⟨t, rfl⟩ := rx; exact SeqAt.EqAt.none_str b t
    | _ => exact absurd (show false = true from fx) Bool.false_ne_true
  | bl a =>
    cases ry
    cases x with
    | non => cases rx; exact SeqAt.EqAt.bool_none a
    | bl b => cases rx; exact SeqAt.EqAt.bool_bool a b
    | int b => obtain ⟨t, rfl⟩ := rx; exact SeqAt.EqAt.bool_int a b t
    | str b => obtain ⟨t, rfl⟩ := rx; exact SeqAt.EqAt.bool_str a b t
    | _ => exact absurd (show false = true from fx) Bool.false_ne_true
  | int a =>
    obtain ⟨t', rfl⟩ := ry
    cases x with
    | non => cases rx; exact SeqAt.EqAt.int_none a t'
    | bl b => cases rx; exact SeqAt.EqAt.int_bool a t' b
    | int b => obtain ⟨t, rfl⟩ := rx; exact SeqAt.EqAt.int_int a t' b t
    | str b => obtain ⟨t, rfl⟩ := rx; exact SeqAt.EqAt.int_str a t' b t
    | _ => exact absurd (show false = true from fx) Bool.false_ne_true
  | str a =>
    obtain ⟨t', rfl⟩ := ry
    cases x with
    | non => cases rx; exact SeqAt.EqAt.str_none a t'
    | bl b => cases rx; exact SeqAt.EqAt.str_bool a t' b
    | int b => obtain ⟨t, rfl⟩ := rx; exact SeqAt.EqAt.str_int a t' b t
    | str b => obtain ⟨t, rfl⟩ := rx; exact SeqAt.EqAt.str_str a t' b t
    | _ => exact absurd (show false = true from fx) Bool.false_ne_true
  | _ => exact absurd (show false = true from fy) Bool.false_ne_true
/-- the items' answers, read off the values (a value's own answer does not lean on its token) -/
def eqU (x : V) (u : Value) : Bool := match u with
  | .none => eqV .non x
  | .bool b => eqV (.bl b) x
  | .int i _ => eqV (.int i) x
  | .str z _ => eqV (.str z) x
  | _ => false
theorem eqU_of {x y : V} {u : Value} (r : RelV y u) (f : flatV y = true) : eqU x u = eqV y x := by
  cases y with
  | non => cases r; rfl
  | bl b => cases r; rfl
  | int i => obtain ⟨t, rfl⟩ := r; rfl
  | str z => obtain ⟨t, rfl⟩ := r; rfl
  | _ => exact absurd (show false = true from f) Bool.false_ne_true
theorem any_eqU {x : V} : ∀ {xs : List V} {us : List Value}, Vals xs us → xs.all flatV = true → us.any (eqU x) = xs.any fun y => eqV y x
  | _, _, .nil, _ => rfl
  | y :: xs, u :: us, .cons r t, f => by
    rw [List.all_cons, Bool.and_eq_true] at f
    rw [List.any_cons, List.any_cons, eqU_of r f.1, any_eqU t f.2]
theorem mem_eqAt {A : Around} {s : Shared} {x : V} {v : Value} (rx : RelV x v) (fx : flatV x = true) : ∀ {xs : List V} {us : List Value}, Vals xs us → xs.all flatV = true → ∀ u ∈ us, SeqAt.EqAt A s u v (eqU x u)
  | _, _, .nil, _ => fun u hu => by cases hu
  | y :: xs, u :: us, .cons r t, f => fun u' hu => by
    rw [List.all_cons, Bool.and_eq_true] at f
    rcases List.mem_cons.mp hu with rfl | hu
    · rw [eqU_of r f.1]; exact eqAt_V r rx f.1 fx
    · exact mem_eqAt rx fx t f.2 u' hu
def inV (x : V) (xs : List V) : Bool := xs.any fun y => eqV y x
/-- x in a list or tuple of flat items -/
def rIn (K : PySem.W.Frag) (neg : Bool) : R2 := fun x y H Q => ∃ p xs, y = .ref p ∧ (SqL K H p xs ∨ SqT K H p xs) ∧ flatV x = true ∧ xs.all flatV = true ∧ Q (.bl (if neg then !inV x xs else inV x xs)) H
theorem op_notIn_seq : OpR X (compareOp .NotIn) (rIn X.K true) := by
  intro pins s σ H x y v u Q I rx ry h
  obtain ⟨p, xs, rfl, hq, fx, fs, q⟩ := h
  cases ry
  rcases hq with hq | hq
  · obtain ⟨its, r, pl, hz⟩ := I.list hq
    refine SeqAt.notIn_listAt (eqU x) pl.isList (fun w hw => mem_eqAt rx fx r fs w (by simpa using hw)) ⟨.bl _, H, I, rfl, ?_⟩
    rw [show its.toArray.any (eqU x) = its.any (eqU x) by simp, any_eqU r fs]
    exact q
  · obtain ⟨its, r, pl, hz⟩ := I.tuple hq
    refine SeqAt.notIn_tupleAt (eqU x) pl (fun w hw => mem_eqAt rx fx r fs w (by simpa using hw)) ⟨.bl _, H, I, rfl, ?_⟩
    rw [show its.toArray.any (eqU x) = its.any (eqU x) by simp, any_eqU r fs]
    exact q

/-! ### len, list(x), tuple(x) of any list or tuple that is read -/
theorem CallR.or {f : Value} {r r' : List V → Hp → VK → Prop} (h : CallR X f r) (h' : CallR X f r') : CallR X f (fun xs H Q => r xs H Q ∨ r' xs H Q) := by
  intro pins s σ H xs us Q I rs q
  rcases q with q | q
  · exact h pins s σ H xs us Q I rs q
  · exact h' pins s σ H xs us Q I rs q
theorem call_list_of : CallR X (.type "list") (fun xs H Q => ∃ p ys, xs = [.ref p] ∧ (SqL X.K H p ys ∨ SqT X.K H p ys) ∧ ∀ l, H l = none → Q (.ref l) (upd H l (.lst ys))) := by
  intro pins s σ H xs us Q I r h
  obtain ⟨p, ys, rfl, hq, q⟩ := h
  obtain ⟨u, rfl, rx⟩ := vals1 r
  cases rx
  have fin : ∀ (its : List Value), Vals ys its → ys.length ≤ sizeLine → ∀ (h' : Heap) (c' : Nat), (∀ b o', s.heap.get? b = some o' → h'.get? b = some o') →
      h'.get? s.heap.objs.size = some { cls := .type "list", dict := none, data := .seq its.toArray c', slots := #[] } → EP X pins σ Q (.ref s.heap.objs.size) { s with heap := h' } := fun its r' hz h' c' kp e =>
    ⟨.ref s.heap.objs.size, _, I.laid (t' := s.toks) kp (Nat.le_refl _) (show ObjOk X.prog X.w _ h' _ (.lst ys) from ⟨hz, its, c', r', e⟩), rfl, q _ (I.hok.fresh (Nat.le_refl _))⟩
  rcases hq with hq | hq
  · obtain ⟨its, r', pl, hz⟩ := I.list hq
    have hlen := r'.length
    obtain ⟨o, ho, hc, n, hd⟩ := pl.isList
    exact call_list_seq p (.inl rfl) ho hc hd (fun h' c' kp e => fin its r' hz h' c' kp e) (by simp only [List.size_toArray] <;> omega)
  · obtain ⟨its, r', pl, hz⟩ := I.tuple hq
    have hlen := r'.length
    obtain ⟨o, ho, hc, n, hd⟩ := pl
    exact call_list_seq p (.inr rfl) ho hc hd (fun h' c' kp e => fin its r' hz h' c' kp e) (by simp only [List.size_toArray] <;> omega)

/-! ### the call of a builtin's method: o.m(..) -/
/-- the value is of that builtin type -/
def tyV (K : PySem.W.Frag) (T : String) (x : V) (H : Hp) : Prop := match x with
  | .str _ => T = "str"
  | .int _ => T = "int"
  | .ref p => (T = "list" ∧ ∃ xs, SqL K H p xs) ∨ (T = "tuple" ∧ ∃ o, K.lookup p = some o ∧ o.cls = .type "tuple" ∧ o.dict = none) ∨
      (T = "dict" ∧ ((∃ kvs, H p = some (.dK kvs)) ∨ ∃ kvs, H p = some (.dT kvs))) ∨ (T = "set" ∧ ∃ S n, H p = some (.set S n))
  | _ => False
theorem tyV_is {pins : List (Addr × Obj)} {σ : St} {H : Hp} {s : Shared} {T : String} {x : V} {v : Value} (I : Inv X pins σ H s) (r : RelV x v) (ty : tyV X.K T x H) :
    s.TypeIs v T ∧ ∀ a, v = .ref a → ∃ ob, s.heap.get? a = some ob ∧ ob.dict = none := by
  cases x with
  | str z =>
    obtain ⟨t, rfl⟩ := r
    cases (show T = "str" from ty)
    exact ⟨typeIs_str s z t, fun _ e => nomatch e⟩
  | int i =>
    obtain ⟨t, rfl⟩ := r
    cases (show T = "int" from ty)
    exact ⟨typeIs_int s i t, fun _ e => nomatch e⟩
  | ref p =>
    cases r
    rcases ty with ⟨rfl, xs, hq⟩ | ⟨rfl, o, hk, hc, hd⟩ | ⟨rfl, hk⟩ | ⟨rfl, S, n, hk⟩
    · obtain ⟨its, _, pl, _⟩ := I.list hq
      refine ⟨pl.isList.typeIs, fun a e => ?_⟩
      cases e
      obtain ⟨o, n, e, c, hd, _⟩ := pl
      exact ⟨o, e, hd⟩
    · refine ⟨⟨o, I.kIn p o hk, hc⟩, fun a e => ?_⟩
      cases e
      exact ⟨o, I.kIn _ o hk, hd⟩
    · have z : ∃ o, s.heap.get? p = some o ∧ o.ExactDict := by
        rcases hk with ⟨kvs, hk⟩ | ⟨kvs, hk⟩
        · obtain ⟨_, _, _, _, o, _, _, e, ex, _⟩ := I.hok p _ hk
          exact ⟨o, e, ex⟩
        · obtain ⟨_, _, _, _, o, _, _, e, ex, _⟩ := I.hok p _ hk
          exact ⟨o, e, ex⟩
      obtain ⟨o, e, ex⟩ := z
      refine ⟨⟨o, e, ex.1⟩, fun a e2 => ?_⟩
      cases e2
      exact ⟨o, e, ex.2.1⟩
    · obtain ⟨o, _, _, _, e, ex, _⟩ := I.hok p _ hk
      refine ⟨⟨o, e, ex.1⟩, fun a e2 => ?_⟩
      cases e2
      exact ⟨o, e, ex.2.1⟩
  | _ => exact False.elim ty
def tBM (K : PySem.W.Frag) (T : String) (r : V → List V → Hp → VK → Prop) (to : TE) (t : TA) : TE := fun σ H Q => to σ H fun x H1 => tyV K T x H1 ∧ t σ H1 fun xs H2 => r x xs H2 Q
variable {o e : Expr} {es : List Expr} {to : TE} {t : TA} {name : Str} {apos cpos : Pos} {T id : String} {r : V → List V → Hp → VK → Prop}
theorem pe_bm (pa : PlainAttrs T) (slot : Slot T name id) (hty : typeOf (.builtin id) = pure (.type "method_descriptor")) (hm : MtR X id r) (ho : PE X o to) (ha : PA X (e :: es) t)
    (hbase : attributeBase o name X.env (eval o X.env) = eval o X.env := by rfl)
    (hfew : ((backTo cpos (starEach (e :: es) X.env)).all (fun x => !x.1) && (backToKw cpos (keywordEach [] X.env)).all (fun x => x.1.isSome)
      && decide ((e :: es).length + ([] : List Keyword).length + (if ([] : List Keyword).isEmpty then 0 else 1) < 30)) = true := by rfl)
    (hline : (apos.endLine == cpos.line) = true := by rfl) (hs : starEach (e :: es) X.env = (false, eval e X.env) :: starEach es X.env := by rfl) (hplain : (backTo cpos (starEach es X.env)).any (·.1) = false := by rfl) :
    PE X (.Call (.Attribute o name apos) (e :: es) [] cpos) (tBM X.K T r to t) := by
  intro pins s σ H Q I h
  refine wpAny_Call_method_late hbase hfew hline rfl (thn (ho pins s σ H _ I h) fun v s1 ⟨x, H1, I1, r1, ty, q1⟩ => ?_)
  obtain ⟨h1, h2⟩ := tyV_is I1 r1 ty
  refine ⟨T, id, pa, slot, hty, h1, h2, ?_⟩
  have hA := ha cpos pins s1 σ H1 _ I1 q1
  rw [hs] at hA ⊢
  refine Calls.callWith_builtin (by show (false || (backTo cpos (starEach es X.env)).any (·.1)) = false; rw [hplain] <;> rfl) (Calls.evalArgs_plain ?_)
  exact thn hA fun us s2 ⟨vs, H2, I2, r2, q2⟩ => hm pins s2 σ H2 x vs v us Q I2 r1 r2 q2
/- xs.append(e), list.index on a module's tuple .. are MtR facts of 06m -/
end
end L2

namespace L2
open PySem PySem.Spec PyProof.Rows

def MtM (X : Cx) (id : String) (r : V → List V → Hp → VK → Prop) : Prop :=
  ∀ (pins : List (Addr × Obj)) (s : Shared) (σ : St) (H : Hp) (x : V) (xs : List V) (v : Value) (us : List Value) (Q : VK), Inv X pins σ H s → RelV x v → Vals xs us → r x xs H Q →
    wpAny (model X.prog X.w) X.A (call (.builtin id) (v :: us)) (EP X pins σ Q) X.xe s

/-! ### lists of values -/
theorem Vals.one : ∀ {x : V} {us : List Value}, Vals [x] us → ∃ u, us = [u] ∧ RelV x u
  | _, _, .cons r .nil => ⟨_, rfl, r⟩
theorem Vals.rep {xs : List V} {us : List Value} (h : Vals xs us) : ∀ k : Nat, Vals (List.replicate k xs).flatten (List.replicate k us).flatten
  | 0 => .nil
  | k + 1 => by
    rw [List.replicate_succ, List.replicate_succ, List.flatten_cons, List.flatten_cons]
    exact Vals.append h (Vals.rep h k)
theorem foldl_rep (its : List Value) : ∀ (k : Nat) (acc : List Value),
    List.foldl (fun x1 x2 => x1 ++ x2) acc.toArray (List.replicate k its.toArray) = (acc ++ (List.replicate k its).flatten).toArray
  | 0, acc => by simp
  | k + 1, acc => by
    have e : acc.toArray ++ its.toArray = (acc ++ its).toArray := by simp
    have e2 : (acc ++ its) ++ (List.replicate k its).flatten = acc ++ (List.replicate (k + 1) its).flatten := by
      rw [List.replicate_succ, List.flatten_cons, List.append_assoc]
    rw [← e2, ← foldl_rep its k (acc ++ its), ← e, List.replicate_succ, List.foldl_cons]

section
variable {X : Cx} {pins : List (Addr × Obj)} {σ : St} {H : Hp} {s : Shared} {l b : Addr} {xs ys zs : List V}

/-! ### the two steps: a tracked list is rewritten, a new list is laid -/
theorem Inv.lset {its its' : List Value} {n : Nat} {f : Array Value → Array Value} {t' : Nat} (I : Inv X pins σ H s) (hH : H l = some (.lst xs))
    (e : s.heap.get? l = some { cls := .type "list", data := .seq its.toArray n }) (hf : f its.toArray = its'.toArray) (hv : Vals ys its') (hz : ys.length ≤ sizeLine) :
    Inv X pins σ (upd H l (.lst ys)) { s with heap := s.heap.update l (Obj.mapSeq f), toks := t' } := by
  have q := PySem.IsL.update e f
  rw [hf] at q
  refine I.write (x := l) (e := l) (by rw [hH]; exact trivial) (.inl rfl) (fun b' u hb hu => (Heap.get?_update_other s.heap (Obj.mapSeq f) (Ne.symm hb)).trans hu) ⟨_, q⟩ ?_
  exact ⟨hz, its', _, hv, q⟩
theorem Inv.lnew {its : List Value} {t' : Nat} (I : Inv X pins σ H s) (hv : Vals ys its) (hz : ys.length ≤ sizeLine) :
    Inv X pins σ (upd H s.heap.objs.size (.lst ys)) { s with heap := s.heap.push { cls := .type "list", data := .seq its.toArray }, toks := t' } :=
  I.laid (fun _ _ q => Heap.get?_push_of_some _ q) (Nat.le_refl _) ⟨hz, its, 0, hv, Heap.get?_push_size _ rfl⟩
theorem Inv.fresh (I : Inv X pins σ H s) : H s.heap.objs.size = none := I.hok.fresh (Nat.le_refl _)
theorem Inv.lstM (I : Inv X pins σ H s) (hH : H l = some (.lst xs)) : xs.length ≤ sizeLine ∧ ∃ (its : List Value) (n : Nat), Vals xs its ∧ xs.length = its.length ∧ s.heap.get? l = some { cls := .type "list", data := .seq its.toArray n } := by
  obtain ⟨z, its, n, r, e⟩ := I.hok l _ hH
  exact ⟨z, its, n, r, r.length, e⟩

theorem notLongL {n : Nat} (h : n ≤ sizeLine) : Builtin.List.listTooLong n = false := by
  unfold Builtin.List.listTooLong
  exact decide_eq_false (by omega)
end

section
variable {X : Cx}

/-! ### methods -/
def rAppend : V → List V → Hp → VK → Prop := fun x vs H Q => ∃ l xs y, x = .ref l ∧ vs = [y] ∧ H l = some (.lst xs) ∧ xs.length < sizeLine ∧ Q .non (upd H l (.lst (xs ++ [y])))
theorem mt_append : MtM X "list.append" rAppend := by
  intro pins s σ H x vs v us Q I rx rv h
  obtain ⟨l, xs, y, rfl, rfl, hH, hz, q⟩ := h
  cases rx
  obtain ⟨u, rfl, ru⟩ := rv.one
  obtain ⟨z, its, n, r, hl, e⟩ := I.lstM hH
  refine call_meets F.slot_list_append ⟨_, e, rfl⟩ F.entry_list_append (F.args_list_append_2 _ _) (PySem.list_append l its.toArray n u (by rw [List.size_toArray]; omega)) ⟨e, ?_⟩
  refine ⟨.non, _, I.lset (its' := its ++ [u]) hH e (by simp) (r.append (.cons ru .nil)) ?_, rfl, q⟩
  rw [List.length_append, List.length_singleton]
  omega






/-! ### list + list, list += list, list * int -/
def rCat : R2 := fun x y H Q => ∃ l b xs zs, x = .ref l ∧ y = .ref b ∧ H l = some (.lst xs) ∧ H b = some (.lst zs) ∧ xs.length + zs.length ≤ sizeLine ∧ ∀ p, H p = none → Q (.ref p) (upd H p (.lst (xs ++ zs)))
theorem op_cat : OpR X (binaryOp .Add) rCat := by
  intro pins s σ H x y v u Q I rx ry h
  obtain ⟨l, b, xs, zs, rfl, rfl, hH, hB, hz, q⟩ := h
  cases rx
  cases ry
  obtain ⟨z, its, n, r, hl, e⟩ := I.lstM hH
  obtain ⟨z2, its2, n2, r2, hl2, e2⟩ := I.lstM hB
  refine PySem.P.add_list e e2 ?_ (by rw [List.size_toArray, List.size_toArray]; omega)
  have ea : its.toArray ++ its2.toArray = (its ++ its2).toArray := by simp
  rw [ea]
  exact ⟨.ref _, _, I.lnew (t' := s.toks) (r.append r2) (by rw [List.length_append]; omega), rfl, q _ I.fresh⟩
/-- a list times an int (a negative one is nothing) -/
def rRep : R2 := fun x y H Q => ∃ l k xs, x = .ref l ∧ y = .int k ∧ H l = some (.lst xs) ∧ -(2 ^ 63) ≤ k ∧ k < 2 ^ 63 ∧ xs.length * k.toNat ≤ sizeLine ∧
  ∀ p, H p = none → Q (.ref p) (upd H p (.lst (List.replicate k.toNat xs).flatten))
theorem len_rep {α : Type} (xs : List α) (k : Nat) : (List.replicate k xs).flatten.length = k * xs.length := by
  induction k with
  | zero => simp
  | succ k ih => rw [List.replicate_succ, List.flatten_cons, List.length_append, ih, Nat.succ_mul, Nat.add_comm]
theorem op_rep : OpR X (binaryOp .Mult) rRep := by
  intro pins s σ H x y v u Q I rx ry h
  obtain ⟨l, k, xs, rfl, rfl, hH, h1, h2, hz, q⟩ := h
  cases rx
  obtain ⟨t, rfl⟩ := ry
  obtain ⟨z, its, n, r, hl, e⟩ := I.lstM hH
  have hlen : its.toArray.size * k.toNat ≤ sizeLine := by rw [List.size_toArray, ← hl]; exact hz
  have hcap : ¬ its.toArray.size * k.toNat > (2 ^ 63 - 1) / 8 := by
    have : (sizeLine : Nat) ≤ (2 ^ 63 - 1) / 8 := by decide
    omega
  have hfit : ¬ (!Builtin.List.listFitsIndex k) = true := by
    rw [fitsIndex_both h1 h2]
    exact Bool.false_ne_true
  have hlong : ¬ Builtin.List.listTooLong (its.toArray.size * k.toNat) = true := by
    rw [notLongL hlen]
    exact Bool.false_ne_true
  have hnew : List.foldl (fun x1 x2 => x1 ++ x2) #[] (List.replicate (if its.toArray.isEmpty = true then 0 else k.toNat) its.toArray) = (List.replicate k.toNat its).flatten.toArray := by
    have f0 : ∀ m : Nat, List.foldl (fun x1 x2 => x1 ++ x2) #[] (List.replicate m its.toArray) = (List.replicate m its).flatten.toArray := fun m => by
      have := foldl_rep its m []
      rw [List.nil_append] at this
      exact this
    rw [f0]
    cases its with
    | nil => simp
    | cons a r' => rw [if_neg (by simp)]
  refine wpAny_binaryOp_repeat_ref (T := "list") (U := "int") (by decide) ⟨_, e, rfl⟩ (fun s' => typeIs_int s' k t) noFill_list_mul F.fills_int_mul F.slot_int_rmul repeat_list F.slot_int_index.lookup
    (call_meets F.slot_int_rmul (typeIs_int s k t) F.entry_int_rmul (F.args_int_rmul_2 _ _) (int___rmul___int_list k t l its.toArray n)
      ⟨e, rfl, ⟨_, e, rfl⟩, call_meets F.slot_list_mul ⟨_, e, rfl⟩ F.entry_list_mul (F.args_list_mul_2 _ _) (AutoListH.list___mul___list_int_3 l its.toArray n k t hfit hcap hlong) ⟨e, ?_⟩⟩)
  rw [hnew]
  exact ⟨.ref _, _, I.lnew (t' := s.toks) (r.rep k.toNat) (by rw [len_rep, Nat.mul_comm]; exact hz), rfl, q _ I.fresh⟩

/-! ### del xs[i] -/
end

/-! ### xs[a:b] = ys -/
section
variable {prog : Program} {w : World} {A : Around} {E : Value → Shared → Prop} {s : Shared}
set_option maxRecDepth 100000 in
end

section
variable {X : Cx}
end
end L2

namespace Att
open PySem PySem.W PySem.Calls PyProof.Rows

/-! ### the script -/
theorem ints_of_wellAll {P : Params} {h : Heap} : ∀ (ns : List Int) (vs : List Value), WellAll P h vs (ns.map WData.int) → IntsAre vs ns := by
  intro ns
  induction ns with
  | nil =>
    intro vs w
    rw [List.map_nil] at w
    cases w
    exact .nil
  | cons n ns ih =>
    intro vs w
    rw [List.map_cons] at w
    cases w with
    | cons a b =>
      cases a
      exact .cons _ _ (ih _ b)

theorem script_of {l : OpenLaw} {n : Nat} (hn : l.most = some n) {P : Params} {h : Heap} {args : List WData} {vals : List Value}
    (hpre : l.row.toRowW.claim.pre args = true) (hwl : WellAll P h vals args) :
    ∃ a vs ns, vals = [Value.ref a] ∧ args = [WData.list (ns.map WData.int)] ∧ h.get? a = some { cls := .type "list", data := .seq vs.toArray } ∧ IntsAre vs ns ∧ ns.length ≤ n := by
  have hsh : WShape.hasAll [] args [.list .int] = true := (pre_splitW hpre).1
  have hc : l.pre.holds [] { args := args } = true := (pre_splitW hpre).2
  obtain ⟨d, r, rfl, h1, h2⟩ := hasAllW_cons hsh
  obtain rfl := hasAllW_nil h2
  obtain ⟨xs, rfl, h3⟩ := hasW_list h1
  obtain ⟨ns, rfl⟩ := items_int h3
  have hlen : ns.length ≤ n := by
    unfold OpenLaw.pre at hc
    have h4 : (WTm.not (.lt (.lit (.int (n : Int))) (.len (.arg 0)))).holds [] { args := [.list (ns.map .int)] } = true := by
      have h4 := (holds_andW hc).1
      rw [hn] at h4
      exact h4
    have h5 := condW_of h4 (w_not (w_lt w_lit (w_len_list (w_arg rfl))))
    rw [List.length_map] at h5
    refine Nat.le_of_not_lt fun q => ?_
    have q' : (n : Int) < ((ns.length : Nat) : Int) := by omega
    first
      | (rw [decide_eq_true q'] at h5; exact absurd h5 (by decide))
      | (simp at h5; omega)
  cases hwl with
  | cons w1 w2 =>
    cases w2
    cases w1 with
    | list ho hall => exact ⟨_, _, ns, rfl, rfl, ho, ints_of_wellAll ns _ hall, hlen⟩

theorem post_true (l : OpenLaw) (args : List WData) : l.row.toRowW.claim.post args (.bool true) args = true :=
  postW_of (r := l.row.toRowW) (X := (true == true))
    (show WShape.has [] (.bool true) .bool = true by first | rfl | decide | simp [WShape.has, WShape.arms, WShape.armsAll])
    (show (WTm.eq .res (.lit (.bool true))).value [] { args := args, res := some (.bool true), after := args } = some (.bool (true == true)) from w_eq_bool (w_res rfl) w_lit) rfl

/-! ### the attachment: holds_open's last premise (the goal 'hc' behind k_head) from a wpAny of the law's body -/

/-- the same from a codeAny of the CALL (for a layer whose function contracts speak of calls) -/
theorem attach_call {l : OpenLaw} {n : Nat} {q : Program} {loose : List Str} {XP : (Str → Option Value) → Heap → Prop} {YP : World → Heap → Prop} {d : DefRec}
    (hn : l.most = some n) (hdf : d.params.defaults = [])
    (call : ∀ (w : World) (s₀ s₁ : Shared) (mg mb : Str → Option Value) (fa : Addr) (o : Obj) (pm cd doc : Value) (a : Addr) (vs : List Value) (ns : List Int),
      Ground q loose [] XP w s₀ mg mb s₁.heap → YP w s₁.heap →
      s₁.heap.get? fa = some o → o.data = .func (docDef d.name d.params d.body d.scope pm cd doc) → s₁.heap.CodeRec cd d.name → mg d.name = some (.ref fa) →
      s₁.heap.get? a = some { cls := .type "list", data := .seq vs.toArray } → IntsAre vs ns → ns.length ≤ n → s₁.gens = #[] →
      codeAny (model l.prog w) callerA (.call (.ref fa) ⟨[.ref a], []⟩) (fun r s' => r = .ok (.ret (.bool true)) ∧ OldK s₁.heap s'.heap ∧ s'.os = s₁.os ∧ AllBare s'.gens) s₁) :
    WalkO q loose XP YP l.row.toRowW d [] (fun f vs => PySem.call f vs) := by
  intro w s₀ s₁ mg mb G Y fa o pm cd doc dV kV ho hd hcd hD hmg hg args vals as hpre hlay hrd hwl hlo
  obtain rfl : dV = .none := Dflts.none hD hdf
  obtain rfl : kV = .none := Dflts.noKw hD
  obtain ⟨a, vs, ns, rfl, rfl, hobj, hints, hlen⟩ := script_of hn hpre hwl
  refine enter_call (codeAny_mono (call w s₀ s₁ mg mb fa o pm cd doc a vs ns G Y ho (fd_plain hd) hcd hmg hobj hints hlen hg) fun r s' hq => ?_)
  obtain ⟨rfl, h2, h3, h4⟩ := hq
  exact ⟨.inl ⟨.bool true, .bool true, [], rfl, fun _ => rfl, .bool true, post_true l _, fun _ => ⟨List.Pairwise.nil, fun _ hm => (nomatch hm)⟩⟩, h2, h3, h4⟩


/-! ### rules over ANY heap (no ledger) from facts about the written part K: the library's own take a ledger (News) for what they write -/
section
variable {prog : Program} {w : World} {A : Around} {E : Value → Shared → Prop} {s : Shared} {K : Frag}





/-! the whole heap as the ledger: makes every rule that writes through a ledger a rule over any heap -/

end
end Att

namespace L2
open PySem PySem.Spec PyProof.Rows

theorem vals_ints : ∀ {vs : List Value} {ns : List Int}, IntsAre vs ns → Vals (ns.map V.int) vs
  | _, _, .nil => .nil
  | _, _, .cons n t h => .cons ⟨t, rfl⟩ (vals_ints h)



end L2

/-! SHORT WORDS over the layer: a def of the text, its body, what a loop and a test want. -/
namespace L2
open PySem PySem.Spec PyProof.Rows

/-! ### the text by places -/
/-- the j-th statement of a class's body -/
def inClass (s : Stmt) (j : Nat) : Stmt := match s with
  | .ClassDef _ _ _ body _ _ _ _ _ _ _ => body.getD j (.Pass ⟨0, 0, 0, 0⟩)
  | _ => .Pass ⟨0, 0, 0, 0⟩
def defArgs (s : Stmt) : Arguments := match s with
  | .FunctionDef _ a _ _ _ _ _ _ _ _ => a
  | _ => { posonlyargs := [], args := [], vararg := none, kwonlyargs := [], kw_defaults := [], kwarg := none, defaults := [] }
def defBody (s : Stmt) : List Stmt := match s with
  | .FunctionDef _ _ b _ _ _ _ _ _ _ => b
  | _ => []
def defScope (s : Stmt) : Scope := match s with
  | .FunctionDef _ _ _ _ _ _ sc _ _ _ => sc
  | _ => { kind := .function, names := [], isGenerator := false, isCoroutine := false }

/-! ### no exception leaves a def -/
abbrev CX0 : CXT := fun _ _ _ _ _ _ => False
abbrev E0 : XK := fun _ _ _ => False
theorem pass0 {X : Cx} : Passes CX0 X E0 := fun _ _ _ _ _ _ _ h => h.elim

/-! ### a def (or method) of the text as it stands behind the top -/
structure Fun (K : PySem.W.Frag) (x qual : Str) (st : Stmt) (f : Addr) (fd : FuncData) : Prop where
  ex : ∃ (oc : Value) (od : Option Addr) (kV doc pm : Value) (an : Option Addr) (cdv ct : Value) (osl : Array (Option Value)),
    fd = PySem.W.fnOf x qual (defArgs st) (defBody st) (defScope st) .none kV doc pm an cdv ct ∧ K.lookup f = some ⟨oc, od, .func fd, osl⟩ ∧ PySem.W.codeIn K cdv qual = true
  kp : PySem.W.keepIn K (.ref f) = true
section
variable {P : Program} {w : World} {K : PySem.W.Frag} {mg : Str → Option Value} {base : Heap}
/-- THE RULE for a def: its body as a term of rules, and the reading of that term -/
theorem Fun.ok {x qual : Str} {st : Stmt} {f : Addr} {fd : FuncData} {N ps : List Str} {k : Nat} {sp : Sp} (F : Fun K x qual st f fd) (S : FnScope N ps (defScope st)) (len : ∀ vs H Q E, sp vs H Q E → vs.length = ps.length)
    (hbody : ∀ (cdv : Value) (A : Around) (outer : List Env) (s : Shared) (H : Hp) (vs : List V) (Q : VK) (E : XK), Room k (A.deeper (envOfC qual (defScope st) s.heap.objs.size f cdv)) → sp vs H Q E →
      ∃ t, PSs (cxOf CX0 P w K mg base N qual (defScope st) f cdv A outer s H E).nox (defBody st) t ∧ t { nx := fun _ H' => Q .non H', rt := Q } (start N vs) H) : FnOk P w K mg base CX0 (k + 1) f fd ps sp := by
  obtain ⟨oc, od, kV, doc, pm, an, cdv, ct, osl, rfl, lk, hcd⟩ := F.ex
  refine fn_of lk hcd S len fun A outer s H vs Q E hr hsp => ?_
  obtain ⟨t, h, q⟩ := hbody cdv A outer s H vs Q E hr hsp
  exact ⟨t, h.nox, q⟩
/-- how its arguments bind (no defaults): h is «fun _ _ _ _ _ _ us hl => match us, hl with | [_, _], _ => rfl», one _ a parameter -/
theorem Fun.binds {x qual : Str} {st : Stmt} {f : Addr} {fd : FuncData} {ps : List Str} (F : Fun K x qual st f fd)
    (h : ∀ (kV doc pm : Value) (an : Option Addr) (cdv ct : Value) (us : List Value), us.length = ps.length → bindArgs (PySem.W.fnOf x qual (defArgs st) (defBody st) (defScope st) .none kV doc pm an cdv ct) ⟨us, []⟩ = pure (ps.zip us)) : Binds K fd ps [] := by
  obtain ⟨oc, od, kV, doc, pm, an, cdv, ct, osl, rfl, lk, hcd⟩ := F.ex
  exact .all (h kV doc pm an cdv ct)
theorem fun_mk {x qual : Str} {st : Stmt} {f : Addr} {oc : Value} {od an : Option Addr} {osl : Array (Option Value)} {kV doc pm cdv ct : Value} (l : K.lookup f = some ⟨oc, od, .func (PySem.W.fnOf x qual (defArgs st) (defBody st) (defScope st) .none kV doc pm an cdv ct), osl⟩)
    (c : PySem.W.codeIn K cdv qual = true) (k : PySem.W.keepIn K (.ref f) = true) : Fun K x qual st f (PySem.W.fnOf x qual (defArgs st) (defBody st) (defScope st) .none kV doc pm an cdv ct) := ⟨⟨oc, od, kV, doc, pm, an, cdv, ct, osl, rfl, l, c⟩, k⟩
end
theorem small1000 {n : Nat} (h : n ≤ 1000) : n < sizeLine := Nat.lt_of_le_of_lt h (by decide)

/-! ### expressions in short: the name that stands in the i-th slot -/
section
variable {X : Cx}
theorem pv (i : Nat) {x : Str} {pos : Pos} (hN : X.N[i]? = some x := by rfl) (hv : Vis X.env.scope x := by first | exact Or.inl rfl | exact Or.inr (Or.inl rfl) | exact Or.inr (Or.inr rfl)) (hd : (x == ("__debug__" : Str)) = false := by decide)
    (hcd : (x == ("__classdict__" : Str)) = false := by decide) : PE X (.Name x pos) (tVar i) := pe_var hN hv hd hcd
end

/-! ### tests -/
theorem iteF {A B : Prop} (h : B) : if false = true then A else B := by
  rw [if_neg Bool.false_ne_true]
  exact h
theorem iteT {A B : Prop} (h : A) : if true = true then A else B := by
  rw [if_pos rfl]
  exact h
theorem iteNS {c A B : Prop} [Decidable c] (hc : c) (h : B) : if (!decide c) = true then A else B := by
  rw [decide_eq_true hc]
  exact iteF h

/-! ### heaps -/
/-- all that was tracked is as it was -/
def Same (H H' : Hp) : Prop := ∀ b o, H b = some o → H' b = some o
theorem Same.refl (H : Hp) : Same H H := fun _ _ h => h
theorem Same.trans {H H1 H2 : Hp} (a : Same H H1) (b : Same H1 H2) : Same H H2 := fun c o h => b c o (a c o h)
theorem Same.free {H H' : Hp} (e : Same H H') {l : Addr} (h : H' l = Option.none) : H l = Option.none := by
  cases q : H l with
  | none => rfl
  | some o =>
    rw [e l o q] at h
    cases h
theorem Same.seq {K : PySem.W.Frag} {H H' : Hp} {a : Addr} {xs : List V} (e : Same H H') (h : SqL K H a xs) : SqL K H' a xs := by
  rcases h with (h | ⟨o, h⟩) | h
  · exact .inl (.inl (e _ _ h))
  · exact .inl (.inr ⟨o, e _ _ h⟩)
  · exact .inr h

end L2
/-! Comprehensions over the hand layer: [elt for tg in iter (if test)]. -/
namespace L2
open PySem PySem.Spec PyProof.Rows

/-! ### the cells that the block is handed -/
def compCl (env : Env) : List (Str × NameKind) → List (Str × Addr) → List (Str × Addr)
  | [], acc => acc
  | (n, k) :: r, acc => compCl env r (if k == .free then (n, (env.cells.lookup n).getD 0) :: acc else acc)

theorem closure_go {env : Env} : ∀ (l : List (Str × NameKind)) (acc : List (Str × Addr)), (∀ y ∈ l, y.2 = .free → ∃ c, env.cells.lookup y.1 = some c) →
    (forIn l acc fun (x : Str × NameKind) (cs : List (Str × Addr)) => (if x.2 == .free then (do let c ← cellOf env x.1; pure (ForInStep.yield ((x.1, c) :: cs))) else pure (ForInStep.yield cs) : Sem (ForInStep (List (Str × Addr))))) = pure (compCl env l acc)
  | [], acc, _ => by rw [List.forIn_nil]; rfl
  | (n, k) :: r, acc, h => by
    have ih := fun a => closure_go (env := env) r a fun y hy => h y (List.mem_cons_of_mem _ hy)
    rw [List.forIn_cons]
    by_cases e : (k == NameKind.free) = true
    · obtain ⟨c, hc⟩ := h (n, k) List.mem_cons_self (by simpa using e)
      have hc' : env.cells.lookup n = some c := hc
      have hcell : cellOf env n = pure c := by unfold cellOf; rw [hc']
      simp only [e, if_true, hcell, pure_bind]
      rw [ih]
      show _ = pure (compCl env r (if k == .free then (n, (env.cells.lookup n).getD 0) :: acc else acc))
      rw [if_pos e, hc']
      rfl
    · simp only [e, if_false, pure_bind, Bool.false_eq_true]
      rw [ih]
      show _ = pure (compCl env r (if k == .free then (n, (env.cells.lookup n).getD 0) :: acc else acc))
      rw [if_neg e]
theorem closure_eq {env : Env} {scope : Scope} (h : ∀ y ∈ scope.names, y.2 = .free → ∃ c, env.cells.lookup y.1 = some c) : closureFor scope env = pure (compCl env scope.names []) := by
  have q := closure_go (env := env) scope.names [] h
  unfold closureFor
  simp only [bind_pure]
  exact q
theorem look_cons {n x : Str} {c : Addr} {l : List (Str × Addr)} : ((n, c) :: l).lookup x = if x == n then some c else l.lookup x := by
  rw [List.lookup_cons]
  cases x == n <;> rfl
theorem compCl_look {env : Env} : ∀ (l : List (Str × NameKind)) (acc : List (Str × Addr)) (x : Str) (c : Addr), (∀ y ∈ l, y.2 = .free → ∃ c, env.cells.lookup y.1 = some c) → (compCl env l acc).lookup x = some c → acc.lookup x = some c ∨ env.cells.lookup x = some c
  | [], acc, x, c, _, e => .inl e
  | (n, k) :: r, acc, x, c, h, e => by
    have ih := compCl_look (env := env) r _ x c (fun y hy => h y (List.mem_cons_of_mem _ hy)) (show (compCl env r (if k == .free then (n, (env.cells.lookup n).getD 0) :: acc else acc)).lookup x = some c from e)
    rcases ih with ih | ih
    · by_cases ek : (k == NameKind.free) = true
      · rw [if_pos ek, look_cons] at ih
        by_cases ex : (x == n) = true
        · rw [if_pos ex] at ih
          obtain ⟨c', hc⟩ := h (n, k) List.mem_cons_self (by simpa using ek)
          have hc' : env.cells.lookup n = some c' := hc
          rw [hc'] at ih
          have e1 : c' = c := Option.some.inj ih
          have e2 : x = n := by simpa using ex
          exact .inr (by rw [e2, hc', e1])
        · rw [if_neg ex] at ih
          exact .inl ih
      · rw [if_neg ek] at ih
        exact .inl ih
    · exact .inr ih
theorem compCl_keep {env : Env} : ∀ (l : List (Str × NameKind)) (acc : List (Str × Addr)) (x : Str), (∃ c, acc.lookup x = some c) → ∃ c, (compCl env l acc).lookup x = some c
  | [], acc, x, h => h
  | (n, k) :: r, acc, x, ⟨c, h⟩ => by
    refine compCl_keep (env := env) r (if k == .free then (n, (env.cells.lookup n).getD 0) :: acc else acc) x ?_
    by_cases ek : (k == NameKind.free) = true
    · rw [if_pos ek, look_cons]
      by_cases ex : (x == n) = true
      · rw [if_pos ex]; exact ⟨_, rfl⟩
      · rw [if_neg ex]; exact ⟨c, h⟩
    · rw [if_neg ek]; exact ⟨c, h⟩
theorem compCl_has {env : Env} : ∀ (l : List (Str × NameKind)) (acc : List (Str × Addr)) (x : Str), (x, NameKind.free) ∈ l → ∃ c, (compCl env l acc).lookup x = some c
  | [], acc, x, h => by cases h
  | (n, k) :: r, acc, x, h => by
    rcases List.mem_cons.mp h with e | e
    · obtain ⟨e1, e2⟩ := Prod.mk.inj e
      refine compCl_keep (env := env) r _ x ?_
      rw [if_pos (show (k == NameKind.free) = true from by rw [← e2]; rfl), look_cons, if_pos (show (x == n) = true from by rw [e1]; simp)]
      exact ⟨_, rfl⟩
    · exact compCl_has (env := env) r _ x e

/-! ### the block's names -/
abbrev relN (env : Env) (l : List (Str × NameKind)) : List (Str × NameKind) := l.map fun (n, k) => if (k == NameKind.free && env.scope.kind == .function && env.kindOf n == some .cell) then (n, NameKind.cell) else (n, k)
theorem relN_cons {env : Env} {n x : Str} {k : NameKind} {r : List (Str × NameKind)} :
    (relN env ((n, k) :: r)).lookup x = if x == n then some (if (k == NameKind.free && env.scope.kind == .function && env.kindOf n == some .cell) then NameKind.cell else k) else (relN env r).lookup x := by
  show List.lookup x ((if (k == NameKind.free && env.scope.kind == .function && env.kindOf n == some .cell) = true then (n, NameKind.cell) else (n, k)) :: relN env r) = _
  by_cases hc : (k == NameKind.free && env.scope.kind == .function && env.kindOf n == some .cell) = true
  · rw [if_pos hc, if_pos hc, List.lookup_cons]
    cases x == n <;> rfl
  · rw [if_neg hc, if_neg hc, List.lookup_cons]
    cases x == n <;> rfl
theorem lk_cons {n x : Str} {k : NameKind} {r : List (Str × NameKind)} : ((n, k) :: r).lookup x = if x == n then some k else r.lookup x := by
  rw [List.lookup_cons]
  cases x == n <;> rfl
theorem relN_free {env : Env} : ∀ {l : List (Str × NameKind)} {x : Str}, l.lookup x = some .free → (relN env l).lookup x = some .cell ∨ (relN env l).lookup x = some .free
  | [], x, h => by cases h
  | (n, k) :: r, x, h => by
    rw [lk_cons] at h
    rw [relN_cons]
    by_cases ex : (x == n) = true
    · rw [if_pos ex] at h ⊢
      have hk : k = .free := Option.some.inj h
      subst hk
      split
      · exact .inl rfl
      · exact .inr rfl
    · rw [if_neg ex] at h ⊢
      exact relN_free h
theorem relN_inv {env : Env} : ∀ {l : List (Str × NameKind)} {x : Str}, (∀ y ∈ l, y.2 ≠ .cell) → ((relN env l).lookup x = some .cell ∨ (relN env l).lookup x = some .free) → l.lookup x = some .free
  | [], x, _, h => by rcases h with h | h <;> cases h
  | (n, k) :: r, x, hc, h => by
    rw [relN_cons] at h
    rw [lk_cons]
    by_cases ex : (x == n) = true
    · rw [if_pos ex] at h ⊢
      have hk := hc (n, k) List.mem_cons_self
      have hk' : k ≠ .cell := hk
      by_cases c : (k == NameKind.free && env.scope.kind == .function && env.kindOf n == some .cell) = true
      · have : k = .free := by
          simp only [Bool.and_eq_true] at c
          simpa using c.1.1
        rw [this]
      · simp only [if_neg c] at h
        rcases h with h | h
        · exact absurd (Option.some.inj h) hk'
        · exact h
    · rw [if_neg ex] at h ⊢
      exact relN_inv (fun y hy => hc y (List.mem_cons_of_mem _ hy)) h

/-- the context of a comprehension's block: C its names' dict, s2 and H2 the state when its iterator was made, fp the iterator's objects -/
def compCx (X : Cx) (scope : Scope) (N' : List Str) (C : Addr) (s2 : Shared) (H2 : Hp) (fp : List Addr) (E : Value → Shared → Prop) : Cx where
  prog := X.prog
  w := X.w
  K := X.K
  mg := X.mg
  base := X.base
  A := X.A
  N := N'
  s₀ := s2
  H₀ := H2
  env := compEnvC scope (compCl X.env scope.names []) C X.env
  outer := X.stack
  stack := X.stack
  ex := fp
  fn := fun _ => false
  calm := X.calm
  pn := []
  xe := E
/-- the values of the names that the block takes from around it -/
def capS (cap : List (Option Nat)) (σ : St) : St := cap.map fun o => o.bind fun j => (σ[j]?).join
structure CSc (X : Cx) (scope : Scope) (N' : List Str) (cap : List (Option Nat)) : Prop where
  kind : scope.kind = .function
  nocell : ∀ y ∈ scope.names, y.2 ≠ .cell
  names : ∀ y ∈ scope.names, y.2 = .local → scope.names.lookup y.1 = some .local
  free : ∀ y ∈ scope.names, y.2 = .free → X.env.kindOf y.1 = some .cell ∨ X.env.kindOf y.1 = some .free
  len : cap.length = N'.length
  cap : ∀ i ∈ List.range cap.length, ∀ j ∈ (cap[i]?).join, N'[i]? = X.N[j]? ∧ (N'[i]?).isSome = true ∧ (N'[i]?).bind (fun n => scope.names.lookup n) = some .free
/-- the same over closed things: the scope around, its names -/
structure CScD (sc : Scope) (N : List Str) (scope : Scope) (N' : List Str) (cap : List (Option Nat)) : Prop where
  kind : scope.kind = .function
  nocell : ∀ y ∈ scope.names, y.2 ≠ .cell
  names : ∀ y ∈ scope.names, y.2 = .local → scope.names.lookup y.1 = some .local
  free : ∀ y ∈ scope.names, y.2 = .free → sc.names.lookup y.1 = some .cell ∨ sc.names.lookup y.1 = some .free
  len : cap.length = N'.length
  cap : ∀ i ∈ List.range cap.length, ∀ j ∈ List.range N.length, cap[i]? = some (some j) → N'[i]? = N[j]? ∧ (N'[i]?).isSome = true ∧ (N'[i]?).bind (fun n => scope.names.lookup n) = some .free
theorem csc_of {X : Cx} {sc : Scope} {N : List Str} {scope : Scope} {N' : List Str} {cap : List (Option Nat)} (hs : X.env.scope = sc) (hN : X.N = N) (D : CScD sc N scope N' cap) (hc : (cap.all fun o => o.all fun j => decide (j < N.length)) = true := by rfl) : CSc X scope N' cap := by
  subst hs hN
  refine ⟨D.kind, D.nocell, D.names, D.free, D.len, fun i hi j hj => ?_⟩
  have e : cap[i]? = some (some j) := by
    cases q : cap[i]? with
    | none => rw [q] at hj; cases hj
    | some o =>
      rw [q] at hj
      have : o = some j := hj
      rw [this]
  have hm : some j ∈ cap := List.mem_of_getElem? e
  have hl := List.all_eq_true.mp hc (some j) hm
  have hl' : j < X.N.length := of_decide_eq_true (by simpa using hl)
  exact D.cap i hi j (List.mem_range.mpr hl') e
def PIfs (X : Cx) (ifs : List Expr) (t : TT) : Prop :=
  ∀ (pins : List (Addr × Obj)) (s : Shared) (σ : St) (H : Hp) (Q : Bool → Hp → Prop), Inv X pins σ H s → t σ H Q →
    wpAny (model X.prog X.w) X.A (forIn ifs true fun c r => if r = true then do let ok ← isTrue c X.env (eval c X.env); pure (ForInStep.yield ok) else pure (ForInStep.yield r)) (TP X pins σ Q) X.xe s
def tAll : TT := fun _ H Q => Q true H
theorem pif_nil {X : Cx} : PIfs X [] tAll := fun _ _ _ H _ I h => wpAny_tests_nil ⟨H, I, h⟩

/-- one turn after another -/
theorem comp_loop {prog : Program} {w : World} {A : Around} {R : Result → Shared → Prop} {s : Shared} {elt tg iter : Expr} {ifs : List Expr} {scope : Scope} {pos : Pos} {it acc : Value} {env : Env} {NE : Value → Shared → Prop}
    (hN : NE = notedBy (model prog w) A env fun e s' => R (.error e) s') (I : Nat → Shared → Prop)
    (turn : ∀ n s, I n s → wpAny (model prog w) A (pyNext it) (fun r s1 => match r with
      | none => R (.ok .next) s1
      | some v => wpAny (model prog w) A (letOwnedTupleGo tg it v) (fun _ s2 => wpAny (model prog w) A (assign tg env v) (fun _ s3 =>
          wpAny (model prog w) A (forIn ifs true fun c r => if r = true then do let ok ← isTrue c env (eval c env); pure (ForInStep.yield ok) else pure (ForInStep.yield r)) (fun ok s4 =>
            if ok = true then wpAny (model prog w) A (eval elt env) (fun x s5 => wpAny (model prog w) A (call (.builtin "list.append") [acc, x]) (fun _ s6 => ∃ m, m < n ∧ I m s6) NE s5) NE s4
            else ∃ m, m < n ∧ I m s4) NE s3) NE s2) NE s1) NE s)
    (n : Nat) (h : I n s) : codeAny (model prog w) A (.compLoop (.ListComp elt [⟨tg, iter, ifs, 0⟩] scope pos) 0 it acc env) R s := by
  subst hN
  refine codeAny_loop rfl I (fun k s' hI => ?_) n h
  refine (wpAny_noted ?_ : wpAny _ A ((compTurn (.ListComp elt [⟨tg, iter, ifs, 0⟩] scope pos) 0 it acc env).onRaise (fun x => do noteFrame x env; theTreesLotGoes x)) _ _ s')
  rw [compTurn_list]
  refine wpAny_bind (wpAny_standAt (wpAny_bind (thn (turn k s' hI) fun r s1 h1 => ?_)))
  cases r with
  | none => exact wpAny_pure h1
  | some v =>
    refine wpAny_bind (thn h1 fun _ s2 h2 => wpAny_bind (thn h2 fun _ s3 h3 => wpAny_bind (thn h3 fun ok s4 h4 => ?_)))
    cases ok with
    | false => exact wpAny_pure ⟨rfl, h4⟩
    | true => exact wpAny_bind (wpAny_bind (thn h4 fun x s5 h5 => wpAny_bind (thn h5 fun _ s6 h6 => wpAny_pure (wpAny_pure ⟨rfl, h6⟩))))

/-- the turns' reading: what the block does with the items of J, its list at p -/
def Turns (J : It) (g : TG) (tst : TT) (te : TE) (p : Addr) (Q : Hp → Prop) (σ : St) (H : Hp) : Prop :=
  ∃ W : Nat → Nat → St → Hp → Prop, (∃ m, W 0 m σ H) ∧ ∀ i m σ' H', W i m σ' H' →
    (J.stop i H' ∧ Q H') ∨ (J.go i H' ∧ ∃ N : St → Hp → Prop, (∀ σ2 H2, N σ2 H2 → ∃ m', m' < m ∧ W (i + 1) m' σ2 H2) ∧
      ∀ x H1, J.yld i H' x H1 → g x σ' H1 fun σ2 H2 => tst σ2 H2 fun c H3 => if c = true then te σ2 H3 fun y H4 => ∃ xs, H4 p = some (.lst xs) ∧ xs.length < sizeLine ∧ N σ2 (upd H4 p (.lst (xs ++ [y]))) else N σ2 H3)
def tComp (wi : TI) (cap : List (Option Nat)) (g : TG) (tst : TT) (te : TE) : TE := fun σ H Q => wi σ H fun J H1 => ∀ p, H1 p = none → Turns J g tst te p (fun H' => Q (.ref p) H') (capS cap σ) (upd H1 p (.lst []))

section
variable {X : Cx} {pins : List (Addr × Obj)} {σ : St} {H : Hp} {s : Shared}

theorem Inv.cellOf (I : Inv X pins σ H s) {scope : Scope} {N' : List Str} {cap : List (Option Nat)} (S : CSc X scope N' cap) : ∀ y ∈ scope.names, y.2 = .free → ∃ c, X.env.cells.lookup y.1 = some c := fun y hy e => I.ok.has y.1 (S.free y hy e)
theorem Inv.clLook (I : Inv X pins σ H s) {scope : Scope} {N' : List Str} {cap : List (Option Nat)} (S : CSc X scope N' cap) {x : Str} {c : Addr} (e : (compCl X.env scope.names []).lookup x = some c) : X.env.cells.lookup x = some c := by
  rcases compCl_look scope.names [] x c (I.cellOf S) e with h | h
  · cases h
  · exact h

/-- the block's context is sound -/
theorem Inv.compOk (I : Inv X pins σ H s) {scope : Scope} {N' : List Str} {cap : List (Option Nat)} (S : CSc X scope N' cap) {fp : List Addr} {C : Addr} {E : Value → Shared → Prop} (hC : s.heap.objs.size ≤ C) (hf : ∀ b ∈ fp, FpOk X pins H b)
    (ho : ∀ b ∈ fp, b < s.heap.objs.size) : (compCx X scope N' C s H fp E).Ok := by
  have nst : ∀ b ∈ fp, b ∉ frs X.stack := fun b hb z => by
    obtain ⟨_, f1, f2, _⟩ := hf b hb
    rcases List.mem_cons.mp (I.stkSub b z) with e | e
    · exact f1 e
    · exact f2 e
  refine ⟨I.ok.mod, S.kind, I.ok.glob, I.ok.blt, hC, fun x y c h1 h2 => ?_, fun x hx => ?_, fun x c h => (by cases h), I.ok.hd, I.ok.frames, .inl rfl, fun b hb => ⟨?_, fun x c e => ?_⟩, fun b o e => I.bs b o e, Nat.le_trans I.ok.bsz I.sz, fun b o e hb => ?_, nst, I.stack, I.stkFree⟩
  · exact I.ok.inj x y c (I.clLook S h1) (I.clLook S h2)
  · have q : scope.names.lookup x = some .free := relN_inv S.nocell hx
    exact compCl_has _ _ x (PySem.mem_of_lookup q)
  · exact Nat.ne_of_lt (Nat.lt_of_lt_of_le (ho b hb) hC)
  · exact (hf b hb).2.2.2.2.1 x c (I.clLook S e)
  · rcases (hf b hb).2.2.2.1 with z | z
    · exact I.ok.noex b o e z
    · exact absurd (Nat.lt_of_lt_of_le (Heap.lt_size e) (Nat.le_trans I.ok.bsz z)) (Nat.lt_irrefl _)

/-- the block's first state: the new list at the heap's end, the names' dict behind it -/
theorem Inv.compStart (I : Inv X pins σ H s) {scope : Scope} {N' : List Str} {cap : List (Option Nat)} (S : CSc X scope N' cap) {fp : List Addr} {D C : Addr} {h1 : Heap} {m : Str → Option Value} {tk : Nat} {E : Value → Shared → Prop}
    (hD : s.heap.objs.size ≤ D) (hC : s.heap.objs.size ≤ C) (hDC : D ≠ C) (hf : ∀ b ∈ fp, FpOk X pins H b) (ho : ∀ b ∈ fp, b < s.heap.objs.size)
    (k : ∀ b o, s.heap.get? b = some o → h1.get? b = some o) (hd : h1.get? D = some { cls := .type "list", data := .seq #[] }) (hn : h1.Ns C m) :
    Inv (compCx X scope N' C s H fp E) [] (capS cap σ) (upd H D (.lst [])) { s with heap := h1, toks := tk } := by
  have lt : ∀ b o, s.heap.get? b = some o → b ≠ D := fun b o e => Nat.ne_of_lt (Nat.lt_of_lt_of_le (Heap.lt_size e) hD)
  refine ⟨I.compOk S hC hf ho, rfl, I.bare, Un.laid k hD (I.hok.fresh hD), ⟨m, hn, fun i x v e1 e2 e3 => ?_⟩, fun x c e => ?_, ?_, fun x c e => ?_, fun p hp => absurd (show p ∈ ([] : List (Addr × Obj)) from hp) (by simp),
    I.hok.laid k hD ⟨Nat.zero_le _, [], _, .nil, hd⟩, by unfold capS; rw [List.length_map]; exact S.len⟩
  · -- a name taken from around
    have e2' : (cap.map fun o => o.bind fun j => (σ[j]?).join)[i]? = some (some v) := e2
    rw [List.getElem?_map] at e2'
    cases hc : cap[i]? with
    | none => rw [hc] at e2'; cases e2'
    | some o =>
      rw [hc] at e2'
      have e2'' : (o.bind fun j => (σ[j]?).join) = some v := Option.some.inj e2'
      cases o with
      | none => cases e2''
      | some j =>
        have hv : (σ[j]?).join = some v := e2''
        have hσ : σ[j]? = some (some v) := by
          cases q : σ[j]? with
          | none => rw [q] at hv; cases hv
          | some w' => rw [q] at hv; rw [show w' = some v from hv]
        have hi : i ∈ List.range cap.length := List.mem_range.mpr (List.getElem?_eq_some_iff.mp hc).1
        obtain ⟨a1, _, a3⟩ := S.cap i hi j (by rw [hc]; rfl)
        have e1' : N'[i]? = some x := e1
        rw [e1'] at a1 a3
        have a3' : scope.names.lookup x = some .free := a3
        have hk := S.free _ (PySem.mem_of_lookup a3') rfl
        have hk' : X.env.kindOf x = some .cell ∨ X.env.kindOf x = some .free := hk
        obtain ⟨m0, hn0, hl⟩ := I.loc
        obtain ⟨u, ru, lk⟩ := hl j x v a1.symm hσ (hk'.elim (fun z => .inr (.inl z)) fun z => .inr (.inr z))
        refine ⟨u, ru, ?_⟩
        rcases lk with ⟨z, _⟩ | ⟨_, c, ec, hcell⟩
        · rcases hk' with q | q
          · rw [z] at q; cases q
          · rw [z] at q; cases q
        · obtain ⟨c', ec'⟩ := compCl_has (env := X.env) scope.names [] x (PySem.mem_of_lookup a3')
          have : c' = c := Option.some.inj ((I.clLook S ec').symm.trans ec)
          subst this
          exact .inr ⟨relN_free (env := X.env) a3', c', ec', hcell.keeps k⟩
  · obtain ⟨v, z⟩ := I.cell x c (I.clLook S e)
    exact ⟨v, z.keeps k⟩
  · show upd H D _ C = none
    rw [upd_ne hDC.symm]
    exact I.hok.fresh hC
  · obtain ⟨v, o, z, _⟩ := I.cell x c (I.clLook S e)
    rw [upd_ne (lt c o z)]
    exact I.freeC x c (I.clLook S e)

theorem Inv.compBack {scope : Scope} {N' : List Str} {fp : List Addr} {C : Addr} {E : Value → Shared → Prop} {pins' : List (Addr × Obj)} {σ' : St} {H' : Hp} {s' : Shared} (I : Inv X pins σ H s) (hf : ∀ b ∈ fp, FpOk X pins H b)
    (J : Inv (compCx X scope N' C s H fp E) pins' σ' H' s') : Inv X pins σ H' s' :=
  I.call' (ch := fp) J.os J.base J.hok J.bare fun b hb => ⟨(hf b hb).2.2.2.1, (hf b hb).2.1, (hf b hb).2.2.2.2.1, (hf b hb).2.2.2.2.2⟩

/-- the end of the block -/
def CompEnd (X : Cx) (pins : List (Addr × Obj)) (σ : St) (Q : VK) (acc : Value) (C : Addr) (r : Result) (s' : Shared) : Prop :=
  match r with
  | .ok _ => ∃ p H' m, acc = .ref p ∧ Inv X pins σ H' s' ∧ FpOk X pins H' C ∧ s'.heap.Ns C m ∧ Q (.ref p) H'
  | .error _ => False

theorem comp_core {elt tg iter : Expr} {ifs : List Expr} {scope : Scope} {pos : Pos} {N' : List Str} {cap : List (Option Nat)} {wi : TI} {g : TG} {tst : TT} {te : TE} {Q : VK} (hc : X.calm = true) (S : CSc X scope N' cap) (hi : PI X tg iter wi)
    (hg : ∀ C s2 H2 fp, PG (compCx X scope N' C s2 H2 fp fun _ _ => False) tg g) (ht : ∀ C s2 H2 fp, PIfs (compCx X scope N' C s2 H2 fp fun _ _ => False) ifs tst)
    (he : ∀ C s2 H2 fp, PE (compCx X scope N' C s2 H2 fp fun _ _ => False) elt te) (I : Inv X pins σ H s) (h : tComp wi cap g tst te σ H Q) :
    wpAny (model X.prog X.w) X.A (eval iter X.env) (fun x s1 => wpAny (model X.prog X.w) X.A (pyIter x) (fun it s2 => wpAny (model X.prog X.w) X.A (newList []) (fun acc s3 =>
      wpAny (model X.prog X.w) X.A (newFunctionEnv scope X.env.globals (compCl X.env scope.names []) [] X.env.qual none .none (some X.env)) (fun cenv s4 =>
        codeAny (model X.prog X.w) X.A (.compStart (.ListComp elt [⟨tg, iter, ifs, 0⟩] scope pos) 0 it acc { cenv with scope := relabel scope X.env }) (CompEnd X pins σ Q acc cenv.locals) s4) X.xe s3) X.xe s2) X.xe s1) X.xe s := by
  refine thn (hi pins s σ H _ I h) fun v s1 h1 => thn h1 fun itv s2 h2 => ?_
  obtain ⟨it, fp, tn, J, H2, e, I2, T, st2, f2, q⟩ := h2
  subst e
  have ho : ∀ b ∈ fp, b < s2.heap.objs.size := fun b hb => by
    obtain ⟨o, e, _⟩ := T.obj _ _ st2 b hb
    exact Heap.lt_size e
  refine wpAny_newObj_type (wpAny_newFunctionEnv S.nocell (by intro y hy; simp at hy) (fun hp1 hns1 hsb1 => ?_) S.kind)
  have hDn : s2.heap.objs.size ≠ (s2.heap.push { cls := .type "list", dict := none, data := .seq ([] : List Value).toArray }).objs.size := by rw [Heap.size_push]; exact Nat.ne_of_lt (Nat.lt_succ_self _)
  have hCle : s2.heap.objs.size ≤ (s2.heap.push { cls := .type "list", dict := none, data := .seq ([] : List Value).toArray }).objs.size := by rw [Heap.size_push]; exact Nat.le_succ _
  have old : ∀ b o, s2.heap.get? b = some o → hp1.get? b = some o := fun b o e =>
    hsb1.extBut b o (Nat.ne_of_lt (Nat.lt_of_lt_of_le (Heap.lt_size e) hCle)) (Heap.get?_push_of_some _ (Heap.get?_push_of_some _ e))
  have hacc : hp1.get? s2.heap.objs.size = some { cls := .type "list", data := .seq #[] } := hsb1.extBut _ _ hDn (Heap.get?_push_of_some _ (Heap.get?_push_size _ rfl))
  -- the block
  let X' : Cx := compCx X scope N' (s2.heap.push { cls := .type "list", dict := none, data := .seq ([] : List Value).toArray }).objs.size s2 H2 fp fun _ _ => False
  obtain ⟨W, ⟨m0, w0⟩, turn⟩ := q s2.heap.objs.size (I2.hok.fresh (Nat.le_refl _))
  have J0 : Inv X' [] (capS cap σ) (upd H2 s2.heap.objs.size (.lst [])) { s2 with heap := hp1, toks := s2.toks + ([] : List (Str × Value)).length } := I2.compStart S (Nat.le_refl _) hCle hDn f2 ho old hacc hns1
  have stat : ∀ {H' : Hp}, (∀ b ∈ fp, H' b = none) → ∀ b ∈ fp, FpOk X' [] H' b := fun hn b hb => by
    obtain ⟨_, g1, g2, g3, g4, g5⟩ := f2 b hb
    refine ⟨hn b hb, Nat.ne_of_lt (Nat.lt_of_lt_of_le (ho b hb) hCle), J0.ok.exfs b hb, .inl hb, fun x c e => g4 x c (I2.clLook S e), fun p hp => absurd (show p ∈ ([] : List (Addr × Obj)) from hp) (by simp)⟩
  have fr0 : ∀ b ∈ fp, upd H2 s2.heap.objs.size (.lst []) b = none := fun b hb => by rw [upd_ne (Nat.ne_of_lt (ho b hb))]; exact (f2 b hb).1
  have loop : codeAny (model X.prog X.w) X.A (.compLoop (.ListComp elt [⟨tg, iter, ifs, 0⟩] scope pos) 0 (.ref it) (.ref s2.heap.objs.size) X'.env)
      (CompEnd X pins σ Q (.ref s2.heap.objs.size) (s2.heap.push { cls := .type "list", dict := none, data := .seq ([] : List Value).toArray }).objs.size) { s2 with heap := hp1, toks := s2.toks + ([] : List (Str × Value)).length } := by
    refine comp_loop rfl (fun n s' => ∃ i σ' H', Inv X' [] σ' H' s' ∧ tn i s'.heap ∧ (∀ b ∈ fp, H' b = none) ∧ W i n σ' H') ?_ m0 ⟨0, _, _, J0, T.keep _ _ _ st2 fun b _ o e => old b o e, fr0, w0⟩
    rintro n s3 ⟨i, σ3, H3, I3, st3, fr3, w3⟩
    have no : ∀ (e : Value) (s' : Shared), X'.xe e s' → notedBy (model X.prog X.w) X.A X'.env (fun e s' => CompEnd X pins σ Q (.ref s2.heap.objs.size) (s2.heap.push { cls := .type "list", dict := none, data := .seq ([] : List Value).toArray }).objs.size (.error e) s') e s' := fun _ _ z => z.elim
    rcases turn i n σ3 H3 w3 with ⟨stop, qn⟩ | ⟨go, N, hN, step⟩
    · refine wpAny_mono (T.done X' rfl rfl rfl hc i [] s3 σ3 H3 X'.xe I3 (stat fr3) st3 stop) (fun r s4 ⟨hr, I4⟩ => ?_) no
      subst hr
      obtain ⟨mC, hmC, _⟩ := I4.loc
      exact ⟨_, H3, mC, rfl, I2.compBack f2 I4, I2.fpOk hCle I4.free, hmC, qn⟩
    · refine wpAny_mono (T.item X' rfl rfl rfl hc i [] s3 σ3 H3 X'.xe I3 (stat fr3) st3 go) (fun r s4 ⟨u, hr, h4⟩ => ?_) no
      subst hr
      refine wpAny_mono h4 (fun _ s5 ⟨x, H5, I5, r5, y5, st5, fr5⟩ => ?_) no
      have I5' := I5.pinned (stat fr5) (T.obj _ _ st5)
      refine wpAny_mono (hg _ _ _ _ _ s5 σ3 H5 x u _ I5' r5 (step x H5 y5)) (fun _ s6 ⟨σ6, H6, I6, q6⟩ => ?_) no
      refine wpAny_mono (ht _ _ _ _ _ s6 σ6 H6 _ I6 q6) (fun ok s7 ⟨H7, I7, q7⟩ => ?_) no
      have again : ∀ {σ7 : St} {H7 : Hp} {s7 : Shared}, Inv X' ([] ++ pinsAt fp s5.heap) σ7 H7 s7 → N σ7 H7 → ∃ m, m < n ∧ ∃ i σ' H', Inv X' [] σ' H' s7 ∧ tn i s7.heap ∧ (∀ b ∈ fp, H' b = none) ∧ W i m σ' H' := fun {σ7 H7 s7} I7 n7 => by
        obtain ⟨m', hm, w7⟩ := hN σ7 H7 n7
        refine ⟨m', hm, i + 1, σ7, H7, I7.unpinned, T.keep _ _ _ st5 fun b hb o e => (I7.pin (b, o) (List.mem_append_right _ (List.mem_append_right _ (mem_pinsAt hb e)))).1, fun b hb => ?_, w7⟩
        obtain ⟨o, e, d⟩ := T.obj _ _ st5 b hb
        exact (I7.pin (b, o) (List.mem_append_right _ (List.mem_append_right _ (mem_pinsAt hb e)))).2.1
      cases ok with
      | false => exact again I7 q7
      | true =>
        refine wpAny_mono (he _ _ _ _ _ s7 σ6 H7 _ I7 q7) (fun y s8 ⟨z, H8, I8, r8, xs, e8, l8, q8⟩ => ?_) no
        refine wpAny_mono (mt_append (X := X') _ s8 σ6 H8 (.ref s2.heap.objs.size) [z] (.ref s2.heap.objs.size) [y] (fun _ H9 => N σ6 H9) I8 rfl (.cons r8 .nil) ⟨_, xs, z, rfl, rfl, e8, l8, q8⟩) (fun _ s9 ⟨_, H9, I9, _, q9⟩ => ?_) no
        exact again I9 q9
  exact codeAny_compStart_list loop (T.self _ 0 _ _ _ (T.keep _ _ _ st2 fun b _ o e => old b o e) loop)

/-- [elt for tg in iter (if test)] as a value -/
theorem pe_comp {elt tg iter : Expr} {ifs : List Expr} {scope : Scope} {pos : Pos} {N' : List Str} {cap : List (Option Nat)} {wi : TI} {g : TG} {tst : TT} {te : TE} (hc : X.calm = true) (S : CSc X scope N' cap) (hi : PI X tg iter wi)
    (hg : ∀ C s2 H2 fp, PG (compCx X scope N' C s2 H2 fp fun _ _ => False) tg g) (ht : ∀ C s2 H2 fp, PIfs (compCx X scope N' C s2 H2 fp fun _ _ => False) ifs tst)
    (he : ∀ C s2 H2 fp, PE (compCx X scope N' C s2 H2 fp fun _ _ => False) elt te) (hs : ∀ x, foldedSetIterable iter X.env x = pure x := by intro _; rfl) :
    PE X (.ListComp elt [⟨tg, iter, ifs, 0⟩] scope pos) (tComp wi cap g tst te) := by
  intro pins s σ H Q I h
  rw [eval_ListComp]
  refine wpAny_comprehension_free (use := none) rfl hs (closure_eq (I.cellOf S)) S.kind S.names (thn (comp_core (Q := Q) hc S hi hg ht he I h) fun xv s1 h1 => thn h1 fun it s2 h2 => thn h2 fun acc s3 h3 => thn h3 fun cenv s4 h4 => codeAny_mono h4 fun r s5 h5 => ?_)
  cases r with
  | error e => exact False.elim h5
  | ok fl =>
    obtain ⟨p, H', m, rfl, I', F', hn, q⟩ := h5
    refine ⟨m, hn, fun h' sb => ⟨.ref p, H', ?_, rfl, q⟩⟩
    exact I'.turned (t' := s5.toks) (fun b o hb e => sb.extBut b o hb e) F'.1 F'.2.1 F'.2.2.2.1 F'.2.2.2.2.1 F'.2.2.2.2.2
/-- x = [elt for tg in iter (if test)], x a plain local on the comprehension's own line -/
theorem ps_setComp {i : Nat} {x : Str} {elt tg iter : Expr} {ifs : List Expr} {scope : Scope} {pos pos' cpos : Pos} {N' : List Str} {cap : List (Option Nat)} {wi : TI} {g : TG} {tst : TT} {te : TE} (hN : X.N.Nodup) (hx : X.N[i]? = some x) (hl : X.env.scope.names.lookup x = some .local)
    (hc : X.calm = true) (S : CSc X scope N' cap) (hi : PI X tg iter wi)
    (hg : ∀ C s2 H2 fp, PG (compCx X scope N' C s2 H2 fp fun _ _ => False) tg g) (ht : ∀ C s2 H2 fp, PIfs (compCx X scope N' C s2 H2 fp fun _ _ => False) ifs tst)
    (he : ∀ C s2 H2 fp, PE (compCx X scope N' C s2 H2 fp fun _ _ => False) elt te)
    (hsw : swapsWith (.ListComp elt [⟨tg, iter, ifs, 0⟩] scope cpos) (some (.Name x pos')) pos.line X.env = pure true := by rfl) (hs : ∀ x, foldedSetIterable iter X.env x = pure x := by intro _; rfl) :
    PS X (.Assign [.Name x pos'] (.ListComp elt [⟨tg, iter, ifs, 0⟩] scope cpos) pos) (tAsg (tComp wi cap g tst te) (gName i)) := by
  intro pins s σ H D I h
  rw [exec_Assign_Name_used _ _ _ _ hsw]
  refine wpAny_bind (wpAny_standAt (wpAny_bind ?_))
  show wpAny (model X.prog X.w) X.A (do let _ ← comprehension (.ListComp elt [⟨tg, iter, ifs, 0⟩] scope cpos) scope X.env _ (newList []) false (eval iter X.env) (some (assign (.Name x pos') X.env))) _ _ s
  refine wpAny_bind (thn (wpAny_comprehension_free (use := some (assign (.Name x pos') X.env)) (Q := fun _ s' => SP X pins D .next s') rfl hs (closure_eq (I.cellOf S)) S.kind S.names
    (thn (comp_core (Q := fun v H1 => gName i v σ H1 D.nx) hc S hi hg ht he I h) fun xv s1 h1 => thn h1 fun it s2 h2 => thn h2 fun acc s3 h3 => thn h3 fun cenv s4 h4 => codeAny_mono h4 fun r s5 h5 => ?_)) fun _ s' hq => wpAny_pure (wpAny_pure hq))
  cases r with
  | error e => exact False.elim h5
  | ok fl =>
    obtain ⟨p, H', m, rfl, I', F', hn, q⟩ := h5
    refine (wpAny_assign_Name (store_ok2 (v := V.ref p) I' hN hx (.inl hl) rfl (fun s6 I6 ⟨a, sb6, ha⟩ => ?_) (.inr hl)) : wpAny (model X.prog X.w) X.A (assign (.Name x pos') X.env (.ref p)) _ _ s5)
    have aC : cenv.locals ≠ a := by
      rcases ha with z | z
      · rw [z]; exact F'.2.1
      · exact fun w' => F'.2.2.2.2.1 _ _ z w'.symm
    refine ⟨m, hn.sameBut sb6 aC, fun h' sb => ⟨_, H', ?_, q⟩⟩
    exact I6.turned (t' := s6.toks) (fun b o hb e => sb.extBut b o hb e) F'.1 F'.2.1 F'.2.2.2.1 F'.2.2.2.2.1 F'.2.2.2.2.2
end

/-! ### the forms one uses -/
/-- over a list that the block leaves as it is: Pv holds between two turns, the new list's items among what it says -/
theorem turns_list {K : PySem.W.Frag} {a p : Addr} {xs : List V} {g : TG} {tst : TT} {te : TE} {Q : Hp → Prop} {σ : St} {H : Hp} (Pv : Nat → St → Hp → Prop) (h0 : Pv 0 σ H) (hl : ∀ i σ H, i ≤ xs.length → Pv i σ H → SqL K H a xs)
    (hs : ∀ i x σ H, xs[i]? = some x → Pv i σ H → g x σ H fun σ2 H2 => tst σ2 H2 fun c H3 => if c = true then te σ2 H3 fun y H4 => ∃ ys, H4 p = some (.lst ys) ∧ ys.length < sizeLine ∧ Pv (i + 1) σ2 (upd H4 p (.lst (ys ++ [y]))) else Pv (i + 1) σ2 H3)
    (hd : ∀ σ H, Pv xs.length σ H → Q H) : Turns (Itl K a) g tst te p Q σ H := by
  refine ⟨fun i m σ H => m = xs.length - i ∧ i ≤ xs.length ∧ Pv i σ H, ⟨xs.length, by simp, Nat.zero_le _, h0⟩, ?_⟩
  rintro i m σ H ⟨rfl, hi, p⟩
  have q := hl i σ H hi p
  by_cases hlt : i < xs.length
  · refine .inr ⟨⟨xs, xs[i], q, by simp [hlt]⟩, Pv (i + 1), fun σ' H' p' => ⟨xs.length - (i + 1), by omega, rfl, hlt, p'⟩, fun x H' y => ?_⟩
    obtain ⟨e, y⟩ := y
    subst e
    exact hs i x σ _ (y xs q) p
  · have e : i = xs.length := by omega
    subst e
    exact .inl ⟨⟨xs, q, Nat.le_refl _⟩, hd σ H p⟩
end L2
/-! enumerate(list), zip(list, list), walked by a loop or a comprehension with a pair of names. -/
namespace L2
open PySem PySem.Spec PyProof.Rows
section
variable {X : Cx} {pins : List (Addr × Obj)} {σ : St} {H : Hp} {s : Shared} {h' : Heap}
/-- records of ours have turned, a new object is laid and tracked -/
theorem Inv.turnedLaid {t' : Nat} {ch : List Addr} {a : Addr} {o : HO} (I : Inv X pins σ H s) (hf : ∀ b ∈ ch, FpOk X pins H b) (k : ∀ b ob, b ∉ ch → s.heap.get? b = some ob → h'.get? b = some ob) (hp : s.heap.objs.size ≤ a)
    (new : ObjOk X.prog X.w (upd H a o) h' a o) : Inv X pins σ (upd H a o) { s with heap := h', toks := t' } := by
  have hn := I.hok.fresh hp
  have ntr : ∀ b u, H b = some u → b ∉ ch := fun b u e hb => by
    have z := (hf b hb).1
    rw [z] at e; cases e
  have lt : ∀ b ob, s.heap.get? b = some ob → b ≠ a := fun b ob e => Nat.ne_of_lt (Nat.lt_of_lt_of_le (Heap.lt_size e) hp)
  refine I.step (g' := s.gens) (d' := s.drawn) (ch := ch) (fun b hb => ⟨(hf b hb).2.2.2.1, (hf b hb).2.1, (hf b hb).2.2.2.2.1, (hf b hb).2.2.2.2.2⟩) (fun b ob _ _ hc e _ => k b ob hc e) (fun b ob _ _ hc e _ => ⟨ob.slots, k b ob hc e⟩)
    (fun b ob _ e n => by rw [upd_ne (lt b ob e)]; exact n) (fun b ob hc e => ⟨ob, k b ob hc e⟩) (fun b xs e => by rw [upd_ne (ne_of_none e hn)]; exact e) (fun b ob u e => by rw [upd_ne (ne_of_none e hn)]; exact e)
    (fun b pl y e => by rw [upd_ne (ne_of_none e hn)]; exact e) (fun m hm => ?_) (fun b u e => ?_) I.bare
  · obtain ⟨ob, es, ep, ho, r⟩ := hm
    exact ⟨ob, es, ep, k _ ob (fun z => (hf _ z).2.1 rfl) ho, r⟩
  · by_cases hb : b = a
    · subst hb
      rw [upd_same] at e
      cases e
      exact new
    · rw [upd_ne hb] at e
      refine (I.hok b u e).stay (fun c v hc q => k c v ?_ q) (fun c q => by rw [upd_ne (ne_of_none q hn)]; exact q) (fun c xs q => by rw [upd_ne (ne_of_none q hn)]; exact q) fun c ob y q => by rw [upd_ne (ne_of_none q hn)]; exact q
      rcases hc with rfl | hc
      · exact ntr c u e
      · exact ntr c _ hc
/-- records of ours have turned -/
theorem Inv.turnedAll {t' : Nat} {ch : List Addr} (I : Inv X pins σ H s) (hf : ∀ b ∈ ch, FpOk X pins H b) (k : ∀ b ob, b ∉ ch → s.heap.get? b = some ob → h'.get? b = some ob) : Inv X pins σ H { s with heap := h', toks := t' } := by
  have ntr : ∀ b u, H b = some u → b ∉ ch := fun b u e hb => by
    have z := (hf b hb).1
    rw [z] at e; cases e
  refine I.step (g' := s.gens) (d' := s.drawn) (ch := ch) (fun b hb => ⟨(hf b hb).2.2.2.1, (hf b hb).2.1, (hf b hb).2.2.2.2.1, (hf b hb).2.2.2.2.2⟩) (fun b ob _ _ hc e _ => k b ob hc e) (fun b ob _ _ hc e _ => ⟨ob.slots, k b ob hc e⟩)
    (fun b ob _ _ n => n) (fun b ob hc e => ⟨ob, k b ob hc e⟩) (fun b xs e => e) (fun b ob u e => e) (fun b pl y e => e) (fun m hm => ?_) (fun b u e => ?_) I.bare
  · obtain ⟨ob, es, ep, ho, r⟩ := hm
    exact ⟨ob, es, ep, k _ ob (fun z => (hf _ z).2.1 rfl) ho, r⟩
  · refine (I.hok b u e).stay (fun c v hc q => k c v ?_ q) (fun c q => q) (fun c xs q => q) fun c ob y q => q
    rcases hc with rfl | hc
    · exact ntr c u e
    · exact ntr c _ hc
end

/-- enumerate of the list at a: pairs (i, x), each a new tuple -/
def Ite (K : PySem.W.Frag) (a : Addr) : It :=
  ⟨fun i H => ∃ xs x, SqL K H a xs ∧ xs[i]? = some x, fun i H v H' => ∃ t x, v = .ref t ∧ H t = none ∧ H' = upd H t (.tup [.int i, x]) ∧ ∀ xs, SqL K H a xs → xs[i]? = some x, fun i H => ∃ xs, SqL K H a xs ∧ xs.length ≤ i⟩
theorem tup_new {P : Program} {w : World} {H : Hp} {h : Heap} {a : Addr} {xs : List V} {us : List Value} (r : Vals xs us) (hz : xs.length ≤ sizeLine) {n : Nat} (e : h.get? a = some { cls := .type "tuple", data := .seq us.toArray n }) : ObjOk P w H h a (.tup xs) :=
  ⟨hz, us, r, _, e, rfl, _, rfl⟩
theorem turn_enum {P : Program} {w : World} {K : PySem.W.Frag} {es : List Expr} {k : Nat} {pos : Pos} (a e it : Addr) (hei : e ≠ it) : Turn P w K (.Tuple es k pos) (Ite K a) [e, it] e (fun i h => (∃ old, IsEnum h e it i old) ∧ h.IsListIter it a i) where
  mem := by simp
  obj := fun i h st b hb => by
    obtain ⟨⟨old, he⟩, o, ho, c, d⟩ := st
    rcases List.mem_cons.mp hb with z | hb
    · subst z
      exact ⟨_, he, fun v q => by
        have q' : Data.fields _ = Data.cell v := q
        cases q'⟩
    · have z : b = it := by simpa using hb
      subst z
      exact ⟨o, ho, fun v q => by rw [d] at q; cases q⟩
  keep := fun i h h' st k => ⟨let ⟨old, he⟩ := st.1; ⟨old, k e (by simp) _ he⟩, st.2.at fun o q => k it (by simp) o q⟩
  item := by
    intro X hP hw hK hc i pins s σ H E I hf st hg
    subst hP hw hK
    obtain ⟨xs, x, hq, hx⟩ := hg
    obtain ⟨its, rv, p, hz⟩ := I.list hq
    obtain ⟨u, hu, ru⟩ := rv.get hx
    obtain ⟨⟨old, he⟩, hit⟩ := st
    refine wpAny_pyNext_enum_item he hit p.isList (x := u) (by simpa using hu) hei fun h1 ho hit1 hT hsz hk => ⟨_, rfl, ?_⟩
    have hel : e < s.heap.objs.size := Heap.lt_size he
    have hil : it < s.heap.objs.size := by obtain ⟨_, q, _⟩ := hit; exact Heap.lt_size q
    refine wpAny_letOwnedTupleGo_enum ho fun h2 he2 hs2 => ?_
    refine ⟨.ref s.heap.objs.size, upd H s.heap.objs.size (.tup [.int i, x]), ?_, rfl, ⟨_, x, rfl, I.hok.fresh (Nat.le_refl _), rfl, fun ys hy => by rw [I.list_inj hy hq]; exact hx⟩, ⟨⟨u, by simpa using he2⟩, hit1.at fun o q => (hs2.2 it hei.symm).trans q⟩, fun b hb => ?_⟩
    · refine I.turnedLaid (ch := [e, it]) hf (fun b ob hb q => (hs2.2 b fun z => hb (by simp [z])).trans (hk b ob (fun z => hb (by simp [z])) (fun z => hb (by simp [z])) q)) (Nat.le_refl _) ?_
      exact tup_new (us := [.int i s.toks, u]) (.cons ⟨_, rfl⟩ (.cons ru .nil)) (by show 2 ≤ sizeLine; decide) ((hs2.2 _ (Nat.ne_of_gt hel)).trans hT)
    · have hbl : b < s.heap.objs.size := by
        rcases List.mem_cons.mp hb with z | hb
        · rw [z]; exact hel
        · rw [show b = it by simpa using hb]; exact hil
      rw [upd_ne (Nat.ne_of_lt hbl)]
      exact (hf b hb).1
  done := by
    intro X hP hw hK hc i pins s σ H E I hf st hg
    subst hP hw hK
    obtain ⟨xs, hq, hx⟩ := hg
    obtain ⟨its, rv, p, hz⟩ := I.list hq
    obtain ⟨⟨old, he⟩, hit⟩ := st
    have hl := rv.length
    exact wpAny_pyNext_enum_end (I.ok.hd hc) he hit p.isList (by simp; omega) fun h1 eb => ⟨rfl, I.turnedAll (t' := s.toks) (ch := [e, it]) hf fun b ob hb q => eb b ob (fun z => hb (by simp [z])) q⟩
  self := fun _ _ _ _ _ st h => let ⟨⟨_, he⟩, _⟩ := st; wpAny_pyIter_enum he h

theorem boot_enum : bootBuiltins ("enumerate" : Str) = some (.type "enumerate") := by first | exact PyProof.Rows.Boot.«enumerate» | exact PySem.boot_enumerate | rfl | decide +kernel
theorem boot_zip' : bootBuiltins ("zip" : Str) = some (.type "zip") := by first | exact PyProof.Rows.Boot.«zip» | exact PySem.boot_zip | rfl | decide +kernel
def iEnum (K : PySem.W.Frag) (ta : TA) : TI := fun σ H R => ta σ H fun vs H1 => ∃ a, vs = [.ref a] ∧ (∃ xs, SqL K H1 a xs) ∧ R (Ite K a) H1
theorem pi_enum {X : Cx} {es : List Expr} {k : Nat} {tpos : Pos} {l : Expr} {ta : TA} {p pos : Pos} (hg : Gl X "enumerate") (hm : X.mg "enumerate" = none) (ha : PA X [l] ta) (hs : starEach [l] X.env = [(false, eval l X.env)] := by rfl) : PI X (.Tuple es k tpos) (.Call (.Name "enumerate" p) [l] [] pos) (iEnum X.K ta) := by
  intro pins s σ H R I h
  refine Call_ (ld_blt I hg hm boot_enum (PyProof.Rows.callWith_type1 (thn (ha pos pins s σ H _ I h) fun us s1 ⟨vs, H1, I1, r1, q1⟩ => ?_) hs rfl))
  obtain ⟨a, e, ⟨xs, hq⟩, q⟩ := q1
  subst e
  obtain ⟨u, rfl, ru⟩ := vals1 r1
  cases ru
  obtain ⟨its, rv, pl, hz⟩ := I1.list hq
  refine call_enumerate_list pl.isList fun h1 he hit hsz hk => ?_
  have I2 : Inv X pins σ H1 { s1 with heap := h1 } := I1.kept (t' := s1.toks) hk
  refine wpAny_pyIter_enum he ⟨s1.heap.objs.size + 1, [s1.heap.objs.size + 1, s1.heap.objs.size], _, _, H1, rfl, I2, turn_enum a _ _ (Nat.ne_of_gt (Nat.lt_succ_self _)), ⟨⟨_, he⟩, hit⟩, fun b hb => ?_, q⟩
  have hbl : s1.heap.objs.size ≤ b := by
    rcases List.mem_cons.mp hb with z | hb
    · rw [z]; exact Nat.le_succ _
    · rw [show b = s1.heap.objs.size by simpa using hb]; exact Nat.le_refl _
  exact I1.fpOk hbl (I1.hok.fresh hbl)

/-- zip of the lists at a and b: each turn a new pair -/
def Itz (K : PySem.W.Frag) (a b : Addr) : It :=
  ⟨fun i H => ∃ xs ys x y, SqL K H a xs ∧ SqL K H b ys ∧ xs[i]? = some x ∧ ys[i]? = some y,
   fun i H v H' => ∃ t x y, v = .ref t ∧ H t = none ∧ H' = upd H t (.tup [x, y]) ∧ (∀ xs, SqL K H a xs → xs[i]? = some x) ∧ ∀ ys, SqL K H b ys → ys[i]? = some y,
   fun i H => ∃ xs ys, SqL K H a xs ∧ SqL K H b ys ∧ (xs.length ≤ i ∨ ys.length ≤ i)⟩
theorem ap_of {i1 i2 TI TO z l1 l2 : Nat} (h1 : i1 < i2) (h2 : i2 < TI) (h3 : TI < TO) (h4 : TO < z) (ha : l1 < i1) (hb : l2 < i1) : ZipApart z TI TO i1 i2 l1 l2 := by
  refine ⟨?_, ?_, ?_, ?_, ?_, ?_, ?_, ?_, ?_, ?_, ?_, ?_, ?_, ?_, ?_, ?_, ?_, ?_⟩ <;> first | exact Nat.ne_of_lt (by omega) | exact Nat.ne_of_gt (by omega)
theorem turn_zip {P : Program} {w : World} {K : PySem.W.Frag} {es : List Expr} {k : Nat} {pos : Pos} (a b z TI TO i1 i2 : Addr) (D : ZipApart z TI TO i1 i2 a b) :
    Turn P w K (.Tuple es k pos) (Itz K a b) [z, TI, TO, i1, i2] z (fun i h => IsZip h z TI TO .none ∧ IsPair h TI (.ref i1) (.ref i2) ∧ (∃ x y, IsPair h TO x y) ∧ h.IsListIter i1 a i ∧ h.IsListIter i2 b i) where
  mem := by simp
  obj := fun i h st c hb => by
    obtain ⟨hz, hTI, ⟨x, y, hTO⟩, ⟨o1, e1, c1, d1⟩, o2, e2, c2, d2⟩ := st
    simp only [List.mem_cons, List.not_mem_nil, or_false] at hb
    rcases hb with rfl | rfl | rfl | rfl | rfl
    · exact ⟨_, hz, fun v q => by
        have q' : Data.fields _ = Data.cell v := q
        cases q'⟩
    · exact ⟨_, hTI, fun v q => by
        have q' : Data.seq _ _ = Data.cell v := q
        cases q'⟩
    · exact ⟨_, hTO, fun v q => by
        have q' : Data.seq _ _ = Data.cell v := q
        cases q'⟩
    · exact ⟨_, e1, fun v q => by rw [d1] at q; cases q⟩
    · exact ⟨_, e2, fun v q => by rw [d2] at q; cases q⟩
  keep := fun i h h' st k => ⟨k z (by simp) _ st.1, k TI (by simp) _ st.2.1, let ⟨x, y, q⟩ := st.2.2.1; ⟨x, y, k TO (by simp) _ q⟩, st.2.2.2.1.at fun o q => k i1 (by simp) o q, st.2.2.2.2.at fun o q => k i2 (by simp) o q⟩
  item := by
    intro X hP hw hK hc i pins s σ H E I hf st hg
    subst hP hw hK
    obtain ⟨xs, ys, x, y, hq1, hq2, hx, hy⟩ := hg
    obtain ⟨its1, rv1, p1, hz1⟩ := I.list hq1
    obtain ⟨its2, rv2, p2, hz2⟩ := I.list hq2
    obtain ⟨u1, hu1, ru1⟩ := rv1.get hx
    obtain ⟨u2, hu2, ru2⟩ := rv2.get hy
    obtain ⟨hz, hTI, ⟨x0, y0, hTO⟩, hi1, hi2⟩ := st
    refine wpAny_pyNext_zip_item D hz hTI hTO hi1 hi2 p1.isList p2.isList (x := u1) (y := u2) (by simpa using hu1) (by simpa using hu2) fun h1 gz gTO g1 g2 gT gsz gk => ⟨_, rfl, ?_⟩
    have lz : z < s.heap.objs.size := Heap.lt_size hz
    have lT : ∀ c ∈ [z, TI, TO, i1, i2], c < s.heap.objs.size := fun c hb => by
      simp only [List.mem_cons, List.not_mem_nil, or_false] at hb
      rcases hb with rfl | rfl | rfl | rfl | rfl
      · exact lz
      · exact Heap.lt_size hTI
      · exact Heap.lt_size hTO
      · obtain ⟨_, q, _⟩ := hi1; exact Heap.lt_size q
      · obtain ⟨_, q, _⟩ := hi2; exact Heap.lt_size q
    refine wpAny_letOwnedTupleGo_zip gz fun h2 gz2 hs2 => ?_
    refine ⟨.ref s.heap.objs.size, upd H s.heap.objs.size (.tup [x, y]), ?_, rfl, ⟨_, x, y, rfl, I.hok.fresh (Nat.le_refl _), rfl, fun vs hv => by rw [I.list_inj hv hq1]; exact hx, fun vs hv => by rw [I.list_inj hv hq2]; exact hy⟩,
      ⟨gz2, hs2.extBut _ _ D.TIz (gk _ _ D.TIz D.TITO D.TIi1 D.TIi2 hTI), ⟨_, _, hs2.extBut _ _ D.TOz gTO⟩, g1.at fun o q => hs2.extBut _ _ D.i1z q, g2.at fun o q => hs2.extBut _ _ D.i2z q⟩, fun c hb => ?_⟩
    · refine I.turnedLaid (ch := [z, TI, TO, i1, i2]) hf (fun c ob hb q => hs2.extBut _ _ (fun e => hb (by simp [e])) (gk c ob (fun e => hb (by simp [e])) (fun e => hb (by simp [e])) (fun e => hb (by simp [e])) (fun e => hb (by simp [e])) q)) (Nat.le_refl _) ?_
      exact tup_new (us := [u1, u2]) (.cons ru1 (.cons ru2 .nil)) (by show 2 ≤ sizeLine; decide) (hs2.extBut _ _ (Nat.ne_of_gt lz) gT)
    · rw [upd_ne (Nat.ne_of_lt (lT c hb))]
      exact (hf c hb).1
  done := by
    intro X hP hw hK hc i pins s σ H E I hf st hg
    subst hP hw hK
    obtain ⟨xs, ys, hq1, hq2, hx⟩ := hg
    obtain ⟨its1, rv1, p1, hz1⟩ := I.list hq1
    obtain ⟨its2, rv2, p2, hz2⟩ := I.list hq2
    obtain ⟨hz, hTI, ⟨x0, y0, hTO⟩, hi1, hi2⟩ := st
    have hl1 := rv1.length
    have hl2 := rv2.length
    refine wpAny_pyNext_zip_end (I.ok.hd hc) D hz hTI hTO hi1 hi2 p1.isList p2.isList ?_ fun h1 eb => ⟨rfl, I.turnedAll (t' := s.toks) (ch := [z, TI, TO, i1, i2]) hf fun c ob hb q => eb c ob (fun e => hb (by simp [e])) (fun e => hb (by simp [e])) (fun e => hb (by simp [e])) (fun e => hb (by simp [e])) q⟩
    rcases hx with hx | hx
    · exact .inl (by simp; omega)
    · exact .inr (by simp; omega)
  self := fun _ _ _ _ _ st h => wpAny_pyIter_zip st.1 h
def iZip (K : PySem.W.Frag) (ta : TA) : TI := fun σ H R => ta σ H fun vs H1 => ∃ a b, vs = [.ref a, .ref b] ∧ (∃ xs, SqL K H1 a xs) ∧ (∃ ys, SqL K H1 b ys) ∧ R (Itz K a b) H1
theorem pi_zip {X : Cx} {es : List Expr} {k : Nat} {tpos : Pos} {l m : Expr} {ta : TA} {p pos : Pos} (hg : Gl X "zip") (hm : X.mg "zip" = none) (ha : PA X [l, m] ta) (hs : starEach [l, m] X.env = [(false, eval l X.env), (false, eval m X.env)] := by rfl) (hs2 : starEach [m] X.env = [(false, eval m X.env)] := by rfl) :
    PI X (.Tuple es k tpos) (.Call (.Name "zip" p) [l, m] [] pos) (iZip X.K ta) := by
  intro pins s σ H R I h
  refine Call_ (ld_blt I hg hm boot_zip' (PyProof.Rows.callWith_type1 (thn (ha pos pins s σ H _ I h) fun us s1 ⟨vs, H1, I1, r1, q1⟩ => ?_) (by rw [hs, hs2]) (by rw [hs2]; rfl)))
  obtain ⟨a, b, e, ⟨xs, hq1⟩, ⟨ys, hq2⟩, q⟩ := q1
  subst e
  obtain ⟨u, w', rfl, ru, rw'⟩ := vals2 r1
  cases ru
  cases rw'
  obtain ⟨its1, rv1, p1, hz1⟩ := I1.list hq1
  obtain ⟨its2, rv2, p2, hz2⟩ := I1.list hq2
  have la : a < s1.heap.objs.size := by obtain ⟨_, o, _⟩ := p1.isList; exact Heap.lt_size o
  have lb : b < s1.heap.objs.size := by obtain ⟨_, o, _⟩ := p2.isList; exact Heap.lt_size o
  refine call_zip_2 p1.isList p2.isList fun h1 gz gTI gTO g1 g2 gsz hk => ?_
  have I2 : Inv X pins σ H1 { s1 with heap := h1 } := I1.kept (t' := s1.toks) hk
  have D : ZipApart (s1.heap.objs.size + 4) (s1.heap.objs.size + 2) (s1.heap.objs.size + 3) s1.heap.objs.size (s1.heap.objs.size + 1) a b := ap_of (i1 := s1.heap.objs.size) (Nat.lt_succ_self _) (Nat.lt_succ_self _) (Nat.lt_succ_self _) (Nat.lt_succ_self _) la lb
  refine wpAny_pyIter_zip gz ⟨s1.heap.objs.size + 4, [s1.heap.objs.size + 4, s1.heap.objs.size + 2, s1.heap.objs.size + 3, s1.heap.objs.size, s1.heap.objs.size + 1], _, _, H1, rfl, I2, turn_zip a b _ _ _ _ _ D, ⟨gz, gTI, ⟨_, _, gTO⟩, g1, g2⟩, fun c hb => ?_, q⟩
  have hbl : s1.heap.objs.size ≤ c := by
    simp only [List.mem_cons, List.not_mem_nil, or_false] at hb
    rcases hb with rfl | rfl | rfl | rfl | rfl <;> first | exact Nat.le_refl _ | exact Nat.le_add_right _ _
  exact I1.fpOk hbl (I1.hok.fresh hbl)

/-! ### the forms one uses -/
theorem for_enum {K : PySem.W.Frag} {a : Addr} {xs : List V} {g : TG} {tb : TS} {D : Ends} {σ : St} {H : Hp} (Pv : Nat → St → Hp → Prop) (h0 : Pv 0 σ H) (hl : ∀ i σ H, i ≤ xs.length → Pv i σ H → SqL K H a xs)
    (hs : ∀ i x t σ H, xs[i]? = some x → Pv i σ H → H t = none → g (.ref t) σ (upd H t (.tup [.int i, x])) fun σ2 H2 => tb { D with nx := Pv (i + 1), ct := Pv (i + 1), bk := D.nx } σ2 H2) (hd : ∀ σ H, Pv xs.length σ H → D.nx σ H) :
    ∃ W : Nat → Nat → St → Hp → Prop, (∃ m, W 0 m σ H) ∧ ∀ i m σ H, W i m σ H →
      ((Ite K a).stop i H ∧ D.nx σ H) ∨ ((Ite K a).go i H ∧ ∃ N : St → Hp → Prop, (∀ σ' H', N σ' H' → ∃ m', m' < m ∧ W (i + 1) m' σ' H') ∧ ∀ x H', (Ite K a).yld i H x H' → g x σ H' fun σ2 H2 => tb { D with nx := N, ct := N, bk := D.nx } σ2 H2) := by
  refine ⟨fun i m σ H => m = xs.length - i ∧ i ≤ xs.length ∧ Pv i σ H, ⟨xs.length, by simp, Nat.zero_le _, h0⟩, ?_⟩
  rintro i m σ H ⟨rfl, hi, p⟩
  have q := hl i σ H hi p
  by_cases hlt : i < xs.length
  · refine .inr ⟨⟨xs, xs[i], q, by simp [hlt]⟩, Pv (i + 1), fun σ' H' p' => ⟨xs.length - (i + 1), by omega, rfl, hlt, p'⟩, fun x H' y => ?_⟩
    obtain ⟨t, z, rfl, hn, rfl, y⟩ := y
    exact hs i z t σ H (y xs q) p hn
  · have e : i = xs.length := by omega
    subst e
    exact .inl ⟨⟨xs, q, Nat.le_refl _⟩, hd σ H p⟩
theorem turns_zip {K : PySem.W.Frag} {a b p : Addr} {xs ys : List V} {g : TG} {tst : TT} {te : TE} {Q : Hp → Prop} {σ : St} {H : Hp} (Pv : Nat → St → Hp → Prop) (h0 : Pv 0 σ H) (hl : ∀ i σ H, Pv i σ H → SqL K H a xs ∧ SqL K H b ys)
    (hs : ∀ i x y t σ H, xs[i]? = some x → ys[i]? = some y → Pv i σ H → H t = none → g (.ref t) σ (upd H t (.tup [x, y])) fun σ2 H2 => tst σ2 H2 fun c H3 => if c = true then te σ2 H3 fun y H4 => ∃ zs, H4 p = some (.lst zs) ∧ zs.length < sizeLine ∧ Pv (i + 1) σ2 (upd H4 p (.lst (zs ++ [y]))) else Pv (i + 1) σ2 H3)
    (hd : ∀ σ H, Pv (min xs.length ys.length) σ H → Q H) : Turns (Itz K a b) g tst te p Q σ H := by
  refine ⟨fun i m σ H => m = min xs.length ys.length - i ∧ i ≤ min xs.length ys.length ∧ Pv i σ H, ⟨min xs.length ys.length, by simp, Nat.zero_le _, h0⟩, ?_⟩
  rintro i m σ H ⟨rfl, hi, p⟩
  obtain ⟨q1, q2⟩ := hl i σ H p
  by_cases hlt : i < min xs.length ys.length
  · have l1 : i < xs.length := by omega
    have l2 : i < ys.length := by omega
    refine .inr ⟨⟨xs, ys, xs[i], ys[i], q1, q2, by simp [l1], by simp [l2]⟩, Pv (i + 1), fun σ' H' p' => ⟨min xs.length ys.length - (i + 1), by omega, rfl, hlt, p'⟩, fun x H' y => ?_⟩
    obtain ⟨t, z, z', rfl, hn, rfl, y1, y2⟩ := y
    exact hs i z z' t σ H (y1 xs q1) (y2 ys q2) p hn
  · have e : i = min xs.length ys.length := by omega
    subst e
    exact .inl ⟨⟨xs, ys, q1, q2, by omega⟩, hd σ H p⟩
end L2
/-! sorted, any, all, sum, isinstance, join, f-strings, tuples joined, data compared. -/
namespace L2
open PySem PySem.Spec PyProof.Rows
section
variable {X : Cx}
/-! ### sorted of ints, fewer than 64 -/
theorem call_sortedI : CallR X (.builtin "sorted") (fun xs H Q => ∃ (p : Addr) (ns : List Int), xs = [.ref p] ∧ SqL X.K H p (ns.map V.int) ∧ ns.length < 64 ∧
    ∀ (l : Addr) (ns' : List Int), H l = none → ns'.Perm ns → ns'.Pairwise (· ≤ ·) → Q (.ref l) (upd H l (.lst (ns'.map V.int)))) := by
  intro pins s σ H xs us Q I r h
  obtain ⟨p, ns, rfl, hq, hz, q⟩ := h
  obtain ⟨u, rfl, ru⟩ := vals1 r
  cases ru
  obtain ⟨its, rv, pl, _⟩ := I.list hq
  have hI := intsAre_of rv
  have hl : its.length = ns.length := by rw [← rv.length, List.length_map]
  refine sorted_ints pl.isList hI (by omega) fun out ns' a1 a2 a3 => ?_
  obtain ⟨e, he⟩ := sortedAll_at s.heap its out
  have hlen : ns'.length = ns.length := a2.length_eq
  refine ⟨.ref (s.heap.objs.size + 1), _, I.laid (t' := s.toks) (a := s.heap.objs.size + 1) (o := .lst (ns'.map V.int)) (fun b ob z => sortedAll_old z) (Nat.le_succ _) ?_, rfl, q _ ns' (I.hok.fresh (Nat.le_succ _)) a2 a3⟩
  refine ⟨by rw [List.length_map, hlen, sizeLine_eq]; omega, out.toList, e, vals_ints a1, ?_⟩
  exact he
/-! ### any, all of bools; sum of ints -/
theorem bools_at {bs : List Bool} {us : List Value} (r : Vals (bs.map V.bl) us) {i : Nat} {v : Value} (e : us[i]? = some v) : ∃ b, bs[i]? = some b ∧ v = .bool b := by
  have hi : i < us.length := (List.getElem?_eq_some_iff.mp e).1
  have hb : i < bs.length := by
    have := r.length
    rw [List.length_map] at this
    omega
  obtain ⟨u, hu, ru⟩ := r.get (i := i) (x := .bl bs[i]) (by rw [List.getElem?_map, List.getElem?_eq_getElem hb]; rfl)
  rw [e] at hu
  cases hu
  exact ⟨bs[i], List.getElem?_eq_getElem hb, ru⟩
theorem range_any (bs : List Bool) : (List.range bs.length).any (fun i => bs.getD i false) = bs.any id := by
  rw [Bool.eq_iff_iff]
  simp only [List.any_eq_true, List.mem_range, id_eq]
  constructor
  · rintro ⟨i, hi, e⟩
    exact ⟨bs[i], List.getElem_mem hi, by simpa [List.getD_eq_getElem?_getD, hi] using e⟩
  · rintro ⟨b, hb, e⟩
    obtain ⟨i, hi, q⟩ := List.mem_iff_getElem.mp hb
    exact ⟨i, hi, by simp [List.getD_eq_getElem?_getD, hi, q, e]⟩
theorem range_all (bs : List Bool) : (List.range bs.length).all (fun i => bs.getD i false) = bs.all id := by
  rw [Bool.eq_iff_iff]
  simp only [List.all_eq_true, List.mem_range, id_eq]
  constructor
  · intro h b hb
    obtain ⟨i, hi, q⟩ := List.mem_iff_getElem.mp hb
    have := h i hi
    simpa [List.getD_eq_getElem?_getD, hi, q] using this
  · intro h i hi
    have := h bs[i] (List.getElem_mem hi)
    simpa [List.getD_eq_getElem?_getD, hi] using this
theorem handled_in1 {A : Around} (h : A.handled = none) : A.in1.handled = none := h
/-- what any and all do with the list at p -/
theorem walk_bools {pins : List (Addr × Obj)} {σ : St} {H : Hp} {s : Shared} {p : Addr} {bs : List Bool} {E : Value → Shared → Prop} {R : Nat → (Nat → Bool) → Value → Shared → Prop} (hc : X.calm = true) (I : Inv X pins σ H s) (hq : SqL X.K H p (bs.map V.bl))
    (fin : ∀ (It : Addr) (fp wr : List Addr) (P : Nat → Value → Prop) (St : Nat → Heap → Prop) (s2 : Shared), Walks X.prog X.w X.A.in1 It fp wr bs.length P St → St 0 s2.heap → TruthOf X.prog X.w X.A.in1 P (fun i => bs.getD i false) →
      (∀ h' tk, (∀ b o, b ∉ wr → s2.heap.get? b = some o → h'.get? b = some o) → Inv X pins σ H { s2 with heap := h', toks := tk }) → R bs.length (fun i => bs.getD i false) (.ref It) s2) :
    wpAny (model X.prog X.w) X.A.in1 (pyIter (.ref p)) (fun it s2 => R bs.length (fun i => bs.getD i false) it s2) E s := by
  obtain ⟨its, rv, pl, hz⟩ := I.list hq
  refine wpAny_pyIter_list pl.isList ?_
  have lp : p < s.heap.objs.size := by obtain ⟨_, o, _⟩ := pl.isList; exact Heap.lt_size o
  have hlen : its.toArray.size = bs.length := by rw [List.size_toArray, ← rv.length, List.length_map]
  have W := Walks.list (prog := X.prog) (w := X.w) (A := X.A.in1) (handled_in1 (I.ok.hd hc)) s.heap.objs.size p (Nat.ne_of_lt lp) its.toArray
  rw [hlen] at W
  refine fin _ _ _ _ _ _ W ⟨⟨_, Heap.get?_push_size _ rfl, rfl, rfl⟩, pl.isList.push _⟩ (fun i v s' Q' E' hP hQ => ?_) (fun h' tk hk => ?_)
  · obtain ⟨b, hb, rfl⟩ := bools_at (i := i) (v := v) rv (by simpa using hP)
    refine wpAny_truthy_bool ?_
    have : bs.getD i false = b := by rw [List.getD_eq_getElem?_getD, hb]; rfl
    simpa only [this] using hQ
  · refine I.kept (t' := tk) fun b o e => hk b o (fun z => ?_) (Heap.get?_push_of_some _ e)
    have : b = s.heap.objs.size := by simpa using z
    exact absurd (Heap.lt_size e) (by rw [this]; exact Nat.lt_irrefl _)
theorem call_anyB (hc : X.calm = true) : CallR X (.builtin "any") (fun xs H Q => ∃ (p : Addr) (bs : List Bool), xs = [.ref p] ∧ SqL X.K H p (bs.map V.bl) ∧ Q (.bl (bs.any id)) H) := by
  intro pins s σ H xs us Q I r h
  obtain ⟨p, bs, rfl, hq, q⟩ := h
  obtain ⟨u, rfl, ru⟩ := vals1 r
  cases ru
  refine call_any_walk (walk_bools hc I hq (R := fun n tr it s2 => ∃ It fp wr n P St tr, it = .ref It ∧ Walks X.prog X.w X.A.in1 It fp wr n P St ∧ St 0 s2.heap ∧ TruthOf X.prog X.w X.A.in1 P tr ∧
    ∀ h' tk, (∀ b o, b ∉ wr → s2.heap.get? b = some o → h'.get? b = some o) → EP X pins σ Q (.bool ((List.range n).any tr)) { s2 with heap := h', toks := tk }) ?_)
  intro It fp wr P St s2 W st tr k
  refine ⟨It, fp, wr, _, P, St, _, rfl, W, st, tr, fun h' tk hk => ?_⟩
  rw [range_any]
  exact ⟨.bl (bs.any id), H, k h' tk hk, rfl, q⟩
theorem call_allB (hc : X.calm = true) : CallR X (.builtin "all") (fun xs H Q => ∃ (p : Addr) (bs : List Bool), xs = [.ref p] ∧ SqL X.K H p (bs.map V.bl) ∧ Q (.bl (bs.all id)) H) := by
  intro pins s σ H xs us Q I r h
  obtain ⟨p, bs, rfl, hq, q⟩ := h
  obtain ⟨u, rfl, ru⟩ := vals1 r
  cases ru
  refine call_all_walk (walk_bools hc I hq (R := fun n tr it s2 => ∃ It fp wr n P St tr, it = .ref It ∧ Walks X.prog X.w X.A.in1 It fp wr n P St ∧ St 0 s2.heap ∧ TruthOf X.prog X.w X.A.in1 P tr ∧
    ∀ h' tk, (∀ b o, b ∉ wr → s2.heap.get? b = some o → h'.get? b = some o) → EP X pins σ Q (.bool ((List.range n).all tr)) { s2 with heap := h', toks := tk }) ?_)
  intro It fp wr P St s2 W st tr k
  refine ⟨It, fp, wr, _, P, St, _, rfl, W, st, tr, fun h' tk hk => ?_⟩
  rw [range_all]
  exact ⟨.bl (bs.all id), H, k h' tk hk, rfl, q⟩
/-! ### isinstance(x, T), T a built-in or an own class -/
theorem call_isinst : CallR X (.builtin "isinstance") (fun xs H Q => ∃ x c cv t b, xs = [x, c] ∧ RelV c cv ∧ (∀ u, RelV c u → u = cv) ∧ TyOf X.K H x t ∧ PySem.W.kitOne X.K t cv = some b ∧ Q (.bl b) H) := by
  intro pins s σ H xs us Q I r h
  obtain ⟨x, c, cv, t, b, rfl, rc, inj, ty, e, q⟩ := h
  obtain ⟨u, w', rfl, ru, rw'⟩ := vals2 r
  cases inj w' rw'
  exact isinst_ok I ru ty e fun tk => ⟨.bl b, H, I.tok tk, rfl, q⟩
theorem ty_inj {n : String} : ∀ u, RelV (.ty n) u → u = .type n := fun _ h => h
/-! ### t + u, any of the two empty or not -/
def rCatT' (K : PySem.W.Frag) : R2 := fun x y H Q => ∃ a b xs ys, x = .ref a ∧ y = .ref b ∧ SqT K H a xs ∧ SqT K H b ys ∧ xs.length + ys.length ≤ sizeLine ∧
  (xs = [] → Q (.ref b) H) ∧ (xs ≠ [] → ys = [] → Q (.ref a) H) ∧ (xs ≠ [] → ys ≠ [] → ∀ p, H p = none → Q (.ref p) (upd H p (.tup (xs ++ ys))))
theorem op_catT' : OpR X (binaryOp .Add) (rCatT' X.K) := by
  intro pins s σ H x y v u Q I rx ry h
  obtain ⟨a, b, xs, ys, rfl, rfl, ha, hb, hz, q0, q1, q2⟩ := h
  by_cases hx : xs = []
  · cases rx
    cases ry
    obtain ⟨its, r1, p1, _⟩ := I.tuple ha
    obtain ⟨its2, r2, p2, _⟩ := I.tuple hb
    obtain ⟨m, F⟩ := I.fr
    have hv : its = [] := r1.nil_iff.mpr hx
    refine add_tuples (news := []) F (fun q hq => by cases hq) p1 p2 (fun _ => ⟨.ref b, H, I, rfl, q0 hx⟩) (fun z => absurd hv z) (fun z => absurd hv z) (by rw [← r1.length, ← r2.length]; exact hz)
  · exact op_catT pins s σ H _ _ v u Q I rx ry ⟨a, b, xs, ys, rfl, rfl, ha, hb, hx, hz, q1 hx, q2 hx⟩
/-! ### sep.join(list of texts) -/
def rJoin (K : PySem.W.Frag) : V → List V → Hp → VK → Prop := fun x vs H Q => ∃ (z : Str) (p : Addr) (ys : List Str), x = .str z ∧ vs = [.ref p] ∧ SqL K H p (ys.map V.str) ∧ (ys.map (·.length)).sum + ys.length * z.length ≤ 16777216 ∧ Q (.str (Txt.join z ys)) H
theorem strsAre_of : ∀ {ys : List Str} {us : List Value}, Vals (ys.map V.str) us → StrsAre us ys
  | [], _, .nil => .nil
  | _ :: _, _, .cons r t => by
    obtain ⟨k, rfl⟩ := r
    exact .cons _ _ (strsAre_of t)
theorem mt_join : MtM X "str.join" (rJoin X.K) := by
  intro pins s σ H x xs v us Q I rx r h
  obtain ⟨z, p, ys, rfl, rfl, hq, hz, q⟩ := h
  obtain ⟨t, rfl⟩ := rx
  obtain ⟨u, rfl, ru⟩ := Vals.one r
  cases ru
  obtain ⟨its, rv, pl, _⟩ := I.list hq
  exact join_list pl.isList (strsAre_of rv) hz fun t' k => ⟨.str (Txt.join z ys), H, I.tok k, ⟨t', rfl⟩, q⟩
end

/-! ### data compared by == and != -/
open PySem.W (Dat) in
mutual
inductive DV (K : PySem.W.Frag) (H : Hp) : V → PySem.W.Dat → Prop
  | non : DV K H .non .none
  | int (i : Int) : DV K H (.int i) (.int i)
  | str (x : Str) : DV K H (.str x) (.str x)
  | lst {a : Addr} {xs : List V} {ds : List PySem.W.Dat} : SqL K H a xs → DVs K H xs ds → DV K H (.ref a) (.list ds)
  | tup {a : Addr} {xs : List V} {ds : List PySem.W.Dat} : SqT K H a xs → DVs K H xs ds → DV K H (.ref a) (.tuple ds)
inductive DVs (K : PySem.W.Frag) (H : Hp) : List V → List PySem.W.Dat → Prop
  | nil : DVs K H [] []
  | cons {x : V} {d : PySem.W.Dat} {xs : List V} {ds : List PySem.W.Dat} : DV K H x d → DVs K H xs ds → DVs K H (x :: xs) (d :: ds)
end
section
variable {X : Cx} {pins : List (Addr × Obj)} {σ : St} {H : Hp} {s : Shared}
mutual
theorem DV.reads (I : Inv X pins σ H s) : ∀ {x : V} {d : PySem.W.Dat} {u : Value}, DV X.K H x d → RelV x u → ∃ as, Reads s.heap u (PySem.W.kqdP d) as
  | _, _, _, .non, r => by cases r; exact ⟨_, Reads.none⟩
  | _, _, _, .int i, r => by obtain ⟨t, rfl⟩ := r; exact ⟨_, Reads.int i t⟩
  | _, _, _, .str x, r => by obtain ⟨t, rfl⟩ := r; exact ⟨_, Reads.str x t⟩
  | _, _, _, .lst hq hd, r => by
    cases r
    obtain ⟨its, rv, pl, _⟩ := I.list hq
    obtain ⟨as, q⟩ := DVs.reads I hd rv
    obtain ⟨o, ho, hc, n, hd'⟩ := pl.isList
    rw [PySem.W.kqdP]
    exact ⟨_, reads_list_at ho hc hd' (by simpa using q)⟩
  | _, _, _, .tup hq hd, r => by
    cases r
    obtain ⟨its, rv, pl, _⟩ := I.tuple hq
    obtain ⟨as, q⟩ := DVs.reads I hd rv
    obtain ⟨o, ho, hc, n, hd'⟩ := pl
    rw [PySem.W.kqdP]
    exact ⟨_, reads_tuple_at ho hc hd' (by simpa using q)⟩
theorem DVs.reads (I : Inv X pins σ H s) : ∀ {xs : List V} {ds : List PySem.W.Dat} {us : List Value}, DVs X.K H xs ds → Vals xs us → ∃ as, ReadsAll s.heap us (PySem.W.kqdPs ds) as
  | _, _, _, .nil, r => by cases r; exact ⟨_, ReadsAll.nil⟩
  | _, _, _, .cons hd t, r => by
    cases r with
    | cons r1 r2 =>
      obtain ⟨as, q⟩ := DV.reads I hd r1
      obtain ⟨bs, p⟩ := DVs.reads I t r2
      rw [PySem.W.kqdPs]
      exact ⟨_, ReadsAll.cons q p⟩
end
open Classical in
def rEqD (K : PySem.W.Frag) : R2 := fun x y H Q => ∃ d e, DV K H x d ∧ DV K H y e ∧ PySem.W.kqdOk 9 d = true ∧ PySem.W.kqdOk 9 e = true ∧ Q (.bl (decide (d = e))) H
open Classical in
def rNeD (K : PySem.W.Frag) : R2 := fun x y H Q => ∃ d e, DV K H x d ∧ DV K H y e ∧ PySem.W.kqdOk 9 d = true ∧ PySem.W.kqdOk 9 e = true ∧ Q (.bl (!decide (d = e))) H
open Classical in
theorem eqv_dec {d e : PySem.W.Dat} (h1 : PySem.W.kqdOk 9 d = true) (h2 : PySem.W.kqdOk 9 e = true) : PyData.eqv (PySem.W.kqdP d) (PySem.W.kqdP e) = decide (d = e) := by
  have q := PySem.W.kqd_eqv 9 d e 9 h1 h2
  by_cases hq : d = e
  · rw [decide_eq_true hq]; exact q.mpr hq
  · rw [decide_eq_false hq]; exact Bool.eq_false_iff.mpr fun z => hq (q.mp z)
theorem shaped_of {d : PySem.W.Dat} (h : PySem.W.kqdOk 9 d = true) : SeqAt.shaped (PySem.W.kqdP d) = true := by
  have l := PySem.W.kqd_lay 9 d h
  unfold SeqAt.shaped
  rw [l.1, Bool.true_and]
  exact decide_eq_true (Nat.le_trans l.2 (by decide))
theorem op_eqD (hu : X.A.units + 64 < cLine) : OpR X (compareOp .Eq) (rEqD X.K) := by
  intro pins s σ H x y v u Q I rx ry h
  obtain ⟨d, e, hd, he, k1, k2, q⟩ := h
  obtain ⟨as, ra⟩ := hd.reads I rx
  obtain ⟨bs, rb⟩ := he.reads I ry
  refine eq_dataH ra rb (shaped_of k1) (shaped_of k2) hu ?_
  rw [eqv_dec k1 k2]
  exact ⟨.bl _, H, I, rfl, q⟩
theorem op_neD (hu : X.A.units + 64 < cLine) : OpR X (compareOp .NotEq) (rNeD X.K) := by
  intro pins s σ H x y v u Q I rx ry h
  obtain ⟨d, e, hd, he, k1, k2, q⟩ := h
  obtain ⟨as, ra⟩ := hd.reads I rx
  obtain ⟨bs, rb⟩ := he.reads I ry
  refine ne_dataH ra rb (shaped_of k1) (shaped_of k2) hu ?_
  rw [eqv_dec k1 k2]
  exact ⟨.bl _, H, I, rfl, q⟩
end
end L2
/-! Rules that a term generator can name by the construct alone; contracts of defs, methods, classes. -/
namespace L2
open PySem PySem.Spec PyProof.Rows
section
variable {X : Cx}
/-! ### one rule an operator -/
def rAddU (K : PySem.W.Frag) : R2 := fun x y H Q => rI0 (fun i j => .int (i + j)) x y H Q ∨ rCat x y H Q ∨ rCatT' K x y H Q ∨ (∃ i j, x = .str i ∧ y = .str j ∧ i.length + j.length ≤ sizeLine ∧ Q (.str (i ++ j)) H)
theorem op_addU : OpR X (binaryOp .Add) (rAddU X.K) := OpR.or op_add (OpR.or op_cat (OpR.or op_catT' op_add_str))
def rMulU : R2 := fun x y H Q => rI CMul (fun i j => .int (i * j)) x y H Q ∨ rRep x y H Q
theorem op_mulU : OpR X (binaryOp .Mult) rMulU := OpR.or op_mul op_rep
def rEqU (K : PySem.W.Frag) : R2 := fun x y H Q => rEq x y H Q ∨ rEqD K x y H Q
theorem op_eqU (hu : X.A.units + 64 < cLine) : OpR X (compareOp .Eq) (rEqU X.K) := OpR.or op_eq (op_eqD hu)
def rNeU (K : PySem.W.Frag) : R2 := fun x y H Q => rNe x y H Q ∨ rNeD K x y H Q
theorem op_neU (hu : X.A.units + 64 < cLine) : OpR X (compareOp .NotEq) (rNeU X.K) := OpR.or op_ne (op_neD hu)
def rIxLT (K : PySem.W.Frag) : R2 := fun x y H Q => rIxL K x y H Q ∨ rIxT K x y H Q
theorem ix_LT : IxR X (rIxLT X.K) := IxR.or ix_list ix_tup
theorem RelV.bool_iff {x : V} {v : Value} {b : Bool} (r : RelV x v) : (v == Value.bool b) = decide (x = .bl b) := by
  cases x with
  | bl c => cases (show v = Value.bool c from r); cases b <;> cases c <;> rfl
  | non => cases r; rfl
  | int _ => obtain ⟨t, rfl⟩ := r; rfl
  | str _ => obtain ⟨t, rfl⟩ := r; rfl
  | byt _ => obtain ⟨t, rfl⟩ := r; rfl
  | flt _ => obtain ⟨t, rfl⟩ := r; rfl
  | ref _ => cases r; rfl
  | ty _ => cases r; rfl
theorem same_bool {x : V} {v : Value} {b : Bool} (r : RelV x v) : isSame v (.bool b) = pure (decide (x = .bl b)) := by
  rw [← r.bool_iff (b := b)]
  cases x with
  | bl c => cases (show v = Value.bool c from r); rfl
  | non => cases r; rfl
  | int _ => obtain ⟨t, rfl⟩ := r; rfl
  | str _ => obtain ⟨t, rfl⟩ := r; rfl
  | byt _ => obtain ⟨t, rfl⟩ := r; rfl
  | flt _ => obtain ⟨t, rfl⟩ := r; rfl
  | ref _ => cases r; rfl
  | ty _ => cases r; rfl
theorem op_notC : OpR X (compareOp .IsNot) (fun x y H Q => ∃ b, y = .bl b ∧ Q (.bl (!decide (x = .bl b))) H) := by
  intro pins s σ H x y v u Q I rx ry h
  obtain ⟨b, rfl, q⟩ := h
  cases (show u = Value.bool b from ry)
  show wpAny _ _ (do return Value.bool (!(← isSame v (.bool b)))) _ _ _
  rw [same_bool rx]
  exact wpAny_pure ⟨.bl _, H, I, rfl, q⟩
end

/-! ### contracts -/
structure Ctr (P : Program) (w : World) (K : PySem.W.Frag) (mg : Str → Option Value) (base : Heap) (CX : CXT) (k : Nat) (x : Str) (ps : List Str) (sp : Sp) : Prop where
  ex : ∃ f fd, FnOk P w K mg base CX k f fd ps sp ∧ mg x = some (.ref f) ∧ PySem.W.keepIn K (.ref f) = true ∧ Binds K fd ps []
section
variable {X : Cx} {CX : CXT} {k : Nat} {C : Addr} {ps : List Str} {sp : Sp} {E : XK} {x m : Str} {p pos apos : Pos} {e o : Expr} {es : List Expr} {ta : TE} {t : TA}
theorem pe_callCE (c : Ctr X.prog X.w X.K X.mg X.base CX k x ps sp) (hr : Room k X.A) (hg : Gl X x) (ha : PA X (e :: es) t) (hx : Passes CX X E) (hdb : (x == ("__debug__" : Str)) = false := by decide)
    (he : starEach (e :: es) X.env = (false, eval e X.env) :: starEach es X.env := by rfl) (hpl : (backTo pos (starEach es X.env)).any (·.1) = false := by rfl) : PE X (.Call (.Name x p) (e :: es) [] pos) (tCall sp [] E t) := by
  obtain ⟨f, fd, F, hm, hk, hb⟩ := c.ex
  exact pe_call F hr hg hm hk hb .nil hx ha hdb he hpl
theorem pe_callC (c : Ctr X.prog X.w X.K X.mg X.base CX0 k x ps sp) (hr : Room k X.A) (hg : Gl X x) (ha : PA X (e :: es) t) (hdb : (x == ("__debug__" : Str)) = false := by decide)
    (he : starEach (e :: es) X.env = (false, eval e X.env) :: starEach es X.env := by rfl) (hpl : (backTo pos (starEach es X.env)).any (·.1) = false := by rfl) : PE X (.Call (.Name x p) (e :: es) [] pos) (tCall sp [] E0 t) :=
  pe_callCE c hr hg ha pass0 hdb he hpl
end

/-- a built-in type as a value -/
theorem pe_tyN {X : Cx} {x : Str} {n : String} {pos : Pos} (hg : Gl X x) (hm : X.mg x = none) (hv : bootBuiltins x = some (.type n)) (hn : x ≠ "__name__" := by decide) (hd : (x == ("__debug__" : Str)) = false := by decide) : PE X (.Name x pos) (tC (.ty n)) :=
  pe_bltn (v := .ty n) hg hm hv rfl hn hd
/-- an own class as a value -/
theorem pe_clsN {X : Cx} {x : Str} {C : Addr} {pos : Pos} (hg : Gl X x) (hm : X.mg x = some (.ref C)) (hd : (x == ("__debug__" : Str)) = false := by decide) : PE X (.Name x pos) (tC (.ref C)) := pe_glob (v := .ref C) hg hm rfl hd
/-! ### small words for readings -/
/-- an int of the module -/
theorem pe_gint {X : Cx} {x : Str} {n : Int} {pos : Pos} (hg : Gl X x) (hm : ∃ t, X.mg x = some (.int n t)) (hd : (x == ("__debug__" : Str)) = false := by decide) : PE X (.Name x pos) (tC (.int n)) :=
  let ⟨t, e⟩ := hm; pe_glob hg e ⟨t, rfl⟩ hd
theorem upd_get {H : Hp} {a b : Addr} {o u : HO} (h : H b = some u) (ha : H a = none) : upd H a o b = some u := by rw [upd_ne (ne_of_none h ha)]; exact h
theorem Same.upd {H : Hp} {a : Addr} {o : HO} (h : H a = none) : Same H (L2.upd H a o) := fun b u e => upd_get e h
end L2
/-! The rules whose readings speak of the text's written part, with that part named (K): so they serve inside a comprehension too. -/
namespace L2
open PySem PySem.Spec PyProof.Rows
section
variable {X : Cx} {K : PySem.W.Frag} {a b c e o l value : Expr} {es : List Expr} {ta tb te tl tv to : TE} {t : TA} {f name : Str} {pos pos' p apos cpos tpos : Pos} {T id : String} {r : V → List V → Hp → VK → Prop}
theorem op_addK (hK : X.K = K) : OpR X (binaryOp .Add) (rAddU K) := by subst hK; exact op_addU
theorem op_eqK (hK : X.K = K) (hu : X.A.units + 64 < cLine) : OpR X (compareOp .Eq) (rEqU K) := by subst hK; exact op_eqU hu
theorem op_neK (hK : X.K = K) (hu : X.A.units + 64 < cLine) : OpR X (compareOp .NotEq) (rNeU K) := by subst hK; exact op_neU hu
theorem op_notInK (hK : X.K = K) : OpR X (compareOp .NotIn) (rIn K true) := by subst hK; exact op_notIn_seq
theorem ix_K (hK : X.K = K) : IxR X (rIxLT K) := by subst hK; exact ix_LT
theorem sl_K (hK : X.K = K) : SlR X (rSlL K) := by subst hK; exact sl_list
theorem pi_listK {tg : Expr} (hK : X.K = K) (hl : PE X l tl) : PI X tg l (iList K tl) := by subst hK; exact pi_list hl
theorem pi_enumK {k : Nat} (hK : X.K = K) (hg : Gl X "enumerate") (hm : X.mg "enumerate" = none) (ha : PA X [l] t) (hs : starEach [l] X.env = [(false, eval l X.env)] := by rfl) : PI X (.Tuple es k tpos) (.Call (.Name "enumerate" p) [l] [] pos) (iEnum K t) := by subst hK; exact pi_enum hg hm ha hs
theorem pi_zipK {k : Nat} {m : Expr} (hK : X.K = K) (hg : Gl X "zip") (hm : X.mg "zip" = none) (ha : PA X [l, m] t) (hs : starEach [l, m] X.env = [(false, eval l X.env), (false, eval m X.env)] := by rfl) (hs2 : starEach [m] X.env = [(false, eval m X.env)] := by rfl) :
    PI X (.Tuple es k tpos) (.Call (.Name "zip" p) [l, m] [] pos) (iZip K t) := by subst hK; exact pi_zip hg hm ha hs hs2
theorem pg_tupK {k n : Nat} {ts : TGs} (hK : X.K = K) (hc : X.calm = true) (h : PGs X es ts) (hn : (assignEach es X.env).length = n := by rfl) (hst : (assignEach es X.env).findIdx? (·.1) = none := by rfl) : PG X (.Tuple es k pos) (gTup K n ts) := by
  subst hK; exact pg_tup hc h hn hst
theorem callK_len (hK : X.K = K) : CallR X (.builtin "len") (fun xs H Q => ∃ x n, xs = [x] ∧ LenV K x H n ∧ Q (.int n) H) := by subst hK; exact call_len
theorem callK_sorted (hK : X.K = K) : CallR X (.builtin "sorted") (fun xs H Q => ∃ (p : Addr) (ns : List Int), xs = [.ref p] ∧ SqL K H p (ns.map V.int) ∧ ns.length < 64 ∧
    ∀ (l : Addr) (ns' : List Int), H l = none → ns'.Perm ns → ns'.Pairwise (· ≤ ·) → Q (.ref l) (upd H l (.lst (ns'.map V.int)))) := by subst hK; exact call_sortedI
theorem callK_any (hK : X.K = K) (hc : X.calm = true) : CallR X (.builtin "any") (fun xs H Q => ∃ (p : Addr) (bs : List Bool), xs = [.ref p] ∧ SqL K H p (bs.map V.bl) ∧ Q (.bl (bs.any _root_.id)) H) := by subst hK; exact call_anyB hc
theorem callK_all (hK : X.K = K) (hc : X.calm = true) : CallR X (.builtin "all") (fun xs H Q => ∃ (p : Addr) (bs : List Bool), xs = [.ref p] ∧ SqL K H p (bs.map V.bl) ∧ Q (.bl (bs.all _root_.id)) H) := by subst hK; exact call_allB hc
theorem callK_isinstance (hK : X.K = K) : CallR X (.builtin "isinstance") (fun xs H Q => ∃ x c cv t b, xs = [x, c] ∧ RelV c cv ∧ (∀ u, RelV c u → u = cv) ∧ TyOf K H x t ∧ PySem.W.kitOne K t cv = some b ∧ Q (.bl b) H) := by subst hK; exact call_isinst
theorem pt_truK (hK : X.K = K) (ha : PE X a ta) (he : ∀ whole, isTrue a X.env whole = (do let v ← whole; standAt a.pos; holding [v] (truthy v))) : PT X a (fun σ H Q => ta σ H fun x H' => ∃ k, TruV K x H' k ∧ Q k H') := by subst hK; exact pt_truth ha he
theorem mt_joinK (hK : X.K = K) : MtR X "str.join" (rJoin K) := by subst hK; exact mt_join
end
section
variable {X : Cx} {K : PySem.W.Frag} {o e : Expr} {es : List Expr} {to : TE} {t : TA} {name : Str} {apos cpos : Pos} {T id : String} {r : V → List V → Hp → VK → Prop}
theorem pe_bmK (hK : X.K = K) (pa : PlainAttrs T) (slot : Slot T name id) (hty : typeOf (.builtin id) = pure (.type "method_descriptor")) (hm : MtR X id r) (ho : PE X o to) (ha : PA X (e :: es) t)
    (hbase : attributeBase o name X.env (eval o X.env) = eval o X.env := by rfl)
    (hfew : ((backTo cpos (starEach (e :: es) X.env)).all (fun x => !x.1) && (backToKw cpos (keywordEach [] X.env)).all (fun x => x.1.isSome)
      && decide ((e :: es).length + ([] : List Keyword).length + (if ([] : List Keyword).isEmpty then 0 else 1) < 30)) = true := by rfl)
    (hline : (apos.endLine == cpos.line) = true := by rfl) (hs : starEach (e :: es) X.env = (false, eval e X.env) :: starEach es X.env := by rfl) (hplain : (backTo cpos (starEach es X.env)).any (·.1) = false := by rfl) :
    PE X (.Call (.Attribute o name apos) (e :: es) [] cpos) (tBM K T r to t) := by subst hK; exact pe_bm pa slot hty hm ho ha hbase hfew hline hs hplain
end
end L2
/-! Small facts about lists, cuts, orders. -/
namespace L2
open PySem PySem.Spec PyProof.Rows

theorem cutV_from (xs : List V) (k : Nat) : cutV xs (some (k : Int)) none = xs.drop k := by
  unfold cutV
  rw [HT.sIx_nat, HT.sIx_none]
  by_cases h : k ≤ xs.length
  · rw [Nat.min_eq_left h, List.take_of_length_le (by simp)]
  · rw [Nat.min_eq_right (by omega), List.drop_of_length_le (Nat.le_refl _), List.drop_of_length_le (by omega), List.take_nil]
/-- two neighbours alike -/
def adj (ns : List Int) : List Bool := (ns.zip (ns.drop 1)).map fun p => decide (p.1 = p.2)
theorem adj_len (ns : List Int) : (adj ns).length = min ns.length (ns.length - 1) := by
  unfold adj
  rw [List.length_map, List.length_zip, List.length_drop]
theorem adj_cons (a b : Int) (r : List Int) : adj (a :: b :: r) = decide (a = b) :: adj (b :: r) := by
  unfold adj
  simp
theorem adj_get {ns : List Int} {i : Nat} {x y : Int} (hx : ns[i]? = some x) (hy : (ns.drop 1)[i]? = some y) : (adj ns)[i]? = some (decide (x = y)) := by
  unfold adj
  rw [List.getElem?_map, List.getElem?_zip_eq_some (z := (x, y)) |>.mpr ⟨hx, hy⟩]
  rfl
theorem adj_take {ns : List Int} {i : Nat} {x y : Int} (hx : ns[i]? = some x) (hy : (ns.drop 1)[i]? = some y) : (adj ns).take (i + 1) = (adj ns).take i ++ [decide (x = y)] := by
  rw [List.take_add_one, adj_get hx hy]
  rfl
/-- in a rising list two alike stand beside one another -/
theorem adj_nodup : ∀ {ns : List Int}, ns.Pairwise (· ≤ ·) → ((adj ns).any id = !decide ns.Nodup)
  | [], _ => by simp [adj]
  | [a], _ => by simp [adj]
  | a :: b :: r, h => by
    rw [List.pairwise_cons] at h
    have ih := adj_nodup h.2
    rw [adj_cons, List.any_cons, ih]
    have hab : a ≤ b := h.1 b List.mem_cons_self
    by_cases e : a = b
    · subst e
      have : ¬ (a :: a :: r).Nodup := fun z => (List.nodup_cons.mp z).1 List.mem_cons_self
      simp [this]
    · have ne : a ∉ b :: r := fun hm => by
        rcases List.mem_cons.mp hm with z | z
        · exact e z
        · have h1 := (List.pairwise_cons.mp h.2).1 a z
          exact e (by omega)
      have : (a :: b :: r).Nodup ↔ (b :: r).Nodup := by rw [List.nodup_cons]; exact ⟨fun z => z.2, fun z => ⟨ne, z⟩⟩
      by_cases hn : (b :: r).Nodup
      · simp [e, this.mpr hn, hn]
      · simp [e, this, hn]
theorem getMap {α β : Type} {f : α → β} {l : List α} {i : Nat} {y : β} (h : (l.map f)[i]? = some y) : ∃ x, l[i]? = some x ∧ y = f x := by
  rw [List.getElem?_map] at h
  cases e : l[i]? with
  | none => rw [e] at h; cases h
  | some x => rw [e] at h; exact ⟨x, rfl, (Option.some.inj h).symm⟩
theorem take_snoc {α : Type} {l : List α} {i : Nat} {x : α} (h : l[i]? = some x) : l.take (i + 1) = l.take i ++ [x] := by
  rw [List.take_add_one, h]
  rfl
theorem decV (a b : Int) : decide (V.int a = V.int b) = decide (a = b) := decide_eq_decide.mpr ⟨fun h => V.int.inj h, fun h => h ▸ rfl⟩
end L2
/-! A frame's note on an exception that passes: the object itself stays known, its dict too. -/
namespace Xc
open PySem
section
variable {M : Model} {A : Around} {E : Value → Shared → Prop} {s : Shared}
/-- an exception at e: class, dict, its first arguments; its chain of notes begins at T (flight fl) -/
structure Exc (h : Heap) (e : Addr) (cls : Value) (od : Option Addr) (sl : Array (Option Value)) (vs : Array Value) : Prop where
  obj : h.get? e = some { cls := cls, dict := od, data := .fields vs, slots := sl }
  big : 2 < vs.size
structure Tb (h : Heap) (T : Addr) (fl : Value) : Prop where
  ex : ∃ oT ts, h.get? T = some oT ∧ oT.data = .fields ts ∧ ts[3]? = some fl
theorem map_at {h : Heap} {a : Addr} {o : Obj} {vs : Array Value} {i : Nat} {x : Value} (ho : h.get? a = some o) (hd : o.data = .fields vs) :
    (h.update a (Obj.mapFields (·.setIfInBounds i x))).get? a = some { o with data := .fields (vs.setIfInBounds i x) } := by
  rw [Heap.get?_update_self _ ho (Obj.isFreed_of_fields (Obj.data_mapFields hd _))]
  obtain ⟨c, d, dt, sl⟩ := o
  subst hd
  rfl
/-- the note written: a new entry T' over the old one (or the first) -/
theorem entry_new {base : Heap} {env : Env} {outer : List Env} {L e : Addr} {cls : Value} {od : Option Addr} {sl : Array (Option Value)} {vs : Array Value} {head : Value} {had : Bool} {Q : Unit → Shared → Prop}
    (hfr : A.frames = some (env :: outer)) (hl : s.heap.FunFrames base (env :: outer)) (hf : env.frame = some L) (hx : Exc s.heap e cls od sl vs)
    (h : ∀ h' T', (∀ b o, b ∉ (env :: outer).filterMap (·.frame) → b ≠ e → s.heap.get? b = some o → h'.get? b = some o) → (∀ b o, b ≠ e → s.heap.get? b = some o → ∃ k, h'.get? b = some { o with slots := k }) →
      s.heap.objs.size ≤ T' → Exc h' e cls od sl (vs.setIfInBounds 1 (.ref T')) → Tb h' T' (rawInt L) → Q () { s with heap := h' }) :
    wpAny M A (do let a ← frameOf env; let pl ← entryPlaceOf L had; let b ← EntryCells.newEntry head a .none (rawInt L) .none pl; setField (.ref e) 1 b) Q E s := by
  have he := hx.obj
  have nfr : e ∉ (env :: outer).filterMap (·.frame) := fun hm => by
    obtain ⟨_, o, ho, hn⟩ := hl.mem hm
    rw [he] at ho
    cases ho
    exact hn vs rfl
  refine wpAny_bind (wpAny_frameOf_fun hfr hl hf fun g hs => wpAny_bind (wpAny_entryPlaceOf fun pl hpl => ?_))
  unfold EntryCells.newEntry newFields
  refine wpAny_bind (wpAny_newObj_type ?_ (hpl.sizeOk5 _ _ _ _ _))
  have e1 : g.get? e = some { cls := cls, dict := od, data := .fields vs, slots := sl } := (hs.2.1 e nfr).trans he
  generalize eN : ({ cls := .type "traceback", dict := none, data := .fields ([head, Value.ref L, .none, rawInt L, .none] ++ (if pl.isEmpty then List.replicate 6 Value.none else pl)).toArray } : Obj) = oN
  have eD : oN.data = .fields ([head, Value.ref L, .none, rawInt L, .none] ++ (if pl.isEmpty then List.replicate 6 Value.none else pl)).toArray := by rw [← eN]
  have e2 := Heap.get?_push_of_some (h := g) oN e1
  have eT : g.objs.size ≠ e := Nat.ne_of_gt (Heap.lt_size e1)
  refine wpAny_setField e2 rfl (Nat.lt_of_succ_lt hx.big) (h _ g.objs.size (fun b o hb hbe q => ?_) (fun b o hbe q => ?_) (Nat.le_of_eq hs.1.symm) ⟨map_at e2 rfl, by simpa using hx.big⟩ ⟨⟨oN, _, ?_, eD, ?_⟩⟩)
  · exact (Heap.get?_update_other _ _ (Ne.symm hbe)).trans (Heap.get?_push_of_some _ ((hs.2.1 b hb).trans q))
  · obtain ⟨k, z⟩ := hs.2.2 b o q
    exact ⟨k, (Heap.get?_update_other _ _ (Ne.symm hbe)).trans (Heap.get?_push_of_some _ z)⟩
  · exact (Heap.get?_update_other _ _ (Ne.symm eT)).trans (Heap.get?_push_size _ (by rw [← eN]; rfl))
  · rcases hpl with rfl | ⟨_, _, _, _, _, _, _, rfl⟩ <;> simp
/-- noteFrame: nobody has noted yet, or the last note is another frame's that has landed -/
theorem note_step {base : Heap} {env : Env} {outer : List Env} {L e : Addr} {cls : Value} {od : Option Addr} {sl : Array (Option Value)} {vs : Array Value} {Q : Unit → Shared → Prop}
    (hfr : A.frames = some (env :: outer)) (hl : s.heap.FunFrames base (env :: outer)) (hf : env.frame = some L) (hx : Exc s.heap e cls od sl vs)
    (ht : vs[1]? = some .none ∨ ∃ T, vs[1]? = some (.ref T) ∧ T ≠ e ∧ Tb s.heap T .none)
    (h : ∀ h' T', (∀ b o, b ∉ (env :: outer).filterMap (·.frame) → b ≠ e → vs[1]? ≠ some (.ref b) → s.heap.get? b = some o → h'.get? b = some o) →
      (∀ b o, b ≠ e → vs[1]? ≠ some (.ref b) → s.heap.get? b = some o → ∃ k, h'.get? b = some { o with slots := k }) → (∀ b o, vs[1]? = some (.ref b) → s.heap.get? b = some o → ∃ o', h'.get? b = some o') →
      s.heap.objs.size ≤ T' → Exc h' e cls od sl (vs.setIfInBounds 1 (.ref T')) → Tb h' T' (rawInt L) → Q () { s with heap := h' }) :
    wpAny M A (noteFrame (.ref e) env) Q E s := by
  unfold noteFrame
  simp only [hf]
  rcases ht with h1 | ⟨T, h1, hTe, ⟨oT, ts, hT, hdT, h3⟩⟩
  · refine wpAny_bind (wpAny_field hx.obj rfl h1 ?_)
    rw [if_neg (by decide)]
    exact entry_new hfr hl hf hx fun h' T' k1 k2 k3 k4 k5 => h h' T' (fun b o b1 b2 _ => k1 b o b1 b2) (fun b o b2 _ => k2 b o b2) (fun b o z => by rw [h1] at z; cases z) k3 k4 k5
  · refine wpAny_bind (wpAny_field hx.obj rfl h1 ?_)
    rw [if_pos (show (Value.ref T != Value.none) = true from by simp)]
    refine wpAny_bind (wpAny_field hT hdT h3 ?_)
    rw [if_neg (show ¬ ((Value.none == rawInt L) = true) from by simp [rawInt])]
    refine wpAny_bind (wpAny_setField hT hdT (Array.getElem?_eq_some_iff.mp h3).1 ?_)
    have oth : ∀ b, b ≠ T → (s.heap.update T (Obj.mapFields (·.setIfInBounds 3 Value.none))).get? b = s.heap.get? b := fun b hb => Heap.get?_update_other _ _ (Ne.symm hb)
    have hTn := map_at (i := 3) (x := Value.none) hT hdT
    refine entry_new (base := base) (had := true) hfr (hl.of_keeps fun b o hb hn => ?_) hf ⟨(oth e (Ne.symm hTe)).trans hx.obj, hx.big⟩ fun h' T' k1 k2 k3 k4 k5 => h h' T' (fun b o b1 b2 b3 q => ?_) (fun b o b2 b3 q => ?_) (fun b o b3 q => ?_) (by simpa using k3) k4 k5
    · have bT : b ≠ T := fun z => by
        rw [z, hT] at hb
        cases hb
        exact hn ts hdT
      exact ⟨o, (oth b bT).trans hb, rfl⟩
    · have bT : b ≠ T := fun z => b3 (by rw [z]; exact h1)
      exact k1 b o b1 b2 ((oth b bT).trans q)
    · have bT : b ≠ T := fun z => b3 (by rw [z]; exact h1)
      exact k2 b o b2 ((oth b bT).trans q)
    · have bT : b = T := by
        rw [h1] at b3
        cases b3
        rfl
      subst bT
      obtain ⟨k, z⟩ := k2 b _ hTe hTn
      exact ⟨_, z⟩
/-- setFlight e none -/
theorem land {e T : Addr} {cls : Value} {od : Option Addr} {sl : Array (Option Value)} {vs : Array Value} {fl : Value} {Q : Unit → Shared → Prop} (hx : Exc s.heap e cls od sl vs) (h1 : vs[1]? = some (.ref T)) (hTe : T ≠ e) (ht : Tb s.heap T fl)
    (h : ∀ h', (∀ b o, b ≠ T → s.heap.get? b = some o → h'.get? b = some o) → Tb h' T .none → Q () { s with heap := h' }) : wpAny M A (setFlight (.ref e) none) Q E s := by
  obtain ⟨oT, ts, hT, hdT, h3⟩ := ht.ex
  have hz : 3 < ts.size := (Array.getElem?_eq_some_iff.mp h3).1
  unfold setFlight
  refine wpAny_bind (wpAny_field hx.obj rfl h1 ?_)
  rw [if_pos (show (Value.ref T != Value.none) = true from by simp)]
  refine wpAny_setField hT hdT hz (h _ (fun b o hb q => (Heap.get?_update_other _ _ (Ne.symm hb)).trans q) ⟨⟨_, _, map_at hT hdT, rfl, ?_⟩⟩)
  simp [hz]
end
end Xc
/-! An own exception class under own ones, with an __init__ of its own: the object made, then handed to __init__. -/
namespace Xc
open PySem
section
variable {prog : Program} {w : World} {A : Around} {E : Value → Shared → Prop} {h : Heap} {g : Array GenState} {d : Drawn} {t : Nat} {os : OsState}
variable {nm q : Str} {C N : Addr} {bs bm bmB : List Value} {hdct : Bool} {sn : List Str} {sub : List Value} {ab : Bool} {col : Option Bool} {dd : Option Addr} {k0 k1 k2 k3 k5 : Option Value} {B newId initId : String}
end
end Xc
namespace Xc
open PySem
section
variable {M : Model} {A : Around} {E : Value → Shared → Prop} {s : Shared} {env : Env}
variable {nm q : Str} {C N : Addr} {bs bm : List Value} {hdct : Bool} {sn : List Str} {sub : List Value} {ab : Bool} {col : Option Bool} {dd : Option Addr} {k0 k1 k2 k3 k5 : Option Value} {newId : String}
/-- raise x, x an exception of an own class that nobody has noted yet -/
theorem raise_made {x : Sem Value} {Q : Flow → Shared → Prop} (hbase : bm.contains (.type "BaseException") = true) (hh : A.handled = none)
    (h : wpAny M A x (fun v s1 => ∃ e od sl vs, v = .ref e ∧ s1.heap.get? C = some (excClassObj nm q C N bs bm hdct sn sub ab col dd k0 k1 k2 k3 k5 newId) ∧ Exc s1.heap e (.ref C) od sl vs ∧ vs[1]? = some .none ∧ E (.ref e) s1) E s) :
    wpAny M A (raiseStmt env (some x) none) Q E s := by
  have hcB : (Value.ref C :: bm).contains (.type "BaseException") = true := by rw [List.contains_cons, hbase, Bool.or_true]
  unfold raiseStmt
  refine wpAny_bind (wpAny_mono h (fun v s1 h1 => ?_) fun _ _ x => x)
  obtain ⟨e, od, sl, vs, rfl, hC, ⟨he, hb⟩, hv, hE⟩ := h1
  obtain ⟨hp, g, d, tk, os⟩ := s1
  repeat (first | with_reducible refine wpAny_field he rfl hv ?_ | with_reducible refine wpAny_loadPart_at he ?_ | with_reducible refine wpAny_loadPart_at hC ?_ | (with_reducible refine wpAny_isSubtype_exc hC ?_; rw [hcB]) | wp_step)
  exact wpAny_raiseNew_none hh hE
end
end Xc
/-! Exceptions over the hand layer: how one lies behind a call, how it leaves a frame, how it passes a caller. -/
namespace L2
open PySem PySem.Spec PyProof.Rows
/-- an exception behind a call: the object at ea (class, dict), its notes begin at T; the heap behind it -/
def CXe (P : Program) (w : World) : CXT := fun outer H s E e s' => ∃ (ea T : Addr) (cls : Value) (od : Option Addr) (sl : Array (Option Value)) (vs : Array Value) (H' : Hp),
  e = .ref ea ∧ s'.os = s.os ∧ AllBare s'.gens ∧ Un (frs outer) [] H H' s.heap s'.heap ∧ HOk P w H' s'.heap ∧ H' ea = none ∧ H' T = none ∧ s.heap.objs.size ≤ ea ∧ s.heap.objs.size ≤ T ∧
  Xc.Exc s'.heap ea cls od sl vs ∧ vs[1]? = some (.ref T) ∧ T ≠ ea ∧ vs[2]? = some .none ∧ Xc.Tb s'.heap T .none ∧ E cls od H'
/-- one that is raised in this body, not noted yet -/
structure Flying (X : Cx) (H : Hp) (s : Shared) (ea : Addr) (cls : Value) (od : Option Addr) (sl : Array (Option Value)) (vs : Array Value) : Prop where
  exc : Xc.Exc s.heap ea cls od sl vs
  h2 : vs[2]? = some .none
  free : H ea = none
  new : X.s₀.heap.objs.size ≤ ea
  nofr : ∀ x c, X.env.cells.lookup x = some c → c ≠ ea
  tb : vs[1]? = some .none ∨ ∃ T, vs[1]? = some (.ref T) ∧ T ≠ ea ∧ Xc.Tb s.heap T .none ∧ H T = none ∧ X.s₀.heap.objs.size ≤ T
section
variable {P : Program} {w : World} {K : PySem.W.Frag} {mg : Str → Option Value} {base : Heap} {N : List Str} {qual : Str} {scope : Scope} {f : Addr} {cd : Value} {A : Around} {outer : List Env} {s : Shared} {H : Hp} {E : XK}
theorem hok_kept {H' : Hp} {h h' : Heap} (ok : HOk P w H' h) (k : ∀ b o u, H' b = some u → h.get? b = some o → h'.get? b = some o) : HOk P w H' h' := fun b u e =>
  (ok b u e).stay (fun c v hc q => by
    rcases hc with rfl | hc
    · exact k c v _ e q
    · exact k c v _ hc q) (fun _ q => q) (fun _ _ q => q) fun _ _ _ q => q
/-- it leaves the frame -/
theorem fly_out {pins : List (Addr × Obj)} {σ : St} {H' : Hp} {s' : Shared} {ea : Addr} {cls : Value} {od : Option Addr} {sl : Array (Option Value)} {vs : Array Value}
    (I : Inv (cxOf (CXe P w) P w K mg base N qual scope f cd A outer s H E) pins σ H' s') (F : Flying (cxOf (CXe P w) P w K mg base N qual scope f cd A outer s H E) H' s' ea cls od sl vs) (q : E cls od H') :
    (cxOf (CXe P w) P w K mg base N qual scope f cd A outer s H E).xe (.ref ea) s' := by
  have hst : s'.heap.FunFrames base (envOfC qual scope s.heap.objs.size f cd :: outer) := I.stack
  have hfr : (A.deeper (envOfC qual scope s.heap.objs.size f cd)).frames = some (envOfC qual scope s.heap.objs.size f cd :: outer) := I.ok.frames
  have sfree : ∀ b ∈ (envOfC qual scope s.heap.objs.size f cd :: outer).filterMap (·.frame), H' b = none := I.stkFree
  have sub : ∀ b ∈ (envOfC qual scope s.heap.objs.size f cd :: outer).filterMap (·.frame), b ∈ s.heap.objs.size :: frs outer := I.stkSub
  have bs := I.base
  have new0 : s.heap.get? ea = none := Heap.get?_none_of_le F.new
  show wpAny (model P w) (A.deeper (envOfC qual scope s.heap.objs.size f cd)) (leaving (envOfC qual scope s.heap.objs.size f cd) (.ref ea)) (fun _ s'' => CXe P w outer H s E (.ref ea) s'') (fun e' s'' => CXe P w outer H s E e' s'') s'
  unfold leaving
  refine wpAny_bind (Xc.note_step hfr hst rfl F.exc (F.tb.imp id fun ⟨T, a, b, c, _⟩ => ⟨T, a, b, c⟩) fun h1 T1 k1 k2 k3 k4 k5 k6 => ?_)
  have hv1 : (vs.setIfInBounds 1 (.ref T1))[1]? = some (.ref T1) := by simp [Nat.lt_of_succ_lt F.exc.big]
  have hv2 : (vs.setIfInBounds 1 (.ref T1))[2]? = some .none := by rw [Array.getElem?_setIfInBounds_ne (by decide)]; exact F.h2
  have hTe : T1 ≠ ea := Nat.ne_of_gt (Nat.lt_of_lt_of_le (Heap.lt_size F.exc.obj) k4)
  refine Xc.land k5 hv1 hTe k6 fun h2 g1 g2 => ?_
  have ltT : ∀ b o, s'.heap.get? b = some o → b ≠ T1 := fun b o e => Nat.ne_of_lt (Nat.lt_of_lt_of_le (Heap.lt_size e) k4)
  have oldT : ∀ b, vs[1]? = some (.ref b) → H' b = none ∧ s.heap.get? b = none := fun b e => by
    rcases F.tb with z | ⟨T, a, _, _, d, n⟩
    · rw [z] at e; cases e
    · rw [a] at e; cases e; exact ⟨d, Heap.get?_none_of_le n⟩
  -- what was there at the entry
  have kept : ∀ b o, s.heap.get? b = some o → s'.heap.get? b = some o → b ∉ frs outer → h2.get? b = some o := fun b o e0 e hb => by
    refine g1 b o (ltT b o e) (k1 b o (fun z => ?_) (fun z => ?_) (fun z => ?_) e)
    · rcases List.mem_cons.mp (sub b z) with y | y
      · rw [y] at e0
        exact absurd (Heap.lt_size e0) (Nat.lt_irrefl _)
      · exact hb y
    · rw [z, new0] at e0; cases e0
    · rw [(oldT b z).2] at e0; cases e0
  have slots : ∀ b o, s.heap.get? b = some o → s'.heap.get? b = some o → ∃ k, h2.get? b = some { o with slots := k } := fun b o e0 e => by
    obtain ⟨k, z⟩ := k2 b o (fun z => by rw [z, new0] at e0; cases e0) (fun z => by rw [(oldT b z).2] at e0; cases e0) e
    exact ⟨k, g1 b _ (ltT b o e) z⟩
  have there : ∀ b o, s.heap.get? b = some o → ∀ o', s'.heap.get? b = some o' → ∃ o'', h2.get? b = some o'' := fun b o e0 o' e => by
    obtain ⟨k, z⟩ := k2 b o' (fun z => by rw [z, new0] at e0; cases e0) (fun z => by rw [(oldT b z).2] at e0; cases e0) e
    exact ⟨_, g1 b _ (ltT b o' e) z⟩
  refine ⟨ea, T1, cls, od, sl, _, H', rfl, I.os, I.bare, ⟨fun b o e n hb hx => ?_, fun b o e n hb hx => ?_, fun b o e n hx => bs.free b o e n (by show b ∉ ([] : List Addr); simp), fun b o e hx => ?_, bs.tups, bs.frzs, bs.tbls⟩, ?_, F.free, I.hok.fresh k4, F.new, ?_, ⟨g1 _ _ hTe.symm k5.obj, k5.big⟩, hv1, hTe, hv2, g2, q⟩
  · exact kept b o e (bs.keep b o e n hb (by show b ∉ ([] : List Addr); simp)) hb
  · obtain ⟨k0, e0⟩ := bs.slot b o e n hb (by show b ∉ ([] : List Addr); simp)
    obtain ⟨k, z⟩ := k2 b _ (fun z => by rw [z, new0] at e; cases e) (fun z => by rw [(oldT b z).2] at e; cases e) e0
    exact ⟨k, g1 b _ (ltT b _ e0) z⟩
  · obtain ⟨o', e1⟩ := bs.there b o e (by show b ∉ ([] : List Addr); simp)
    exact there b o e o' e1
  · exact hok_kept I.hok fun b o u hu e => g1 b o (ltT b o e) (k1 b o (fun z => by rw [sfree b z] at hu; cases hu) (fun z => by rw [z, F.free] at hu; cases hu) (fun z => by rw [(oldT b z).1] at hu; cases hu) e)
  · exact Nat.le_trans I.sz k4
/-- a callee's passes through -/
theorem passE {E' : XK} (h : ∀ c d H, E' c d H → E c d H) : Passes (CXe P w) (cxOf (CXe P w) P w K mg base N qual scope f cd A outer s H E) E' := by
  intro pins σ H1 s1 e s' I hx
  obtain ⟨ea, T, cls, od, sl, vs, H', rfl, ho, hb, hu, hok, n1, n2, m1, m2, ex, v1, ne, v2, tb, q⟩ := hx
  have I' := I.call' (ch := []) ho hu hok hb (fun _ z => nomatch z)
  refine fly_out I' ⟨ex, v2, n1, Nat.le_trans I.sz m1, fun x c e z => ?_, .inr ⟨T, v1, ne, tb, n2, Nat.le_trans I.sz m2⟩⟩ (h _ _ _ q)
  obtain ⟨v, o, y, _⟩ := I.cell x c e
  rw [z] at y
  exact absurd (Heap.lt_size y) (Nat.not_lt.mpr m1)
end
/-- what a raise in a body needs of its context -/
def Raises (X : Cx) (E : XK) : Prop := ∀ (pins : List (Addr × Obj)) (σ : St) (H : Hp) (s : Shared) (ea : Addr) (cls : Value) (od : Option Addr) (sl : Array (Option Value)) (vs : Array Value), Inv X pins σ H s → Flying X H s ea cls od sl vs → E cls od H → X.xe (.ref ea) s
theorem raisesE {P : Program} {w : World} {K : PySem.W.Frag} {mg : Str → Option Value} {base : Heap} {N : List Str} {qual : Str} {scope : Scope} {f : Addr} {cd : Value} {A : Around} {outer : List Env} {s : Shared} {H : Hp} {E : XK} :
    Raises (cxOf (CXe P w) P w K mg base N qual scope f cd A outer s H E) E := fun _ _ _ _ _ _ _ _ _ I F q => fly_out I F q
/-- the rule for a def whose exceptions are told -/
theorem Fun.okE {P : Program} {w : World} {K : PySem.W.Frag} {mg : Str → Option Value} {base : Heap} {x qual : Str} {st : Stmt} {f : Addr} {fd : FuncData} {N ps : List Str} {k : Nat} {sp : Sp} (F : Fun K x qual st f fd) (S : FnScope N ps (defScope st)) (len : ∀ vs H Q E, sp vs H Q E → vs.length = ps.length)
    (hbody : ∀ (cdv : Value) (A : Around) (outer : List Env) (s : Shared) (H : Hp) (vs : List V) (Q : VK) (E : XK), Room k (A.deeper (envOfC qual (defScope st) s.heap.objs.size f cdv)) → sp vs H Q E →
      ∃ t, PSs (cxOf (CXe P w) P w K mg base N qual (defScope st) f cdv A outer s H E) (defBody st) t ∧ t { nx := fun _ H' => Q .non H', rt := Q } (start N vs) H) : FnOk P w K mg base (CXe P w) (k + 1) f fd ps sp := by
  obtain ⟨oc, od, kV, doc, pm, an, cdv, ct, osl, rfl, lk, hcd⟩ := F.ex
  exact fn_of lk hcd S len fun A outer s H vs Q E hr hsp => hbody cdv A outer s H vs Q E hr hsp
end L2
/-! An exception of an own class as an object of the module's text: its attributes, isinstance. -/
namespace Xc
open PySem PySem.W PySem.Calls PyProof.Rows Builtin Builtin.ObjectAttr
/-- own classes over ValueError's own -/
def overVE : List Value → Bool
  | .ref _ :: r => overVE r
  | l => l == [.type "ValueError", .type "Exception", .type "BaseException", .type "object"]
theorem ve_not {l : List Value} (h : overVE l = true) (h' : ∀ a r, l ≠ .ref a :: r) : l = [.type "ValueError", .type "Exception", .type "BaseException", .type "object"] := by
  unfold overVE at h
  split at h
  · exact absurd rfl (h' _ _)
  · exact beq_iff_eq.mp h
theorem ve_has (n : String) (hn : ([.type "ValueError", .type "Exception", .type "BaseException", .type "object"] : List Value).contains (.type n) = true) : ∀ {l : List Value}, overVE l = true → l.contains (.type n) = true
  | l, e => by
    induction l with
    | nil => cases ve_not e (by simp)
    | cons v r ih =>
      cases v with
      | ref c => rw [List.contains_cons, ih (by rw [overVE] at e; exact e), Bool.or_true]
      | _ => rw [ve_not e (by simp)]; exact hn
structure XC (K : Frag) (C : Addr) : Prop where
  mro : (clsIn K C).any (fun cd => overVE cd.mro) = true
  hd : hasDictIn K C = true
  ga : findIn K (.ref C) "__getattribute__" = some (some (.builtin "BaseException.__getattribute__"))
  gh : findIn K (.ref C) "__getattr__" = some none
  sa : findIn K (.ref C) "__setattr__" = some (some (.builtin "object.__setattr__"))
  ca : findIn K (.ref C) "__class__" = some (some (.builtin "object.__class__"))
  cg : specialIn K (.builtin "object.__class__") "__get__" = some (some (.builtin "getset_descriptor.__get__"))
  ct : takesIn K (.builtin "object.__class__") = some true
section
variable {prog : Program} {w : World} {A : Around} {E : Value → Shared → Prop} {s : Shared} {K : Frag} {x C : Addr} {ox : Obj} {od : Option Obj} {name : Str}
theorem XC.has (c : XC K C) {n : String} (hn : ([.type "ValueError", .type "Exception", .type "BaseException", .type "object"] : List Value).contains (.type n) = true) : mroIn K C (.type n) = some true := by
  obtain ⟨cd, hc, ho⟩ := any_some c.mro
  have ne : cd.mro.isEmpty = false := by cases q : cd.mro with | nil => rw [q] at ho; cases ve_not ho (by simp) | cons _ _ => rfl
  unfold mroIn
  rw [hc, Option.bind_some, if_neg (by rw [ne]; decide), ve_has n hn ho]
theorem slot_ga : Slot "BaseException" "__getattribute__" "BaseException.__getattribute__" :=
  .of (owner := "BaseException") (n := "__getattribute__") (by rw [typeLookup_type, builtinLookup_eq_fast]; kernel_rfl) (by decide +kernel) (by decide +kernel) (by decide +kernel)
    (by first | exact .inl (by decide +kernel) | exact .inr (by decide +kernel)) (by rw [isSubtype_type]; kernel_rfl)
/-- x.name, by BaseException's own way -/
theorem by_own {fill expr : Bool} {tk : Tok} {Q : Value → Shared → Prop} (c : XC K C) (X : K.In s.heap) (I : InstAt s.heap x ox C od)
    (h : wpAny (model prog w) A.in1 (Builtin.«object.__getattribute__» ⟨[.ref x, .str name tk], []⟩)
      (fun fin s' => match fin with | .done (.ret v) => wpAny (model prog w) A (handedOut v) Q E s' | _ => False) (fun _ _ => False) s) :
    wpAny (model prog w) A (getAttrBy (.ref x) (.str name tk) fill expr) Q E s := by
  have L0 := I.type (M := model prog w)
  unfold getAttrBy
  refine wpAny_holding (wpAny_bind (L0.here (wpAny_bind ((looks_findIn X c.ga).here ?_))))
  dsimp only
  rw [show (onTheHeap (Value.ref C) && Value.builtin "BaseException.__getattribute__" == Value.builtin "object.__getattribute__") = false from by rw [show (Value.builtin "BaseException.__getattribute__" == Value.builtin "object.__getattribute__") = false from by decide +kernel, Bool.and_false], if_neg (by decide)]
  unfold getAttrByItsOwn
  refine wpAny_bind ((looks_hook (r := none) X (by rw [if_pos (show onTheHeap (Value.ref C) = true from rfl)]; exact c.gh)).here (wpAny_bind (wpAny_attempt (wpAny_holding ?_))))
  unfold callGetattribute
  rw [show (expr && onTheHeap (Value.builtin "BaseException.__getattribute__")) = false from Bool.and_false _, if_neg (by decide)]
  unfold boundAndCalled
  rw [slot_ga.bind]
  refine wpAny_bind (wpAny_pure ?_)
  show wpAny _ _ (call (.builtin "BaseException.__getattribute__") [.ref x, .str name tk]) _ _ _
  refine wpAny_call (codeAny_call_builtin slot_ga.plain PySem.F.entry_bexc_ga ?_)
  refine @check_slot (model prog w) _ _ s "BaseException.__getattribute__" "BaseException" "__getattribute__" (.ref x) [.str name tk] [] _ (by decide +kernel) (by decide +kernel) (L0.andThen (looks_mroIn X (c.has (by decide +kernel)))) (PySem.F.args_bexc_ga _ _) ?_
  refine wpAny_mono h (fun fin s' z => ?_) fun _ _ z => z.elim
  rcases fin with (_ | _ | _ | _) | _ <;> first | exact z | exact z.elim
theorem oga_bind {g a : Value} {tk : Tok} {Q : Fin → Shared → Prop} (X : K.In s.heap) (I : InstAt s.heap x ox C od) (hf : findObj K C od name = some (.bind g a)) (h : wpAny (model prog w) A (call g [a, .ref x, .ref C]) (fun v s' => Q (.done (.ret v)) s') E s) :
    wpAny (model prog w) A (Builtin.«object.__getattribute__» ⟨[.ref x, .str name tk], []⟩) Q E s := by
  obtain ⟨hh', gg, d, t, os⟩ := s
  have L0 := I.type (M := model prog w)
  have L1 := looks_find (M := model prog w) X I hf
  refine wpAny_bind (wpAny_pure (wpAny_bind (wpAny_pure (wpAny_bind (L0.at (wpAny_bind (L1.at ?_)))))))
  show wpAny _ _ (holding [a] (call g [a, .ref x, .ref C]) >>= ret) _ _ _
  exact wpAny_bind (wpAny_holding (wpAny_mono h (fun v s' z => wpAny_pure z) fun _ _ z => z))
theorem find_data {a g : Value} (hc : (clsIn K C).isSome = true) (ha : findIn K (.ref C) name = some (some a)) (hg : specialIn K a "__get__" = some (some g)) (ht : takesIn K a = some true) : findObj K C od name = some (.bind g a) := by
  obtain ⟨cd, hc⟩ := Option.isSome_iff_exists.mp hc
  unfold findObj
  rw [hc, Option.bind_some, ha, Option.bind_some]
  simp [hg, ht]
theorem get_class {Q : Option Value → Shared → Prop} (c : XC K C) (X : K.In s.heap) (I : InstAt s.heap x ox C od) (h : Q (some (.ref C)) { s with toks := s.toks + 1 }) : wpAny (model prog w) A (getAttr? (.ref x) "__class__") Q E s := by
  have hc : (clsIn K C).isSome = true := by obtain ⟨cd, hc, _⟩ := any_some c.hd; rw [hc]; rfl
  unfold getAttr? getAttrBy?
  refine wpAny_bind (wpAny_mkText (wpAny_bind (wpAny_attempt ?_)))
  refine by_own (s := { s with toks := s.toks + 1 }) c X I (oga_bind (s := { s with toks := s.toks + 1 }) X I (find_data hc c.ca c.cg c.ct) (wpAny_call (class_get (s := { s with toks := s.toks + 1 }) X I (c.has (by decide +kernel)) ?_)))
  exact handed_on rfl (wpAny_pure h)
theorem kitx (c : XC K C) : KitX K (.ref x) (.ref C) (fun h => ∃ ox od, InstAt h x ox C od) where
  ty := fun _ _ _ ⟨_, _, I⟩ => I.type
  it := fun _ _ X _ => by
    obtain ⟨cdD, hcD, _⟩ := any_some c.hd
    unfold clsIn at hcD
    split at hcD
    · rename_i c' d' cd' sl' ho
      intro A' Q' E' s' k q
      unfold isType loadHead
      exact wpAny_bind (wpAny_loadPart (k _ _ (X _ _ ho)) (wpAny_pure q))
    · cases hcD
  ne := fun h tp dd its n sl X htp => by
    obtain ⟨cdD, hcD, _⟩ := any_some c.hd
    refine Bool.eq_false_iff.mpr fun q => ?_
    have e : C = tp := Value.ref.inj (beq_iff_eq.mp q)
    subst e
    unfold clsIn at hcD
    split at hcD
    · rename_i c' d' cd' sl' ho
      have z := (X _ _ ho).symm.trans htp
      cases z
    · cases hcD
  ca := fun X ⟨_, _, I⟩ k => get_class c X I k
end
end Xc
/-! raise C(..) of an own class with its own __init__: the object, its base's __init__, its first attribute. -/
namespace L2
open PySem PySem.Spec PyProof.Rows
abbrev veM : List Value := [.type "ValueError", .type "Exception", .type "BaseException", .type "object"]
/-- what the text says of an own exception class -/
def xIn (K : PySem.W.Frag) (C : Addr) : Bool := match K.lookup C with
  | some ⟨.type "type", _, .cls cd, sl⟩ => (match cd.mro, sl.toList with
    | .ref C' :: bm, [_, _, _, _, some (.builtin n), _] => C' == C && n == "ValueError.__new__" && !cd.hasDel && PySem.W.tailIn K veM bm && PySem.W.nsOkIn K cd.ns
    | _, _ => false)
  | _ => false
/-- a class object as the library's rules name it -/
structure XAt (K : PySem.W.Frag) (h : Heap) (C : Addr) (cd : ClassData) : Prop where
  ex : ∃ (nm q : Str) (bs bm : List Value) (hdct : Bool) (sn : List Str) (sub : List Value) (ab : Bool) (col : Option Bool) (dd : Option Addr) (k0 k1 k2 k3 k5 : Option Value),
    h.get? C = some (excClassObj nm q C cd.ns bs bm hdct sn sub ab col dd k0 k1 k2 k3 k5 "ValueError.__new__") ∧ OwnTail h veM bm ∧ ∃ mN, h.Ns cd.ns mN
theorem xat_of {K : PySem.W.Frag} {h : Heap} {C : Addr} (X : K.In h) (q : xIn K C = true) : ∃ cd, PySem.W.clsIn K C = some cd ∧ XAt K h C cd := by
  unfold xIn at q
  split at q
  · rename_i dd cd sl ho
    split at q
    · rename_i C' bm k0 k1 k2 k3 n k5 hm hs
      simp only [Bool.and_eq_true, beq_iff_eq, Bool.not_eq_true'] at q
      obtain ⟨⟨⟨⟨rfl, rfl⟩, hdel⟩, ht⟩, hok⟩ := q
      refine ⟨cd, by unfold PySem.W.clsIn; rw [ho], ?_⟩
      obtain ⟨nm, bs, mro, ns, qn, hd, sn, sub, ab, col, del⟩ := cd
      dsimp only at hm hdel hok
      subst hm hdel
      have hsl : sl = #[k0, k1, k2, k3, some (.builtin "ValueError.__new__"), k5] := by
        obtain ⟨l⟩ := sl
        simp only at hs
        rw [hs]
      subst hsl
      exact ⟨⟨nm, qn, bs, bm, hd, sn, sub, ab, col, dd, k0, k1, k2, k3, k5, X _ _ ho, PySem.W.tail_of_in X ht, _, .of_isNs (PySem.W.isNs_of_in X hok)⟩⟩
    · cases q
  · cases q
section
variable {X : Cx} {CX : CXT} {k : Nat} {f C : Addr} {fd : FuncData} {ps : List Str} {sp : Sp} {E : XK} {x : Str} {p pos apos rpos : Pos} {e o : Expr} {es : List Expr} {ta tv : TE} {t : TA}
/-! ### a text with one int in it -/
/-! ### the base's own __init__ -/
/-! ### the first attribute -/
/-! ### raise -/
structure XMk (K : PySem.W.Frag) (C f : Addr) : Prop where
  x : xIn K C = true
  init : ((PySem.W.clsIn K C).bind fun cd => PySem.W.nsIn K cd.ns "__init__") = some (some (.ref f))
  fn : PySem.W.isFn K (.ref f) = true
  kp : PySem.W.keepIn K (.ref C) = true
end
end L2
/-! Within an except suite: an exception is held; a walk's end is raised over it. -/
namespace Xc
open PySem
theorem entry_unchain : entryFor table "proto.unchain" = some Builtin.«proto.unchain» := entryFor_of_tree (by kernel_rfl)
/-- the held one: no context of its own -/
def Held (h : Heap) (ea : Addr) : Prop := ∃ o vs, h.get? ea = some o ∧ o.data = .fields vs ∧ vs[2]? = some .none
theorem Held.at {h h' : Heap} {ea : Addr} (x : Held h ea) (k : ∀ o, h.get? ea = some o → h'.get? ea = some o) : Held h' ea := let ⟨o, vs, a, b, c⟩ := x; ⟨o, vs, k _ a, b, c⟩
section
variable {prog : Program} {w : World} {A : Around} {E : Value → Shared → Prop} {s : Shared}
theorem raiseNew_held {α : Type} {e ea : Addr} {oe : Obj} {vs : Array Value} {Q : α → Shared → Prop} (hh : A.handled = some (.ref ea)) (ne : ea ≠ e) (H : Held s.heap ea) (he : s.heap.get? e = some oe) (hd : oe.data = .fields vs) (hz : 2 < vs.size)
    (h : E (.ref e) { s with heap := s.heap.update e (Obj.mapFields (·.setIfInBounds 2 (.ref ea))) }) : wpAny (model prog w) A (raiseNew (.ref e) : Sem α) Q E s := by
  obtain ⟨o, ws, h1, h2, h3⟩ := H
  unfold raiseNew
  refine wpAny_bind (wpAny_handled ?_)
  rw [hh]
  dsimp only
  rw [if_pos (show (Value.ref ea != Value.ref e) = true from by simp [ne])]
  refine wpAny_bind (wpAny_holding (wpAny_runValue (codeAny_builtin entry_unchain ?_)))
  unfold Builtin.«proto.unchain»
  refine wpAny_bind (wpAny_field h1 h2 h3 ?_)
  rw [if_pos (by rfl)]
  refine wpAny_bind (wpAny_pure ?_)
  refine wpAny_pure ?_
  refine wpAny_bind ?_
  have := wpAny_setField (M := model prog w) (A := A) (E := E) (i := 2) (x := Value.ref ea) (Q := fun _ s' => wpAny (model prog w) A (throw (.ref e) : Sem α) Q E s') he hd hz (wpAny_throw h)
  exact this
end
end Xc
namespace L2
open PySem PySem.Spec PyProof.Rows
/-- an exception that was caught -/
def XH (a C : Addr) (od : Option Addr) : HO := .ext fun h => ∃ sl vs, Xc.Exc h a (.ref C) od sl vs ∧ vs[2]? = some .none
theorem XH.mk {P : Program} {w : World} {H : Hp} {h : Heap} {a C : Addr} {od : Option Addr} {sl : Array (Option Value)} {vs : Array Value} (e : Xc.Exc h a (.ref C) od sl vs) (h2 : vs[2]? = some .none) :
    ObjOk P w H h a (XH a C od) := ⟨⟨sl, vs, e, h2⟩, ⟨_, e.obj⟩, fun h1 h2 ⟨sl', vs', e', z⟩ k => ⟨sl', vs', ⟨k _ e'.obj, e'.big⟩, z⟩⟩
theorem XH.get {P : Program} {w : World} {H : Hp} {h : Heap} {a C : Addr} {od : Option Addr} (hok : HOk P w H h) (e : H a = some (XH a C od)) : ∃ sl vs, Xc.Exc h a (.ref C) od sl vs ∧ vs[2]? = some .none := (hok a _ e).1
section
variable {X : Cx} {K : PySem.W.Frag}
theorem ObjOk.is {P : Program} {w : World} {H : Hp} {h : Heap} {a : Addr} {o : HO} (x : ObjOk P w H h a o) : ∃ u, h.get? a = some u := by
  cases o with
  | lst xs => obtain ⟨_, _, _, _, e⟩ := x; exact ⟨_, e⟩
  | tup xs => obtain ⟨_, _, _, o, e, _⟩ := x; exact ⟨_, e⟩
  | dK kvs => obtain ⟨_, _, _, _, o, _, _, e, _⟩ := x; exact ⟨_, e⟩
  | dT kvs => obtain ⟨_, _, _, _, o, _, _, e, _⟩ := x; exact ⟨_, e⟩
  | set S n => obtain ⟨o, _, _, _, e, _⟩ := x; exact ⟨_, e⟩
  | ins C dx fs => obtain ⟨_, _, _, e, _⟩ := x; exact ⟨_, e⟩
  | own y => exact x
  | xd fs => obtain ⟨_, ⟨_, _, _, e, _⟩, _⟩ := x; exact ⟨_, e⟩
  | rng lo hi => obtain ⟨_, _, _, e⟩ := x; exact ⟨_, e⟩
  | frz ob u => obtain ⟨e, _⟩ := x; exact ⟨_, e⟩
  | tbl pl q => obtain ⟨_, e, _⟩ := x; exact ⟨_, e⟩
  | met f y => exact ⟨_, (show h.get? a = some _ from x)⟩
  | ext φ => obtain ⟨_, e, _⟩ := x; exact e
theorem XH.inst {P : Program} {w : World} {H : Hp} {h : Heap} {a C : Addr} {od : Option Addr} (hok : HOk P w H h) (e : H a = some (XH a C od)) (hd : ∀ d, od = some d → ∃ o, h.get? d = some o) : ∃ ox oo, PySem.W.InstAt h a ox C oo := by
  obtain ⟨sl, vs, ex, _⟩ := XH.get hok e
  cases od with
  | none => exact ⟨_, none, ex.obj, rfl, rfl, trivial⟩
  | some d =>
    obtain ⟨o, ho⟩ := hd d rfl
    exact ⟨_, some o, ex.obj, rfl, rfl, ho⟩
/-- isinstance(error, D) -/
theorem callX_isinstance (hK : X.K = K) : CallR X (.builtin "isinstance") (fun xs H Q => ∃ (a C D : Addr) (od : Option Addr) (b : Bool), xs = [.ref a, .ref D] ∧ H a = some (XH a C od) ∧ (∀ d, od = some d → ∃ u, H d = some u) ∧ Xc.XC K C ∧ PySem.W.kitOne K (.ref C) (.ref D) = some b ∧ Q (.bl b) H) := by
  subst hK
  intro pins s σ H xs us Q I r h
  obtain ⟨a, C, D, od, b, rfl, hx, hd, c, k, q⟩ := h
  obtain ⟨u1, u2, rfl, r1, r2⟩ : ∃ u1 u2, us = [u1, u2] ∧ RelV (.ref a) u1 ∧ RelV (.ref D) u2 := by
    cases r with | cons r1 r2 => cases r2 with | cons r2 r3 => cases r3; exact ⟨_, _, rfl, r1, r2⟩
  cases r1
  cases r2
  refine PySem.W.kia_one (Xc.kitx c) I.kIn (XH.inst I.hok hx fun d e => ?_) k (fun z => nomatch z) fun tk => ⟨.bl b, H, I.tok _, rfl, q⟩
  obtain ⟨u, hu⟩ := hd d e
  exact (I.hok d u hu).is
end
end L2
/-! try: f(..) except Y as n: a call's exception, caught. -/
namespace Xc
open PySem PySem.W PySem.Calls PyProof.Rows
section
variable {prog : Program} {w : World} {A : Around} {E : Value → Shared → Prop} {s : Shared} {K : Frag} {x C Y : Addr} {ox : Obj} {od : Option Obj}
theorem looks_isType {M : Model} {h : Heap} (X : K.In h) (c : XC K Y) : Looks M h (isType (.ref Y)) true := by
  obtain ⟨cdD, hcD, _⟩ := any_some c.hd
  unfold clsIn at hcD
  split at hcD
  · rename_i c' d' cd' sl' ho
    intro A' Q' E' s' k q
    unfold isType loadHead
    exact wpAny_bind (wpAny_loadPart (k _ _ (X _ _ ho)) (wpAny_pure q))
  · cases hcD
theorem matches_own {M : Model} {b : Bool} {Q : Bool → Shared → Prop} (X : K.In s.heap) (I : InstAt s.heap x ox C od) (hm : mroIn K C (.ref Y) = some b) (c : XC K Y) (t : typeIn K (.ref Y) = some (.type "type")) (h : Q b s) :
    wpAny M A (excMatches (.ref x) (.ref Y)) Q E s := by
  have L1 : Looks M s.heap (isInstance (.ref Y) (.type "tuple")) false := (looks_typeIn X t).andThen (Looks.of_pure tc_notTuple)
  have L2 : Looks M s.heap (isExcClass (.ref Y)) true := (looks_isType X c).andThen (by rw [if_pos rfl]; exact looks_mroIn X (c.has (by decide +kernel)))
  unfold excMatches
  refine wpAny_bind (L1.here ?_)
  rw [if_neg Bool.false_ne_true]
  refine wpAny_bind (wpAny_pure ?_)
  simp only [List.forIn_cons, List.forIn_nil]
  refine wpAny_bind (wpAny_bind (wpAny_bind (L2.here ?_)))
  simp only [Bool.not_true, Bool.false_eq_true, if_false]
  refine wpAny_pure (wpAny_pure ?_)
  refine wpAny_bind (I.type.here (wpAny_bind (wpAny_bind (wpAny_bind ((looks_mroIn X hm).here ?_)))))
  cases b with
  | true => rw [if_pos rfl]; exact wpAny_pure (wpAny_pure (wpAny_pure h))
  | false => rw [if_neg Bool.false_ne_true]; exact wpAny_pure (wpAny_pure (wpAny_pure h))
end
end Xc
namespace L2
open PySem PySem.Spec PyProof.Rows
section
variable {X : Cx} {K : PySem.W.Frag} {pins : List (Addr × Obj)} {σ : St} {H : Hp} {s : Shared} {ea : Addr}
/-- within an except suite -/
abbrev Cx.held (X : Cx) (ea : Addr) : Cx := { X with A := X.A.mark (some (.ref ea)), calm := false, xe := fun _ _ => False }
theorem Cx.Ok.held (ok : X.Ok) : (X.held ea).Ok :=
  ⟨ok.mod, ok.kind, ok.glob, ok.blt, ok.above, ok.inj, ok.has, ok.cab, (fun z => by cases z), ok.frames, ok.stk, ok.exf, ok.bs, ok.bsz, ok.noex, ok.exfs, ok.funs, ok.frf⟩
theorem Inv.held (I : Inv X pins σ H s) : Inv (X.held ea) pins σ H s := ⟨I.ok.held, I.os, I.bare, I.base, I.loc, I.cell, I.free, I.freeC, I.pin, I.hok, I.len⟩
theorem Inv.unheld (ok : X.Ok) (I : Inv (X.held ea) pins σ H s) : Inv X pins σ H s := ⟨ok, I.os, I.bare, I.base, I.loc, I.cell, I.free, I.freeC, I.pin, I.hok, I.len⟩
/-- an exception is followed from here on -/
theorem Inv.track {C : Addr} {od : Option Addr} {sl : Array (Option Value)} {vs : Array Value} (I : Inv X pins σ H s) (ex : Xc.Exc s.heap ea (.ref C) od sl vs) (h2 : vs[2]? = some .none) (n1 : H ea = none) (n2 : X.s₀.heap.objs.size ≤ ea) (n3 : ea ≠ X.env.locals)
    (n4 : ∀ x c, X.env.cells.lookup x = some c → c ≠ ea) (n5 : ∀ p ∈ X.pn ++ pins, p.1 ≠ ea) : Inv X pins σ (upd H ea (XH ea C od)) s := by
  refine ⟨I.ok, I.os, I.bare, ⟨I.base.keep, I.base.slot, fun b o q n hx => ?_, I.base.there, fun b xs q => upd_get (I.base.tups b xs q) n1, fun b o u q => upd_get (I.base.frzs b o u q) n1, fun b pl y q => upd_get (I.base.tbls b pl y q) n1⟩, I.loc, I.cell, by rw [upd_ne n3.symm]; exact I.free, fun y c q => by rw [upd_ne (n4 y c q)]; exact I.freeC y c q, fun p hp => ?_, fun b o q => ?_, I.len⟩
  · rw [upd_ne (fun z => by rw [z, Heap.get?_none_of_le n2] at q; cases q)]
    exact I.base.free b o q n hx
  · obtain ⟨p1, p2, p3⟩ := I.pin p hp
    exact ⟨p1, by rw [upd_ne (n5 p hp)]; exact p2, p3⟩
  · by_cases hb : b = ea
    · subst hb
      rw [upd_same] at q
      cases q
      exact XH.mk ex h2
    · rw [upd_ne hb] at q
      exact (I.hok b o q).stay (fun c v _ r => r) (fun c r => upd_get r n1) (fun c xs r => upd_get r n1) fun c ob y r => upd_get r n1
/-- the name behind the suite -/
theorem name_goes {M : Model} {A : Around} {E : Value → Shared → Prop} {i : Nat} {x : Str} {pos : Pos} {Q : Unit → Shared → Prop} (I : Inv X pins σ H s) (hN : X.N.Nodup) (hi : X.N[i]? = some x) (hx : X.env.scope.names.lookup x = some .local)
    (h : ∀ s', Inv X pins (σ.set i none) H s' → Q () s') : wpAny M A (do bindName X.env x .none; unbindBehindTheSuite X.env x pos) Q E s := by
  obtain ⟨m, hn, hl⟩ := id I.loc
  have hcls : (X.env.scope.kind == .class || (X.env.scope.kind == .module && X.env.locals != X.env.globals)) = false := by rw [I.ok.kind]; rfl
  have hiσ : i < σ.length := by rw [I.len]; exact (List.getElem?_eq_some_iff.mp hi).1
  have cne := I.cne
  obtain ⟨oL, _, _, hoL, _⟩ := id hn
  refine wpAny_nameGoes_keeps hx hn hcls fun h' v hn' hs => h _ ⟨I.ok, I.os, I.bare, ⟨fun b o e n hb hx => ?_, fun b o e n hb hx => ?_, I.base.free, fun b o e hx => ?_, I.base.tups, I.base.frzs, I.base.tbls⟩, ⟨_, hn', fun j y v' e1 e2 e3 => ?_⟩, fun y c e => ?_, I.free, I.freeC, fun p hp => ?_, fun b ob e => ?_, by simpa using I.len⟩
  · exact (hs.2 b (Nat.ne_of_lt (Nat.lt_of_lt_of_le (Heap.lt_size e) I.ok.above))).trans (I.base.keep b o e n hb hx)
  · obtain ⟨sl, e1⟩ := I.base.slot b o e n hb hx
    exact ⟨sl, (hs.2 b (Nat.ne_of_lt (Nat.lt_of_lt_of_le (Heap.lt_size e) I.ok.above))).trans e1⟩
  · obtain ⟨o', e1⟩ := I.base.there b o e hx
    exact ⟨o', (hs.2 b (Nat.ne_of_lt (Nat.lt_of_lt_of_le (Heap.lt_size e) I.ok.above))).trans e1⟩
  · by_cases hj : j = i
    · subst hj
      rw [List.getElem?_set_self hiσ] at e2
      cases e2
    · rw [List.getElem?_set_ne (Ne.symm hj)] at e2
      obtain ⟨u', r', q⟩ := hl j y v' e1 e2 e3
      refine ⟨u', r', ?_⟩
      rcases q with ⟨k, e⟩ | ⟨k, c, e, z⟩
      · refine .inl ⟨k, ?_⟩
        have : y ≠ x := fun e => hj (nodup_ix hN e1 (e ▸ hi))
        simp [this, e]
      · exact .inr ⟨k, c, e, z.sameBut hs (cne y c e)⟩
  · obtain ⟨w', z⟩ := I.cell y c e
    exact ⟨w', z.sameBut hs (cne y c e)⟩
  · obtain ⟨e, n, ne, nf, d⟩ := I.pin p hp
    exact ⟨(hs.2 p.1 ne).trans e, n, ne, nf, d⟩
  · refine (I.hok b ob e).stay (fun c w' hc q => (hs.2 c ?_).trans q) (fun _ q => q) (fun _ _ q => q) fun _ _ _ q => q
    rintro rfl
    rcases hc with rfl | hc
    · rw [I.free] at e; cases e
    · rw [I.free] at hc; cases hc
end
end L2
/-! try: a call, except Y as n: what a call raises is caught in the body that made it. -/
namespace L2
open PySem PySem.Spec PyProof.Rows
/-- an exception of a call made from this body -/
def XFrom (X : Cx) (pins : List (Addr × Obj)) (σ : St) (E : XK) : Value → Shared → Prop := fun e s' => ∃ H1 s1, Inv X pins σ H1 s1 ∧ CXe X.prog X.w X.stack H1 s1 E e s'
/-- an expression, a statement that may raise -/
abbrev TX := St → Hp → VK → XK → Prop
abbrev TSX := Ends → St → Hp → XK → Prop
def PX (X : Cx) (e : Expr) (t : TX) : Prop :=
  ∀ (pins : List (Addr × Obj)) (s : Shared) (σ : St) (H : Hp) (Q : VK) (E : XK), Inv X pins σ H s → t σ H Q E → wpAny (model X.prog X.w) X.A (eval e X.env) (EP X pins σ Q) (XFrom X pins σ E) s
def PSX (X : Cx) (st : Stmt) (t : TSX) : Prop :=
  ∀ (pins : List (Addr × Obj)) (s : Shared) (σ : St) (H : Hp) (D : Ends) (E : XK), Inv X pins σ H s → t D σ H E → wpAny (model X.prog X.w) X.A (exec st X.env) (SP X pins D) (XFrom X pins σ E) s
def tCallX (sp : Sp) (t : TA) : TX := fun σ H Q E => t σ H fun vs H1 => sp vs H1 Q E
section
variable {X : Cx} {K : PySem.W.Frag} {pins : List (Addr × Obj)} {σ : St} {H : Hp} {s : Shared} {k : Nat} {x : Str} {ps : List Str} {sp : Sp} {p pos : Pos} {e : Expr} {es : List Expr} {t : TA} {tx : TX}
theorem runX {f : Addr} {fd : FuncData} {Q : VK} {E : XK} {us : List Value} {vs : List V} (F : FnOk X.prog X.w X.K X.mg X.base (CXe X.prog X.w) k f fd ps sp) (hr : Room k X.A) (hb : Binds X.K fd ps []) (I : Inv X pins σ H s) (r : Vals vs us) (h : sp vs H Q E) :
    wpAny (model X.prog X.w) X.A (call (.ref f) us) (EP X pins σ Q) (XFrom X pins σ E) s := by
  have hl : (us ++ []).length = ps.length := by rw [List.append_nil, ← r.length]; exact F.len _ _ _ _ h
  have hb' := hb s us I.kIn hl
  rw [List.append_nil] at hb'
  refine wpAny_call (codeAny_mono (F.run X.A X.stack s H ⟨us, []⟩ us vs Q E hr I.env0 hb' r h) fun r s' hq => ?_)
  cases r with
  | error e => exact ⟨H, s, I, hq⟩
  | ok fl =>
    cases fl with
    | ret u => exact I.after hq
    | next => exact False.elim hq
    | brk => exact False.elim hq
    | cont => exact False.elim hq
theorem px_call (c : Ctr X.prog X.w X.K X.mg X.base (CXe X.prog X.w) k x ps sp) (hr : Room k X.A) (hg : Gl X x) (ha : PA X.nox (e :: es) t) (hdb : (x == ("__debug__" : Str)) = false := by decide)
    (he : starEach (e :: es) X.env = (false, eval e X.env) :: starEach es X.env := by rfl) (hpl : (backTo pos (starEach es X.env)).any (·.1) = false := by rfl) : PX X (.Call (.Name x p) (e :: es) [] pos) (tCallX sp t) := by
  intro pins s σ H Q E I h
  obtain ⟨f, fd, F, hm, hk, hb⟩ := c.ex
  refine wpAny_Call_Name_kw (ld_glob I hg hm ?_ hdb)
  refine PySem.W.callWith_K (h₀ := X.base) I.ok.mod.kin hk (wpAny_mono (ha pos pins s σ H _ (I.wish _) h) (fun us s1 ⟨vs, H1, I1, r, q⟩ => ⟨I1.kIn, ?_⟩) fun _ _ z => False.elim z) he hpl
  exact runX F hr hb I1.unwish r q
def sExprX (t : TX) : TSX := fun D σ H E => t σ H (fun _ H' => D.nx σ H') E
theorem psx_expr (he : PX X e tx) (hs : swapsWith e none pos.line X.env = pure false := by rfl) : PSX X (.Expr e pos) (sExprX tx) := by
  intro pins s σ H D E I h
  exact wpAny_Expr_any (thn (he pins s σ H _ E I h) fun v s1 ⟨x, H1, I1, r1, q1⟩ => ⟨σ, H1, I1, q1⟩) I.quiet hs
/-! ### the catch -/
theorem caught {M : Model} {A : Around} {XE : Value → Shared → Prop} {R : Unit → Shared → Prop} {E : XK} {ev : Value} {s' : Shared} (h : XFrom X pins σ E ev s') (hfr : A.frames = some X.stack) (hs : X.stack = X.env :: X.outer) (hl : X.env.frame = some X.env.locals)
    (k : ∀ (ea T : Addr) (cls : Value) (od : Option Addr) (sl : Array (Option Value)) (vs : Array Value) (H' : Hp) (s3 : Shared), ev = .ref ea → Inv X pins σ H' s3 → Xc.Exc s3.heap ea cls od sl vs → vs[1]? = some (.ref T) → T ≠ ea → vs[2]? = some .none → Xc.Tb s3.heap T .none →
      FpOk X pins H' ea → FpOk X pins H' T → X.s₀.heap.objs.size ≤ ea → E cls od H' → R () s3) :
    wpAny M A (noteFrame ev X.env) (fun _ s2 => wpAny M A (setFlight ev none) R XE s2) XE s' := by
  obtain ⟨H1, s1, I, ea, T, cls, od, sl, vs, H', rfl, ho, hb, hu, hok, n1, n2, m1, m2, ex, v1, ne, v2, tb, q⟩ := h
  have I' := I.call' (ch := []) ho hu hok hb (fun _ z => nomatch z)
  have hst : s'.heap.FunFrames X.base (X.env :: X.outer) := by rw [← hs]; exact I'.stack
  have sfree : ∀ b ∈ (X.env :: X.outer).filterMap (·.frame), H' b = none := by
    have z := I'.stkFree
    rw [hs] at z
    exact z
  have hfs : frs X.stack = (X.env :: X.outer).filterMap (·.frame) := by rw [hs]; rfl
  have new1 : s1.heap.get? ea = none := Heap.get?_none_of_le m1
  have newT : ∀ b, vs[1]? = some (.ref b) → H' b = none ∧ s1.heap.get? b = none := fun b e => by
    rw [v1] at e; cases e
    exact ⟨n2, Heap.get?_none_of_le m2⟩
  refine Xc.note_step (base := X.base) (hfr.trans (by rw [hs])) hst hl ex (.inr ⟨T, v1, ne, tb⟩) fun h1 T1 k1 k2 k3 k4 k5 k6 => ?_
  have hv1 : (vs.setIfInBounds 1 (.ref T1))[1]? = some (.ref T1) := by simp [Nat.lt_of_succ_lt ex.big]
  have hv2 : (vs.setIfInBounds 1 (.ref T1))[2]? = some .none := by rw [Array.getElem?_setIfInBounds_ne (by decide)]; exact v2
  have hTe : T1 ≠ ea := Nat.ne_of_gt (Nat.lt_of_lt_of_le (Heap.lt_size ex.obj) k4)
  refine Xc.land k5 hv1 hTe k6 fun h2 g1 g2 => ?_
  have ltT : ∀ b o, s'.heap.get? b = some o → b ≠ T1 := fun b o e => Nat.ne_of_lt (Nat.lt_of_lt_of_le (Heap.lt_size e) k4)
  have lT1 : s1.heap.objs.size ≤ T1 := by
    obtain ⟨oT, _, e, _⟩ := tb.ex
    exact Nat.le_trans m2 (Nat.le_trans (Nat.le_of_lt (Heap.lt_size e)) k4)
  have slots : ∀ b o o', s1.heap.get? b = some o → s'.heap.get? b = some o' → ∃ k, h2.get? b = some { o' with slots := k } := fun b o o' e0 e => by
    obtain ⟨k, z⟩ := k2 b o' (fun z => by rw [z, new1] at e0; cases e0) (fun z => by rw [(newT b z).2] at e0; cases e0) e
    exact ⟨k, g1 b _ (ltT b o' e) z⟩
  have hok2 : HOk X.prog X.w H' h2 := hok_kept hok fun b o u hu e => g1 b o (ltT b o e) (k1 b o (fun z => by rw [sfree b z] at hu; cases hu) (fun z => by rw [z, n1] at hu; cases hu) (fun z => by rw [(newT b z).1] at hu; cases hu) e)
  have u2 : Un (frs X.stack) [] H1 H' s1.heap h2 := by
    refine ⟨fun b o e n hb hx => ?_, fun b o e n hb hx => ?_, hu.free, fun b o e hx => ?_, hu.tups, hu.frzs, hu.tbls⟩
    · have e1 := hu.keep b o e n hb hx
      exact g1 b o (ltT b o e1) (k1 b o (by rw [← hfs]; exact hb) (fun z => by rw [z, new1] at e; cases e) (fun z => by rw [(newT b z).2] at e; cases e) e1)
    · obtain ⟨k0, e0⟩ := hu.slot b o e n hb hx
      obtain ⟨k, z⟩ := slots b o _ e e0
      exact ⟨k, z⟩
    · obtain ⟨o', e1⟩ := hu.there b o e hx
      obtain ⟨k, z⟩ := slots b o o' e e1
      exact ⟨_, z⟩
  have I2 : Inv X pins σ H' { s' with heap := h2 } := I.call' (s' := { s' with heap := h2 }) (ch := []) ho u2 hok2 hb (fun _ z => nomatch z)
  exact k ea T1 cls od sl _ H' _ rfl I2 ⟨g1 _ _ hTe.symm k5.obj, k5.big⟩ hv1 hTe hv2 g2 (I.fpOk m1 n1) (I.fpOk lT1 (I'.hok.fresh k4)) (Nat.le_trans I.sz m1) q
/-! ### the statement -/
def Ends.behind (D : Ends) (i : Nat) : Ends := ⟨fun σ H => D.nx (σ.set i none) H, D.rt, fun σ H => D.bk (σ.set i none) H, fun σ H => D.ct (σ.set i none) H⟩
def tTry (K : PySem.W.Frag) (Y : Addr) (i : Nat) (tb : TSX) (th : Addr → TS) : TS := fun D σ H => tb D σ H fun cls od H1 => ∃ C, cls = .ref C ∧ (∀ d, od = some d → ∃ u, H1 d = some u) ∧ PySem.W.mroIn K C (.ref Y) = some true ∧
  ∀ ea, H1 ea = none → th ea (D.behind i) (σ.set i (some (.ref ea))) (upd H1 ea (XH ea C od))
theorem ps_try {st b₀ : Stmt} {suite : List Stmt} {y n : Str} {Y : Addr} {i : Nat} {np hpos : Pos} {tb : TSX} {th : Addr → TS} (hK : X.K = K) (hs : X.stack = X.env :: X.outer) (hl : X.env.frame = some X.env.locals) (hst : PSX X st tb) (hg : Gl X y) (hm : X.mg y = some (.ref Y))
    (hY : Xc.XC K Y) (tY : PySem.W.typeIn K (.ref Y) = some (.type "type")) (hN : X.N.Nodup) (hi : X.N[i]? = some n) (hx : X.env.scope.names.lookup n = some .local) (hh : ∀ ea, PSs (X.held ea) (b₀ :: suite) (th ea)) (hdb : (y == ("__debug__" : Str)) = false := by decide) :
    PS X (.Try [st] [.ExceptHandler (some (.Name y np)) (some n) (b₀ :: suite) hpos] [] [] pos) (tTry K Y i tb th) := by
  subst hK
  intro pins s σ H D I h
  have hbody : wpAny (model X.prog X.w) X.A (execs [st] X.env) (SP X pins D) (XFrom X pins σ fun cls od H1 => ∃ C, cls = .ref C ∧ (∀ d, od = some d → ∃ u, H1 d = some u) ∧ PySem.W.mroIn X.K C (.ref Y) = some true ∧
      ∀ ea, H1 ea = none → th ea (D.behind i) (σ.set i (some (.ref ea))) (upd H1 ea (XH ea C od))) s := by
    refine wpAny_execs_cons (thn (hst pins s σ H D _ I h) fun f s1 q => ?_)
    cases f with
    | next => exact wpAny_execs_nil q
    | ret v => exact q
    | brk => exact q
    | cont => exact q
  refine wpAny_Try_except (wpAny_mono hbody (fun f s1 q => ?_) fun e s1 hxx => ?_)
  · cases f with
    | next => exact wpAny_execs_nil q
    | ret v => exact q
    | brk => exact q
    | cont => exact q
  refine caught hxx I.ok.frames hs hl fun ea T cls od sl vs H' s3 ee I3 ex hv1 hTe hv2 tb3 fE fT le ⟨C, ec, hd, hmro, hth⟩ => ?_
  subst ee ec
  have stay : ∀ (e : Value) (s' : Shared), (X.held ea).xe e s' → notedBy (model X.prog X.w) (X.A.mark (some (.ref ea))) X.env (cameBackBy (model X.prog X.w) X.A X.env X.xe) e s' := fun _ _ z => False.elim z
  refine wpAny_handleBy_cons (codeAny_handlers_test (ld_glob (X := X.held ea) I3.held hg hm ?_ hdb)) (by intro q; cases q)
  have inst : ∃ ox oo, PySem.W.InstAt s3.heap ea ox C oo := by
    cases od with
    | none => exact ⟨_, none, ex.obj, rfl, rfl, trivial⟩
    | some d =>
      obtain ⟨u, hu⟩ := hd d rfl
      obtain ⟨o, ho⟩ := (I3.hok d u hu).is
      exact ⟨_, some o, ex.obj, rfl, rfl, ho⟩
  obtain ⟨ox, oo, inst⟩ := inst
  refine Xc.matches_own (K := X.K) I3.kIn inst hmro hY tY ?_
  refine codeAny_handlers_suite_as (Xc.land ex hv1 hTe tb3 fun h3 g1 g2 => ?_)
  have I4 : Inv X pins σ H' { s3 with heap := h3 } := I3.turned (t' := s3.toks) (it := T) g1 fT.1 fT.2.1 fT.2.2.2.1 fT.2.2.2.2.1 fT.2.2.2.2.2
  have I5 := I4.track (C := C) (od := od) (ea := ea) (s := { s3 with heap := h3 }) ⟨g1 _ _ hTe.symm ex.obj, ex.big⟩ hv2 fE.1 le fE.2.1 fE.2.2.2.2.1 fE.2.2.2.2.2
  refine store_ok (X := X.held ea) (v := .ref ea) (I5.held (ea := ea)) hN hi (.inl hx) rfl (fun s5 I6 => ?_) (.inr hx)
  refine wpAny_mono (hh ea pins s5 _ _ _ I6 (hth ea fE.1)) (fun f s6 q => ?_) fun _ _ z => False.elim z
  cases f with
  | next =>
    obtain ⟨σ', H6, I7, q⟩ := q
    exact name_goes (I7.unheld I.ok) hN hi hx fun s7 I8 => ⟨_, _, I8, q⟩
  | ret u =>
    obtain ⟨v, σ', H6, I7, r, q⟩ := q
    exact name_goes (I7.unheld I.ok) hN hi hx fun s7 I8 => ⟨v, _, _, I8, r, q⟩
  | brk =>
    obtain ⟨σ', H6, I7, q⟩ := q
    exact name_goes (I7.unheld I.ok) hN hi hx fun s7 I8 => ⟨_, _, I8, q⟩
  | cont =>
    obtain ⟨σ', H6, I7, q⟩ := q
    exact name_goes (I7.unheld I.ok) hN hi hx fun s7 I8 => ⟨_, _, I8, q⟩
end
end L2
/-! What a proof takes of a program's text: its defs, methods, tables. -/
namespace L2
open PySem PySem.Spec PyProof.Rows
structure FnT (K : PySem.W.Frag) (mg : Str → Option Value) (x : Str) (st : Stmt) (ps : List Str) : Prop where
  ex : ∃ f fd, Fun K x x st f fd ∧ mg x = some (.ref f) ∧ Binds K fd ps []
structure MtT (K : PySem.W.Frag) (C : Addr) (m qual : Str) (st : Stmt) (ps : List Str) : Prop where
  ex : ∃ f fd, Fun K m qual st f fd ∧ Meth K C m f ∧ Binds K fd ps []
structure InT (K : PySem.W.Frag) (C : Addr) (qual : Str) (st : Stmt) (ps : List Str) : Prop where
  ex : ∃ f fd, Fun K "__init__" qual st f fd ∧ Mk K C f ∧ Binds K fd ps []
section
variable {P : Program} {w : World} {K : PySem.W.Frag} {mg : Str → Option Value} {base : Heap} {CX : CXT} {k : Nat} {x m qual : Str} {st : Stmt} {ps : List Str} {sp : Sp} {C : Addr}
theorem ctr_of (F : FnT K mg x st ps) (h : ∀ f fd, Fun K x x st f fd → FnOk P w K mg base CX k f fd ps sp) : Ctr P w K mg base CX k x ps sp := by
  obtain ⟨f, fd, F, e, b⟩ := F.ex
  exact ⟨⟨f, fd, h f fd F, e, F.kp, b⟩⟩
end
theorem kit_same {K : PySem.W.Frag} {t : Value} : PySem.W.kitOne K t t = some true := by
  unfold PySem.W.kitOne
  rw [if_pos (beq_self_eq_true t)]
theorem b_isinstance : bootBuiltins ("isinstance" : Str) = some (.builtin "isinstance") := by decide +kernel
theorem b_sorted : bootBuiltins ("sorted" : Str) = some (.builtin "sorted") := by decide +kernel
theorem b_any : bootBuiltins ("any" : Str) = some (.builtin "any") := by decide +kernel
theorem b_all : bootBuiltins ("all" : Str) = some (.builtin "all") := by decide +kernel
theorem b_len : bootBuiltins ("len" : Str) = some (.builtin "len") := by decide +kernel
theorem b_int : bootBuiltins ("int" : Str) = some (.type "int") := by decide +kernel
theorem b_list : bootBuiltins ("list" : Str) = some (.type "list") := by decide +kernel
theorem b_tuple : bootBuiltins ("tuple" : Str) = some (.type "tuple") := by decide +kernel
theorem b_str : bootBuiltins ("str" : Str) = some (.type "str") := by decide +kernel
theorem b_bool : bootBuiltins ("bool" : Str) = some (.type "bool") := by decide +kernel
end L2
/-! Contracts of own exceptions. -/
namespace L2
open PySem PySem.Spec PyProof.Rows
structure BaseInit (K : PySem.W.Frag) (Y : Addr) : Prop where
  h1 : PySem.W.specialIn K (.ref Y) "__getattribute__" = some (some (.builtin "type.__getattribute__"))
  h2 : PySem.W.readsIn K Y (.type "type") = true
  h3 : PySem.W.findCls K (.ref Y) (.type "type") "__init__" = some (.val (.builtin "ValueError.__init__"))
structure XiT (K : PySem.W.Frag) (C : Addr) (qual : Str) (st : Stmt) (ps : List Str) : Prop where
  ex : ∃ f fd, Fun K "__init__" qual st f fd ∧ XMk K C f ∧ Binds K fd ps []
section
variable {X : Cx} {K : PySem.W.Frag} {k : Nat} {C : Addr} {ps : List Str} {sp : Sp} {E : XK} {x : Str} {p pos apos rpos : Pos} {e o : Expr} {es : List Expr} {ta tv : TE} {t : TA}
end
end L2


/-! Small words that no row is needed for: heaps, lists, moves as pairs. -/
namespace My
open PySem L2
theorem HP {M : Model} {A : Around} {env : Env} : PassesOwn M A env (fun _ _ => False) := PassesOwn.never
def deed (b : Bool) : Str := if b then "in" else "out"
theorem Same.updN {H H' : Hp} {a : Addr} {o : HO} (s : Same H H') (h : H a = none) : Same H (upd H' a o) := fun b u e => by
  rw [upd_ne (ne_of_none e h)]
  exact s b u e
theorem iteDT {c A B : Prop} [Decidable c] (hc : c) (h : A) : if decide c = true then A else B := by rw [if_pos (decide_eq_true hc)]; exact h
theorem iteDF {c A B : Prop} [Decidable c] (hc : ¬ c) (h : B) : if decide c = true then A else B := by rw [if_neg (by rw [decide_eq_false hc]; exact Bool.false_ne_true)]; exact h
end My
/-! Data read off heaps: lists of ints, lists of lists, moves; a few small tests. -/
namespace L2
open PySem PySem.Spec PyProof.Rows
open PySem.W (Dat)
def dI (xs : List Int) : Dat := .list (xs.map .int)
theorem DVs.ints {K : PySem.W.Frag} {H : Hp} : ∀ (xs : List Int), DVs K H (xs.map V.int) (xs.map .int)
  | [] => .nil
  | x :: r => .cons (.int x) (DVs.ints r)
theorem DV.ints {K : PySem.W.Frag} {H : Hp} {a : Addr} {xs : List Int} (h : SqL K H a (xs.map V.int)) : DV K H (.ref a) (dI xs) := .lst h (DVs.ints xs)
theorem ok_ints (n : Nat) (xs : List Int) : PySem.W.kqdOk (n + 1) (dI xs) = true := by
  unfold dI
  rw [PySem.W.kqdOk]
  rw [List.all_eq_true]
  intro d hd
  obtain ⟨x, _, rfl⟩ := List.mem_map.mp hd
  unfold PySem.W.kqdOk
  rfl
theorem dI_inj {xs ys : List Int} (h : dI xs = dI ys) : xs = ys := by
  have h1 : xs.map Dat.int = ys.map Dat.int := Dat.list.inj h
  exact List.map_inj_right (fun a b e => Dat.int.inj e) |>.mp h1
theorem ixN_nat {n t : Nat} (h : t < n) : ixN n (t : Int) = some t := by
  unfold ixN
  rw [if_pos (by omega), if_pos (by omega)]; simp
end L2
namespace My
open PySem L2
open PySem.W (Dat)
theorem iteNT {c A B : Prop} {inst : Decidable c} (hc : ¬ c) (h : A) : if (!decide c) = true then A else B := by
  rw [decide_eq_false hc]
  exact iteT h
theorem iteNB {c A B : Prop} {inst : Decidable c} (h1 : ¬ c → A) (h2 : c → B) : if (!decide c) = true then A else B := by
  by_cases h : c
  · exact iteNS h (h2 h)
  · exact iteNT h (h1 h)
/-! ### tracks that are plain lists -/
variable {H0 H H' : Hp} {kA : Addr} {ls : List Addr} {tr : List (List Int)}
end My
namespace L2
open PySem PySem.Spec PyProof.Rows
end L2
namespace My
open PySem L2
end My
/-! A train made by moves: the numbers are the turns in which the wagons leave. -/
namespace Yd
def R (n : Nat) : List Int := (List.range n).map fun (i : Nat) => (i : Int)
theorem R_mem {n : Nat} {x : Int} (h : x ∈ R n) : 0 ≤ x ∧ x < n := by
  unfold R at h
  obtain ⟨i, hi, rfl⟩ := List.mem_map.mp h
  have := List.mem_range.mp hi
  omega
end Yd
/-! range(..) as a value, list(range(..)), xs.index(n). -/
namespace L2
open PySem PySem.Spec PyProof.Rows
section
variable {X : Cx} {K : PySem.W.Frag}
/-- range(j), range(i, j) -/
def rRangeV : List V → Hp → VK → Prop := fun xs H Q => ∃ i j : Int, (xs = [.int j] ∧ i = 0 ∨ xs = [.int i, .int j]) ∧ ∀ r, H r = none → Q (.ref r) (upd H r (.rng i j))
theorem call_rangeV : CallR X (.type "range") rRangeV := by
  intro pins s σ H xs us Q I r h
  obtain ⟨i, j, e, q⟩ := h
  rcases e with ⟨rfl, rfl⟩ | rfl
  · obtain ⟨u, rfl, ru⟩ := vals1 r
    obtain ⟨t, rfl⟩ := ru
    refine call_range_1 ⟨.ref s.heap.objs.size, _, I.laid (o := .rng 0 j) (fun b o e => Heap.get?_push_of_some _ e) (Nat.le_refl _) ⟨_, _, _, Heap.get?_push_size _ rfl⟩, rfl, q _ (I.hok.fresh (Nat.le_refl _))⟩
  · obtain ⟨u, w', rfl, ru, rw'⟩ := vals2 r
    obtain ⟨t, rfl⟩ := ru
    obtain ⟨t', rfl⟩ := rw'
    refine call_range_2 ⟨.ref s.heap.objs.size, _, I.laid (o := .rng i j) (fun b o e => Heap.get?_push_of_some _ e) (Nat.le_refl _) ⟨_, _, _, Heap.get?_push_size _ rfl⟩, rfl, q _ (I.hok.fresh (Nat.le_refl _))⟩
def rngV (lo hi : Int) : List V := (List.range (hi - lo).toNat).map fun (i : Nat) => V.int (lo + (i : Int))
theorem vals_of_items {lo : Int} : ∀ {n : Nat} {acc : List Value}, acc.length = n → (∀ (j : Nat) (v : Value), acc[j]? = some v → ∃ t, v = .int (lo + (j : Int)) t) → Vals ((List.range n).map fun (i : Nat) => V.int (lo + (i : Int))) acc := by
  intro n acc hl hv
  have h : ∀ (k : Nat) (acc : List Value), (∀ (j : Nat) (v : Value), acc[j]? = some v → ∃ t, v = .int (lo + ((k + j : Nat) : Int)) t) → Vals ((List.range acc.length).map fun (i : Nat) => V.int (lo + ((k + i : Nat) : Int))) acc := by
    intro k acc
    induction acc generalizing k with
    | nil => intro _; exact .nil
    | cons a r ih =>
      intro hv
      rw [List.length_cons, List.range_succ_eq_map, List.map_cons, List.map_map]
      refine .cons ?_ ?_
      · obtain ⟨t, e⟩ := hv 0 a rfl
        exact ⟨t, by simpa using e⟩
      · have := ih (k + 1) fun j v e => by
          obtain ⟨t, e'⟩ := hv (j + 1) v (by simpa using e)
          exact ⟨t, by rw [e']; congr 2; omega⟩
        have e2 : (List.range r.length).map (fun (i : Nat) => V.int (lo + ((k + 1 + i : Nat) : Int))) = (List.range r.length).map ((fun (i : Nat) => V.int (lo + ((k + i : Nat) : Int))) ∘ Nat.succ) := by
          refine List.map_congr_left fun i _ => ?_
          show V.int _ = V.int _
          congr 2
          omega
        rw [e2] at this
        exact this
  have := h 0 acc fun j v e => by simpa using hv j v e
  rw [hl] at this
  simpa using this
def rListR : List V → Hp → VK → Prop := fun xs H Q => ∃ (r : Addr) (lo hi : Int), xs = [.ref r] ∧ H r = some (.rng lo hi) ∧ -1000000 ≤ lo ∧ lo ≤ 1000000 ∧ -1000000 ≤ hi ∧ hi ≤ 1000000 ∧ ∀ l, H l = none → Q (.ref l) (upd H l (.lst (rngV lo hi)))
theorem call_listR (hc : X.calm = true) : CallR X (.type "list") rListR := by
  intro pins s σ H xs us Q I r h
  obtain ⟨a, lo, hi, rfl, hr, h1, h2, h3, h4, q⟩ := h
  obtain ⟨u, rfl, ru⟩ := vals1 r
  cases ru
  obtain ⟨t, u, v, e⟩ := (show ObjOk X.prog X.w H s.heap a (.rng lo hi) from I.hok a _ hr)
  have hn : Builtin.Range.rangeSize lo hi 1 = ((hi - lo).toNat : Int) := by rw [rangeSize_one]; split <;> omega
  refine call_list_range (a := lo) (b := hi) (c := 1) (I.ok.hd hc) e (small_one (by omega) (by omega) (by omega) (by omega)) hn (by omega) fun h' tk acc' c' hk hS' hacc => ?_
  have hv : Vals (rngV lo hi) acc'.toList := by
    refine vals_of_items (by rw [Array.length_toList]; exact hacc.1) fun j v e => ?_
    obtain ⟨t, e'⟩ := hacc.2 j v (by simpa using e)
    exact ⟨t, by simpa using e'⟩
  refine ⟨.ref s.heap.objs.size, _, I.laid (t' := tk) (o := .lst (rngV lo hi)) hk (Nat.le_refl _) ⟨?_, acc'.toList, c', hv, by simpa using hS'⟩, rfl, q _ (I.hok.fresh (Nat.le_refl _))⟩
  rw [hv.length, Array.length_toList, hacc.1, sizeLine_eq]
  omega
theorem callK_listU (hK : X.K = K) (hc : X.calm = true) : CallR X (.type "list") (fun xs H Q => (∃ p ys, xs = [.ref p] ∧ (SqL K H p ys ∨ SqT K H p ys) ∧ ∀ l, H l = none → Q (.ref l) (upd H l (.lst ys))) ∨ rListR xs H Q) := by
  subst hK
  exact CallR.or call_list_of (call_listR hc)
end
end L2
/-! Answers: own classes by isinstance; what moves and places show. -/
namespace L2
open PySem PySem.Spec PyProof.Rows
structure InsT (K : PySem.W.Frag) (C : Addr) : Prop where
  ha : PySem.W.findIn K (.ref C) "__class__" = some (some (.builtin "object.__class__"))
  hn : PySem.W.specialIn K (.builtin "object.__class__") "__get__" = some (some (.builtin "getset_descriptor.__get__"))
  htk : PySem.W.takesIn K (.builtin "object.__class__") = some true
  hm : PySem.W.mroIn K C (.type "object") = some true
theorem b_range : bootBuiltins ("range" : Str) = some (.type "range") := by decide +kernel
end L2
namespace My
open PySem L2
open PySem.W (Dat)
/-! ### answers as objects -/
/-! ### falling places -/
/-! ### fewest tracks -/
/-! ### given orders -/
theorem rngV_R (n : Nat) : rngV 0 (n : Int) = (Yd.R n).map V.int := by
  unfold rngV Yd.R
  rw [List.map_map, show ((n : Int) - 0).toNat = n by omega]
  refine List.map_congr_left fun i _ => ?_
  show V.int (0 + (i : Int)) = V.int (i : Int)
  rw [Int.zero_add]
end My
/-! sorted(range(..), key=lambda p: xs[p]): the lambda is made, called for each item, the items are sorted by what it answers. -/
namespace PyProof.Rows
open PySem
section
variable {prog : Program} {w : World} {A : Around} {E : Value → Shared → Prop} {s : Shared}
theorem collect_rng {Q : List Value → Shared → Prop} {r : Addr} {a b c : Int} {t u v : Tok} {n : Nat} (hh : A.handled = none) (hr : IsRange s.heap r a b c t u v) (hsmall : Builtin.Range.small a b c = true)
    (hn : Builtin.Range.rangeSize a b c = n) (hlen : n ≤ 2 ^ 24)
    (hQ : ∀ h' tk acc, (∀ b o, s.heap.get? b = some o → h'.get? b = some o) → ItemsOf (fun i v => ∃ t, v = .int (a + i * c) t) acc n → Q acc.toList { s with heap := h', toks := tk }) :
    wpAny (model prog w) A (collect (.ref r)) Q E s := by
  unfold collect
  refine wpAny_bind
    (wpAny_runValue (codeAny_builtin F.entry_proto_collect ?_))
  rw [Around.under_plainId
    F.plain_proto_collect _]
  show wpAny _ A.in1 (newList [] >>= fun l => again (.builtin "list.__iadd__" ⟨[l, .ref r], []⟩)) _ _ s
  refine wpAny_bind (wpAny_newObj_type ?_)
  refine wpAny_pure
    ⟨plainId_quiet F.plain_list_iadd _, codeAny_builtin F.entry_list_iadd ?_⟩
  rw [Around.under_plainId
    F.plain_list_iadd _]
  show wpAny _ A.in1 (Builtin.List.listExtendWith (.ref s.heap.objs.size) (.ref r) (.ref s.heap.objs.size)) _ _ _
  have hS : (s.heap.push { cls := .type "list", data := .seq ([] : List Value).toArray }).get? s.heap.objs.size = some { cls := .type "list", data := .seq #[] } := Heap.get?_push_size _ rfl
  have fin : ∀ s', (∃ acc c', s'.heap.get? s.heap.objs.size = some { cls := .type "list", dict := none, data := .seq acc c', slots := #[] } ∧ Q acc.toList s') →
      wpAny (model prog w) A (load s.heap.objs.size >>= fun o => match o.data with
        | .seq xs _ => pure xs.toList
        | _ => unsupported "internal:collect") Q E s' := fun s' ⟨acc, c', e, q⟩ => wpAny_bind (wpAny_load e (wpAny_pure q))
  refine wpAny_mono (wpAny_extend_range (s := { s with heap := s.heap.push { cls := .type "list", data := .seq ([] : List Value).toArray } })
    (R := fun res s' => res = .ok (.ret (.ref s.heap.objs.size)) ∧ ∃ acc c', s'.heap.get? s.heap.objs.size = some { cls := .type "list", dict := none, data := .seq acc c', slots := #[] } ∧ Q acc.toList s')
    hh (Heap.get?_push_of_some _ hr) hsmall hn hlen s.heap.objs.size (.ref s.heap.objs.size) 0 hS fun h' tk acc' c' hk hS' hacc => ⟨rfl, acc', c', hS', ?_⟩) (fun z s' hz => ?_) fun e s' he => ?_
  · exact hQ h' tk acc' (fun b o e => hk b o (Nat.ne_of_lt (Heap.lt_size e)) (Heap.get?_push_of_some _ e)) hacc
  · cases z with
    | done f =>
      obtain ⟨hr', q⟩ := hz
      cases hr'
      exact fin s' q
    | again c' =>
      refine ⟨hz.1, codeAny_mono hz.2 fun res s2 q => ?_⟩
      obtain ⟨rfl, q⟩ := q
      exact fin s2 q
  · cases he.1
end
end PyProof.Rows

namespace L2
open PySem PySem.Spec PyProof.Rows
/-- the sort of so many pairs with int keys is served -/
def SortTo (lim : Nat) : Prop := ∀ {prog : Program} {w : World} {A : Around} {E : Value → Shared → Prop} {s : Shared} {a₀ : Array Keyed} {st : SortSt} {Q : Unit → SortSt → Prop}, IntKeys a₀ → SBase a₀ st → 2 ≤ a₀.size → a₀.size ≤ lim →
  (∀ st', (arrOf st').Perm a₀ → failedOf st' = none → SortedTo (arrOf st') a₀.size → Q () st') → wpS (model prog w) A E s sortRuns' Q st
theorem sortTo63 : SortTo 63 := fun h0 hB h2 h64 h => wpS_sortRuns h0 hB h2 (Nat.lt_succ_of_le h64) h
section
variable {X : Cx} {pins : List (Addr × Obj)} {σ : St} {H : Hp} {s : Shared} {A : Around} {E : Value → Shared → Prop}

/-! ### own records -/
theorem Inv.pin_add {a : Addr} {o : Obj} (I : Inv X pins σ H s) (f : FpOk X pins H a) (e : s.heap.get? a = some o) (nc : ∀ v, o.data ≠ .cell v) : Inv X ((a, o) :: pins) σ H s := I.pins_of fun p hp => by
  rcases List.mem_cons.mp hp with rfl | hp
  · exact ⟨e, f.1, f.2.1, f.2.2.1, nc⟩
  · exact I.pin p (List.mem_append_right _ hp)
theorem Inv.pin_drop {p : Addr × Obj} (I : Inv X (p :: pins) σ H s) : Inv X pins σ H s := I.pins_of fun q hq => I.pin q (List.mem_append_right _ (List.mem_cons_of_mem _ hq))
theorem Inv.pin_get {p : Addr × Obj} (I : Inv X pins σ H s) (h : p ∈ pins) : s.heap.get? p.1 = some p.2 := (I.pin p (List.mem_append_right _ h)).1
theorem Inv.turn1 {t' : Nat} {a : Addr} {h' : Heap} (I : Inv X pins σ H s) (f : FpOk X pins H a) (k : ∀ b o, b ≠ a → s.heap.get? b = some o → h'.get? b = some o) : Inv X pins σ H { s with heap := h', toks := t' } :=
  I.turned k f.1 f.2.1 f.2.2.2.1 f.2.2.2.2.1 f.2.2.2.2.2

/-! ### the sort -/
theorem key_sort {a : Addr} {f : Value} {vs : List Value} {kz : List Int} {n : Nat} {P : PySem.Fin → Shared → Prop}
    (I : Inv X pins σ H s) (ho : s.heap.get? a = some (seqObj "list" vs.toArray n)) (fa : FpOk X pins H a) (hlen : kz.length = vs.length) {lim : Nat} (srt : SortTo lim) (hlim : lim ≤ 100000) (hz : vs.length ≤ lim)
    (turn : ∀ (i : Nat) (v : Value) (k : Int), vs[i]? = some v → kz[i]? = some k → ∀ (pins' : List (Addr × Obj)) (s' : Shared), (∀ p ∈ pins, p ∈ pins') → Inv X pins' σ H s' →
      wpAny (model X.prog X.w) A (call f [v]) (fun u s'' => (∃ t, u = .int k t) ∧ Inv X pins' σ H s'') (fun _ _ => False) s')
    (h : ∀ s' out e, Inv X pins σ H s' → s'.heap.get? a = some (seqObj "list" out e) → KskOut false kz vs out.toList → P (.done (.ret .none)) s') :
    wpAny (model X.prog X.w) A (ksk_tree a f false) P E s := by
  have hsl : ∀ m, m ≤ vs.length → m ≤ sizeLine := fun m hm => by rw [sizeLine_eq]; omega
  unfold ksk_tree
  refine wpAny_bind
    (listItems_at ho rfl ?_)
  refine wpAny_bind
    (listUpdate_at ho rfl ?_ (by rw [List.size_toArray]; exact hsl _ (Nat.le_refl _)) (Nat.zero_le _))
  obtain ⟨e1, ho1⟩ : ∃ e1, (s.heap.update a (Obj.mapSeq fun _ => (#[] : Array Value))).get? a =
      some (seqObj "list" #[] e1) := ⟨_, get?_update_seq ho _⟩
  have s1 := Heap.SameBut.update s.heap a (Obj.mapSeq fun _ => (#[] : Array Value))
  have I1 : Inv X pins σ H { s with heap := s.heap.update a (Obj.mapSeq fun _ => (#[] : Array Value)) } :=
    I.turn1 (t' := s.toks) fa fun b o hb e => (s1.2 b hb).trans e
  refine wpAny_bind
    (seqEpoch_at ho1 rfl ?_)
  refine wpAny_bind
    (wpAny_newTuple ?_ (by show vs.length ≤ _; exact hsl _ (Nat.le_refl _)))
  refine wpAny_bind
    (wpAny_newList ?_ (Nat.zero_le _))
  refine wpAny_holding ?_
  dsimp only
  generalize hh1 : s.heap.update a (Obj.mapSeq fun _ => (#[] : Array Value)) = h1 at *
  have I2 : Inv X pins σ H { s with heap := h1.push (seqObj "tuple" vs.toArray 0) } := I1.kept (t' := s.toks) fun b o e => Heap.get?_push_of_some _ e
  have I3 : Inv X pins σ H { s with heap := (h1.push (seqObj "tuple" vs.toArray 0)).push (seqObj "list" #[] 0) } := I2.kept (t' := s.toks) fun b o e => Heap.get?_push_of_some _ e
  have fk : FpOk X pins H (h1.push (seqObj "tuple" vs.toArray 0)).objs.size := I2.fpOk (Nat.le_refl _) (I2.hok.fresh (Nat.le_refl _))
  have ha3 : ((h1.push (seqObj "tuple" vs.toArray 0)).push (seqObj "list" #[] 0)).get? a = some (seqObj "list" #[] e1) := Heap.get?_push_of_some _ (Heap.get?_push_of_some _ ho1)
  have hk3 : ((h1.push (seqObj "tuple" vs.toArray 0)).push (seqObj "list" #[] 0)).get? (h1.push (seqObj "tuple" vs.toArray 0)).objs.size = some (seqObj "list" #[] 0) := Heap.get?_push_size _ rfl
  have hak : a ≠ (h1.push (seqObj "tuple" vs.toArray 0)).objs.size := fun z => by
    have := Heap.lt_size (Heap.get?_push_of_some (seqObj "tuple" vs.toArray 0) ho1)
    rw [z] at this
    exact Nat.lt_irrefl _ this
  generalize hkS : (h1.push (seqObj "tuple" vs.toArray 0)).objs.size = kS at *
  have both : ∀ {s' : Shared} {oK : Obj}, Inv X pins σ H s' → s'.heap.get? a = some (seqObj "list" #[] e1) → s'.heap.get? kS = some oK → (∀ v, oK.data ≠ .cell v) → Inv X ((a, seqObj "list" #[] e1) :: (kS, oK) :: pins) σ H s' := fun {s' oK} J ea ek nc => by
    refine (J.pin_add fk ek nc).pin_add ⟨fa.1, fa.2.1, fa.2.2.1, fa.2.2.2.1, fa.2.2.2.2.1, fun p hp => ?_⟩ ea (fun v z => by cases z)
    rcases List.mem_append.mp hp with q | q
    · exact fa.2.2.2.2.2 p (List.mem_append_left _ q)
    · rcases List.mem_cons.mp q with rfl | q
      · exact fun z => hak z.symm
      · exact fa.2.2.2.2.2 p (List.mem_append_right _ q)
  unfold ksk_rest
  refine wpAny_bind (wpAny_rule ?_)
  rw [← Array.forIn_toList]
  simp only [List.toList_toArray]
  refine wpAny_bind (ksk_fold (fun i s' => ∃ kA e, Inv X ((a, seqObj "list" #[] e1) :: (kS, seqObj "list" kA e) :: pins) σ H s' ∧ IntsAre kA.toList (kz.take i)) vs 0 _
    ⟨#[], 0, both I3 ha3 hk3 (fun v z => by cases z), by simpa using IntsAre.nil⟩ ?step ?done)
  case step =>
    rintro j x s' hx ⟨kA, e, J, hk⟩
    simp only [Nat.zero_add] at hk ⊢
    have hj : j < vs.length := (List.getElem?_eq_some_iff.mp hx).1
    obtain ⟨k, hkj⟩ : ∃ k, kz[j]? = some k := ⟨_, List.getElem?_eq_getElem (by omega)⟩
    have hzA : kA.size ≤ vs.length := by
      have z := hk.length
      rw [Array.length_toList, List.length_take] at z
      omega
    refine wpAny_bind (wpAny_attempt (wpAny_mono (turn j x k hx hkj _ s' (fun p hp => List.mem_cons_of_mem _ (List.mem_cons_of_mem _ hp)) J) (fun v s2 hq => ?_) fun _ _ hF => hF.elim))
    obtain ⟨⟨t2, rfl⟩, J2⟩ := hq
    dsimp only
    have ea := J2.pin_get (p := (a, seqObj "list" #[] e1)) List.mem_cons_self
    have ek := J2.pin_get (p := (kS, seqObj "list" kA e)) (List.mem_cons_of_mem _ List.mem_cons_self)
    dsimp only at ea ek
    have sb := Heap.SameBut.update s2.heap kS (Obj.mapSeq (·.push (.int k t2)))
    obtain ⟨c2, hc2⟩ : ∃ c2, (s2.heap.update kS (Obj.mapSeq (·.push (.int k t2)))).get? kS = some (seqObj "list" (kA.push (.int k t2)) c2) :=
      ⟨_, get?_update_seq ek _⟩
    have et : kz.take (j + 1) = kz.take j ++ [k] := by rw [List.take_add_one, hkj]; rfl
    refine wpAny_bind
      (listUpdate_at ek rfl ?_ (hsl _ hzA) (by rw [Array.size_push]; exact Nat.succ_le_succ (hsl _ hzA)))
    refine wpAny_pure ⟨rfl, kA.push (.int k t2), c2, ?_, ?_⟩
    · exact both (J2.pin_drop.pin_drop.turn1 (t' := s2.toks) fk fun b o hb z => (sb.2 b hb).trans z) ((sb.2 a hak).trans ea) hc2 (fun v z => by cases z)
    · rw [et, Array.toList_push]
      exact ksk_snoc hk
  case done =>
    rintro s' ⟨kA, e, J, hk⟩
    have hk' : IntsAre kA.toList kz := by
      rw [Nat.zero_add, List.take_of_length_le (by omega)] at hk
      exact hk
    have hszk : kA.size = vs.length := by
      have z := hk'.length
      rw [Array.length_toList] at z
      omega
    have ea := J.pin_get (p := (a, seqObj "list" #[] e1)) List.mem_cons_self
    have ek := J.pin_get (p := (kS, seqObj "list" kA e)) (List.mem_cons_of_mem _ List.mem_cons_self)
    dsimp only at ea ek ⊢
    have J0 := J.pin_drop.pin_drop
    refine wpAny_bind
      (listItems_at ek rfl ?_)
    have hzs : (kA.zip vs.toArray).size = vs.length := by rw [Array.size_zip, hszk, List.size_toArray, Nat.min_self]
    -- the end, from the sorted pairs
    have tail : ∀ st : SortSt, (arrOf st).Perm (kA.zip vs.toArray) → SortedTo (arrOf st) (arrOf st).size → failedOf st = none → wpAny (model X.prog X.w) A (ksk_tail a false e1 (.ref kS) st) P E s' := by
      intro st hp hs hfl
      have hs2 : (arrOf st).size = vs.length := by rw [hp.size_eq, hzs]
      have sb := Heap.SameBut.update s'.heap kS (Obj.mapSeq fun _ => (#[] : Array Value))
      have ea1 : (s'.heap.update kS (Obj.mapSeq fun _ => (#[] : Array Value))).get? a = some (seqObj "list" #[] e1) := (sb.2 a hak).trans ea
      have sb2 := Heap.SameBut.update (s'.heap.update kS (Obj.mapSeq fun _ => (#[] : Array Value))) a (Obj.mapSeq fun _ => (arrOf st).map (·.2))
      obtain ⟨c2, hc2⟩ : ∃ c2, ((s'.heap.update kS (Obj.mapSeq fun _ => (#[] : Array Value))).update a (Obj.mapSeq fun _ => (arrOf st).map (·.2))).get? a = some (seqObj "list" ((arrOf st).map (·.2)) c2) :=
        ⟨_, get?_update_seq ea1 _⟩
      unfold ksk_tail
      dsimp only
      refine wpAny_bind
        (listUpdate_at ek rfl ?_ (hsl _ (Nat.le_of_eq hszk)) (Nat.zero_le _))
      refine wpAny_bind (wpAny_letGo ?_)
      refine wpAny_bind
        (seqEpoch_at ea1 rfl ?_)
      simp only [Bool.false_eq_true, if_false]
      refine wpAny_bind
        (listUpdate_at ea1 rfl ?_ (Nat.zero_le _) (by rw [Array.size_map, hs2]; exact Nat.le_succ_of_le (hsl _ (Nat.le_refl _))))
      rw [hfl]
      simp only [bne_self_eq_false, Bool.false_eq_true, if_false]
      refine wpAny_pure (h _ _ c2 ?_ hc2 ?_)
      · exact (J0.turn1 (t' := s'.toks) fk fun b o hb z => (sb.2 b hb).trans z).turn1 (t' := s'.toks) fa fun b o hb z => (sb2.2 b hb).trans z
      · have z := ksk_out (b := false) hk' hp hs
        simpa using z
    unfold ksk_end
    simp only [Bool.false_eq_true, if_false]
    by_cases h2 : vs.toArray.size < 2
    · rw [if_pos h2, if_pos h2]
      refine wpAny_bind (wpAny_pure ?_)
      rw [StateT.run_pure]
      refine wpAny_bind (wpAny_pure ?_)
      dsimp only
      refine tail _ (Array.Perm.refl _) ?_ rfl
      intro i j hij hj
      have hj2 : j < (kA.zip vs.toArray).size := hj
      rw [hzs] at hj2
      rw [List.size_toArray] at h2
      have : i = j := by omega
      subst this
      exact Int.le_refl _
    · rw [if_neg h2, if_neg h2]
      rw [List.size_toArray] at h2
      rw [ksk_kind hk' (by rw [hszk]; omega)]
      refine wpAny_bind (wpAny_pure ?_)
      refine wpAny_bind
        (wpAny_mono (srt (a₀ := kA.zip vs.toArray) (st := SortSt.mk' oneType' (kA.zip vs.toArray) #[] 7 none)
          (Q := fun _ z => (arrOf z).Perm (kA.zip vs.toArray) ∧ failedOf z = none ∧ SortedTo (arrOf z) (kA.zip vs.toArray).size)
          (ksk_intKeys hk') ⟨Array.Perm.refl _, rfl, rfl, rfl⟩ (by rw [hzs]; omega) (by rw [hzs]; exact hz) fun z b1 b2 b3 => ⟨b1, b2, b3⟩) ?_ fun _ _ e => e)
      rintro ⟨⟨⟩, z⟩ s2 ⟨rfl, b1, b2, b3⟩
      dsimp only
      exact tail z b1 (by rw [b1.size_eq]; exact b3) b2

/-! ### the lambda is made -/
theorem lam_make {P c : Addr} {params : Arguments} {body : Expr} {scope : Scope} {pos : Pos} {N' : List Str} {cap : List (Option Nat)} {Q : Value → Shared → Prop} (I : Inv X pins σ H s)
    (hT : H P = some (.tbl pos (X.env.qual ++ "<lambda>"))) (hcode : X.env.code = .ref c) (C : PySem.W.CodeHd X.base c P) (S : CSc X scope N' cap) (hdef : defaultsOf params X.env = ([], []))
    (h : ∀ (f c' : Addr) (oc : Obj) (vs : Array Value) (t : Tok) (ctv : Value) (s' : Shared) (H' : Hp),
      Inv X ((f, PySem.W.kla_obj "<lambda>" (X.env.qual ++ "<lambda>") params body scope (compCl X.env scope.names []) ((X.mg "__name__").getD .none) c' ctv) :: pins) σ H' s' →
      (H' = H ∨ ∃ b, H b = none ∧ H' = upd H b (.frz oc (.own P))) → H' c' = some (.frz oc (.own P)) → oc.data = .fields vs → vs[1]? = some (.str (X.env.qual ++ "<lambda>") t) → Q (.ref f) s') :
    wpAny (model X.prog X.w) A (eval (.Lambda params body scope pos) X.env) Q E s := by
  obtain ⟨ps, hP, tr, hc⟩ := (show ObjOk X.prog X.w H s.heap P (.tbl pos (X.env.qual ++ "<lambda>")) from I.hok P _ hT)
  obtain ⟨bm, ob, m1, m2, m3, m4, m5, m6⟩ := I.mod.bm
  have hgl : s.heap.Ns mainGlobals X.mg := I.mod.glob.keeps I.bk
  have hbmG : bm ≠ mainGlobals := fun q => by
    obtain ⟨o, es, ep, e, hd, _⟩ := I.mod.glob
    rw [q, e] at m3; cases m3; rw [hd] at m6; cases m6
  have hbmP : bm ≠ P := fun q => by
    have e := I.bk _ _ m3
    rw [q, hP] at e; cases e; cases m4
  have hgP : mainGlobals ≠ P := fun q => by
    obtain ⟨o, es, ep, e, hd, _⟩ := hgl
    rw [q, hP] at e; cases e; cases hd
  have hB : s.heap.BuiltinsAt X.mg P := ⟨bm, ob, m1, m2, hbmG, hbmP, I.bk _ _ m3, m4, m5, m6⟩
  have hcl : closureFor scope X.env = pure (compCl X.env scope.names []) := closure_eq (I.cellOf S)
  refine PySem.W.kla_eval hdef ?_
  cases hca : codeAmong pos ps.toList with
  | none =>
    refine PySem.W.kla_makeFunction hcl I.ok.glob hgl hcode (C.keeps I.bk) hP tr hca hgP hB fun c' ctv h' tk hx hge hlt hrec htb => ?_
    obtain ⟨c2, oc, vs, t, ec, hoc, hdc, hq⟩ := hrec
    cases ec
    have hn : H c' = none := I.hok.fresh hge
    have hPc : P ≠ c' := ne_of_none hT hn
    have hsz : s.heap.objs.size ≤ h'.objs.size := Nat.le_trans hge (Nat.le_of_lt hlt)
    have lt : ∀ b o, s.heap.get? b = some o → b ≠ c' := fun b o e => Nat.ne_of_lt (Nat.lt_of_lt_of_le (Heap.lt_size e) hge)
    have old : ∀ b o, b ≠ P → s.heap.get? b = some o → (h'.push (PySem.W.kla_obj "<lambda>" (X.env.qual ++ "<lambda>") params body scope (compCl X.env scope.names []) ((X.mg "__name__").getD .none) c' ctv)).get? b = some o :=
      fun b o hb e => Heap.get?_push_of_some _ (hx b o hb e)
    have nP : ∀ b, H b = none → b ≠ P := fun b n z => by rw [z, hT] at n; cases n
    have hun : Un X.fs [] H (upd H c' (.frz oc (.own P))) s.heap (h'.push (PySem.W.kla_obj "<lambda>" (X.env.qual ++ "<lambda>") params body scope (compCl X.env scope.names []) ((X.mg "__name__").getD .none) c' ctv)) := by
      refine ⟨fun b o e n _ _ => old b o (nP b n) e, fun b o e n _ _ => ⟨o.slots, old b o (nP b n) e⟩, fun b o e n _ => by rw [upd_ne (lt b o e)]; exact n, fun b o e _ => ?_,
        fun b xs q => by rw [upd_ne (ne_of_none q hn)]; exact q, fun b o u q => by rw [upd_ne (ne_of_none q hn)]; exact q, fun b pl y q => by rw [upd_ne (ne_of_none q hn)]; exact q⟩
      by_cases hb : b = P
      · exact ⟨_, by rw [hb]; exact Heap.get?_push_of_some _ htb⟩
      · exact ⟨o, old b o hb e⟩
    have hok : HOk X.prog X.w (upd H c' (.frz oc (.own P))) (h'.push (PySem.W.kla_obj "<lambda>" (X.env.qual ++ "<lambda>") params body scope (compCl X.env scope.names []) ((X.mg "__name__").getD .none) c' ctv)) := fun b u e => by
      by_cases hbc : b = c'
      · subst hbc
        rw [upd_same] at e
        cases e
        exact ⟨Heap.get?_push_of_some _ hoc, _, Heap.get?_push_of_some _ hoc⟩
      · rw [upd_ne hbc] at e
        by_cases hb : b = P
        · subst hb
          rw [hT] at e
          cases e
          have eL : (ps ++ #[rawInt pos.line, rawInt pos.col, Value.ref c']).toList = ps.toList ++ [rawInt pos.line, rawInt pos.col, Value.ref c'] := by simp
          refine ⟨_, Heap.get?_push_of_some _ htb, by rw [eL]; exact TriplesOk_snoc _ _ _ _ tr, fun cv z => ?_⟩
          rw [eL, codeAmong_snoc _ tr hca] at z
          cases z
          exact ⟨c', oc, vs, t, rfl, upd_same, hdc, hq⟩
        · refine (I.hok b u e).stay (fun d v hd q => old d v ?_ q) (fun d q => by rw [upd_ne (ne_of_none q hn)]; exact q) (fun d xs q => by rw [upd_ne (ne_of_none q hn)]; exact q) fun d o y q => by rw [upd_ne (ne_of_none q hn)]; exact q
          rcases hd with rfl | hd
          · exact hb
          · intro z; rw [z, hT] at hd; cases hd
    have J : Inv X pins σ (upd H c' (.frz oc (.own P))) { s with heap := h'.push (PySem.W.kla_obj "<lambda>" (X.env.qual ++ "<lambda>") params body scope (compCl X.env scope.names []) ((X.mg "__name__").getD .none) c' ctv), toks := tk } := I.un hun hok
    refine h h'.objs.size c' oc vs t ctv _ _ (J.pin_add ?_ (Heap.get?_push_size _ rfl) (fun v z => by cases z)) (.inr ⟨c', hn, rfl⟩) upd_same hdc hq
    exact I.fpOk hsz (by rw [upd_ne (Nat.ne_of_gt hlt)]; exact I.hok.fresh hsz)
  | some cv =>
    obtain ⟨c', oc, vs, t, rfl, e2, hdc, hq⟩ := hc cv hca
    refine PySem.W.kla_makeFunctionHit hcl I.ok.glob hgl hcode (C.keeps I.bk) hP tr hca hB fun ctv h' tk hk hsz => ?_
    have J : Inv X pins σ H { s with heap := h'.push (PySem.W.kla_obj "<lambda>" (X.env.qual ++ "<lambda>") params body scope (compCl X.env scope.names []) ((X.mg "__name__").getD .none) c' ctv), toks := tk } :=
      I.kept fun b o e => Heap.get?_push_of_some _ (hk b o e)
    refine h h'.objs.size c' oc vs t ctv _ H (J.pin_add ?_ (Heap.get?_push_size _ rfl) (fun v z => by cases z)) (.inl rfl) e2 hdc hq
    exact I.fpOk hsz (I.hok.fresh hsz)

/-! ### the lambda is called -/
def lamCx (X : Cx) (A : Around) (qual : Str) (scope : Scope) (N' : List Str) (f : Addr) (cd : Value) (s : Shared) (H : Hp) : Cx where
  prog := X.prog
  w := X.w
  K := X.K
  mg := X.mg
  base := X.base
  A := A.deeper (PySem.W.envX qual scope s.heap.objs.size f cd (compCl X.env scope.names []))
  N := N'
  s₀ := s
  H₀ := H
  env := PySem.W.envX qual scope s.heap.objs.size f cd (compCl X.env scope.names [])
  outer := X.stack
  stack := PySem.W.envX qual scope s.heap.objs.size f cd (compCl X.env scope.names []) :: X.stack
  ex := []
  calm := true
  fn := fun _ => false
  pn := []
  xe := fun _ _ => False

theorem lam_call {f c' : Addr} {oc : Obj} {vs : Array Value} {t : Tok} {ctv pm : Value} {qual x y : Str} {params : Arguments} {body : Expr} {scope : Scope} {j : Nat} {v : Value} {a b : V} {te : TE} {Qv : VK} {P : Addr}
    (I : Inv X pins σ H s) (hA : A.frames = some X.stack) (hh : A.handled = none) (hd : A.depth < recursionLimit)
    (hf : (f, PySem.W.kla_obj "<lambda>" qual params body scope (compCl X.env scope.names []) pm c' ctv) ∈ pins) (hc : H c' = some (.frz oc (.own P))) (hdc : oc.data = .fields vs) (hq : vs[1]? = some (.str qual t))
    (S : CSc X scope [x, y] [none, some j]) (hxl : scope.names.lookup x = some .local) (hco : scope.isCoroutine = false) (hgen : scope.isGenerator = false)
    (hbind : ∀ cdv, bindArgs (PySem.W.kla_fn "<lambda>" qual params body scope (compCl X.env scope.names []) pm cdv ctv) ⟨[v], []⟩ = pure [(x, v)])
    (hσ : σ[j]? = some (some b)) (rv : RelV a v) (hb : ∀ s', PE (lamCx X A qual scope [x, y] f (.ref c') s' H) body te) (q : te [some a, some b] H Qv) :
    wpAny (model X.prog X.w) A (call (.ref f) [v]) (fun u s' => ∃ z H', RelV z u ∧ Qv z H' ∧ Inv X pins σ H' s') (fun _ _ => False) s := by
  have hlim := I.nolimit
  have ho := I.pin_get hf
  obtain ⟨hoc, _⟩ := (show ObjOk X.prog X.w H s.heap c' (.frz oc (.own P)) from I.hok c' _ hc)
  refine wpAny_call (PySem.W.kla_callFunE hd ho rfl hco hgen rfl ⟨c', oc, vs, t, rfl, hoc, hdc, hq⟩ ?_)
  rw [hbind]
  refine wpAny_pure (wpAny_newFunctionEnv S.nocell (fun z hz => by rw [List.mem_singleton.mp hz]; exact hxl) (fun h₁ hns hsb => ?_) S.kind)
  have hk₁ : ∀ b o, s.heap.get? b = some o → h₁.get? b = some o := fun b o e => hsb.extBut b o (Nat.ne_of_lt (Heap.lt_size e)) (Heap.get?_push_of_some _ e)
  refine ⟨hlim.keeps hk₁, ?_⟩
  show codeAny _ _ (.expr body (PySem.W.envX qual scope s.heap.objs.size f (.ref c') (compCl X.env scope.names []))) _ _
  have J : Inv (lamCx X A qual scope [x, y] f (.ref c') s H) [] [some a, some b] H { s with heap := h₁, toks := s.toks + 1 } := by
    refine ⟨⟨I.ok.mod, S.kind, rfl, rfl, Nat.le_refl _, fun z z' d h1 h2 => ?_, fun z hz => ?_, fun z d hz => (by cases hz), fun _ => hh, Around.frames_deeper hA, .inr ⟨rfl, rfl⟩, fun d hd' => absurd (show d ∈ ([] : List Addr) from hd') (by simp), I.bs, Nat.le_trans I.ok.bsz I.sz,
        fun d _ _ => (by show d ∉ ([] : List Addr); simp), fun d hd' => absurd (show d ∈ ([] : List Addr) from hd') (by simp), I.stack, I.stkFree⟩,
      rfl, I.bare, Un.kept hk₁, ⟨_, hns, fun i z u e1 e2 e3 => ?_⟩, fun z d e => ?_, I.hok.fresh (Nat.le_refl _), fun z d e => I.freeC z d (I.clLook S e), fun p hp => absurd (show p ∈ ([] : List (Addr × Obj)) from hp) (by simp), I.hok.kept hk₁, rfl⟩
    · exact I.ok.inj z z' d (I.clLook S h1) (I.clLook S h2)
    · have hz' : scope.names.lookup z = some .cell ∨ scope.names.lookup z = some .free := hz
      rcases hz' with hz' | hz'
      · exact absurd rfl (S.nocell _ (PySem.mem_of_lookup hz'))
      · exact compCl_has _ _ z (PySem.mem_of_lookup hz')
    · match i, e1, e2 with
      | 0, e1, e2 =>
        cases e1
        cases e2
        exact ⟨v, rv, .inl ⟨hxl, by simp⟩⟩
      | 1, e1, e2 =>
        cases e1
        cases e2
        obtain ⟨a1, _, a3⟩ := S.cap 1 (List.mem_range.mpr (by show 1 < 2; omega)) j rfl
        have a1' : X.N[j]? = some y := a1.symm
        have a3' : scope.names.lookup y = some .free := a3
        have hk' : X.env.kindOf y = some .cell ∨ X.env.kindOf y = some .free := S.free _ (PySem.mem_of_lookup a3') rfl
        obtain ⟨m0, hn0, hl⟩ := I.loc
        obtain ⟨u', ru, lk⟩ := hl j y _ a1' hσ (hk'.elim (fun z => .inr (.inl z)) fun z => .inr (.inr z))
        refine ⟨u', ru, ?_⟩
        rcases lk with ⟨z, _⟩ | ⟨_, d, ec, hcell⟩
        · rcases hk' with w' | w'
          · rw [z] at w'; cases w'
          · rw [z] at w'; cases w'
        · obtain ⟨d', ec'⟩ := compCl_has (env := X.env) scope.names [] y (PySem.mem_of_lookup a3')
          have : d' = d := Option.some.inj ((I.clLook S ec').symm.trans ec)
          subst this
          exact .inr ⟨.inr a3', d', ec', hcell.keeps hk₁⟩
    · obtain ⟨u', z'⟩ := I.cell z d (I.clLook S e)
      exact ⟨u', z'.keeps hk₁⟩
  refine PySem.W.kla_codeExpr (wpAny_mono (hb s [] _ _ H Qv J q) (fun u s' hu => ?_) fun _ _ z => False.elim z)
  obtain ⟨z, H', J', rz, qz⟩ := hu
  exact ⟨z, H', rz, qz, I.call' (ch := []) J'.os J'.base J'.hok J'.bare fun d hd' => absurd hd' (by simp)⟩
end
end L2
/-! The law's call where defs of the text make lambdas: the tables of their code objects are tracked. -/
namespace L2
open PySem PySem.Spec PyProof.Rows

/-- which addresses are tables, with the place and the name of the one lambda that is made there -/
abbrev Tabs := Addr → Option (Pos × Str)
def tabsOf (K : PySem.W.Frag) (L : List (Str × Pos × Str)) : Tabs := fun b => L.findSome? fun e => match PySem.W.tabIn K e.1 with
  | some p => if b = p.2 then some e.2 else none
  | none => none
theorem tabs_one {K : PySem.W.Frag} {f : Str} {pl : Pos} {q : Str} {c P : Addr} (h : PySem.W.tabIn K f = some (c, P)) : tabsOf K [(f, pl, q)] P = some (pl, q) := by
  unfold tabsOf
  simp [h]
theorem tabs_mem {K : PySem.W.Frag} {L : List (Str × Pos × Str)} {b : Addr} {p : Pos × Str} (h : tabsOf K L b = some p) : ∃ e ∈ L, ∃ c, PySem.W.tabIn K e.1 = some (c, b) := by
  unfold tabsOf at h
  obtain ⟨e, he, q⟩ := List.exists_of_findSome?_eq_some h
  refine ⟨e, he, ?_⟩
  cases z : PySem.W.tabIn K e.1 with
  | none => rw [z] at q; cases q
  | some r =>
    rw [z] at q
    dsimp only at q
    split at q
    · rename_i hb
      exact ⟨r.1, by rw [hb]⟩
    · cases q
/-- a law's wish of the abstract heap -/
def TabsIn (K : PySem.W.Frag) (L : List (Str × Pos × Str)) (H : Hp) : Prop := ∀ b p, tabsOf K L b = some p → H b = some (.tbl p.1 p.2)

theorem law_callT {P : Program} {w : World} {K : PySem.W.Frag} {mg mb : Str → Option Value} {CX : CXT} {k : Nat} {fa a : Addr} {fd : FuncData} {x : Str} {sp : Sp} {s₁ : Shared} {vs : List Value} {ns : List Int} (τ : Tabs)
    (KX : K.In s₁.heap) (hns : s₁.heap.Ns mainGlobals mg) (hb : s₁.heap.Ns builtinsNs mb) (hbb : ∀ x : Str, x ≠ "__name__" → mb x = bootBuiltins x) (hlim : s₁.heap.NoLimit) (hg : s₁.gens = #[])
    (hbm : ∃ bm ob, mg "__builtins__" = some (.ref bm) ∧ bm ≠ builtinsNs ∧ s₁.heap.get? bm = some ob ∧ ob.cls = .type "module" ∧ ob.dict = some builtinsNs ∧ ob.data = .plain)
    (hτ : ∀ b p, τ b = some p → ∃ c, PySem.W.CodeHd s₁.heap c b ∧ s₁.heap.get? b = some (PySem.W.tabObj #[])) (hτK : ∀ b p, τ b = some p → K.lookup b = none)
    (ha : s₁.heap.get? a = some { cls := .type "list", data := .seq vs.toArray }) (hi : IntsAre vs ns) (hl : ns.length ≤ sizeLine) (hr : Room k callerA)
    (F : ∀ base : Heap, K.In base → base.Ns mainGlobals mg → FnOk P w K mg base CX k fa fd [x] sp) (hbind : ∀ (s : Shared) (u : Value), BindsTo s fd ⟨[u], []⟩ [(x, u)])
    (hsp : ∀ H : Hp, (∀ b p, τ b = some p → H b = some (.tbl p.1 p.2)) → SqL K H a (ns.map V.int) → sp [.ref a] H (fun v _ => v = .bl true) fun _ _ _ => False)
    (hCX : ∀ H e s', CX [] H s₁ (fun _ _ _ => False) e s' → False) :
    codeAny (model P w) callerA (.call (.ref fa) ⟨[.ref a], []⟩) (fun r s' => r = .ok (.ret (.bool true)) ∧ OldK s₁.heap s'.heap ∧ s'.os = s₁.os ∧ AllBare s'.gens) s₁ := by
  have rv := vals_ints hi
  have lenV := hi.length
  have hta : ∀ p, τ a ≠ some p := fun p z => by
    obtain ⟨c, _, e⟩ := hτ a p z
    rw [ha] at e; cases e
  have core : ∀ H : Hp, (∀ b p, τ b = some p → H b = some (.tbl p.1 p.2)) → SqL K H a (ns.map V.int) → HOk P w H s₁.heap →
      (∀ b u, H b = some u → (b = a ∧ (∃ o xs, u = .frz o (.lst xs)) ∧ K.lookup a = none) ∨ ∃ p, τ b = some p ∧ u = .tbl p.1 p.2) →
      codeAny (model P w) callerA (.call (.ref fa) ⟨[.ref a], []⟩) (fun r s' => r = .ok (.ret (.bool true)) ∧ OldK s₁.heap s'.heap ∧ s'.os = s₁.os ∧ AllBare s'.gens) s₁ := by
    intro H hT hS hok hA
    have obj_of : ∀ {b : Addr} {o : Obj} {u : HO}, s₁.heap.get? b = some o → H b = some u → (∃ xs n, o.data = .seq xs n) ∨ ∃ ps, o.data = .fields ps ∧ o.cls = .none := fun {b o u} e q => by
      rcases hA b u q with ⟨rfl, _⟩ | ⟨p, hp, _⟩
      · rw [ha] at e; cases e; exact .inl ⟨_, _, rfl⟩
      · obtain ⟨c, _, e'⟩ := hτ b p hp
        rw [e'] at e; cases e; exact .inr ⟨_, rfl, rfl⟩
    have base_of : ∀ {b : Addr} {o : Obj}, s₁.heap.get? b = some o → H b = none → (hidT s₁.heap H).get? b = some o := fun e n => hidT_get e n
    have noA : ∀ {b : Addr} {o : Obj} {es : Array DictEntry} {ep : Nat}, s₁.heap.get? b = some o → o.data = .dict es ep → H b = none := fun {b o es ep} e d => by
      cases q : H b with
      | none => rfl
      | some u =>
        rcases obj_of e q with ⟨xs, n, z⟩ | ⟨ps, z, _⟩
        · rw [d] at z; cases z
        · rw [d] at z; cases z
    have nsK : ∀ {b : Addr} {m : Str → Option Value}, s₁.heap.Ns b m → (hidT s₁.heap H).Ns b m := fun {b m} ⟨o, es, ep, e, d, r⟩ => ⟨o, es, ep, base_of e (noA e d), d, r⟩
    have hKb : K.In (hidT s₁.heap H) := fun b o e => base_of (KX b o e) (by
      cases q : H b with
      | none => rfl
      | some u =>
        rcases hA b u q with ⟨rfl, _, z⟩ | ⟨p, hp, _⟩
        · rw [z] at e; cases e
        · rw [hτK b p hp] at e; cases e)
    obtain ⟨bm, ob, m1, m2, m3, m4, m5, m6⟩ := hbm
    have hbmH : H bm = none := by
      cases q : H bm with
      | none => rfl
      | some u =>
        rcases obj_of m3 q with ⟨xs, n, z⟩ | ⟨ps, z, _⟩
        · rw [m6] at z; cases z
        · rw [m6] at z; cases z
    have hM : Mod K mg (hidT s₁.heap H) := ⟨hKb, nsK hns, ⟨mb, nsK hb, hbb⟩, let ⟨mc, h1, h2⟩ := hlim; ⟨mc, nsK h1, h2⟩, ⟨bm, ob, m1, m2, base_of m3 hbmH, m4, m5, m6⟩⟩
    have e0 : Env0 P w K mg (hidT s₁.heap H) callerA [] s₁ H := ⟨rfl, hM, fun b o e => of_hidT e, Nat.le_of_eq (hidT_size _ _), trivial, fun b hb => absurd (show b ∈ ([] : List Addr) from hb) (by simp), hok, .of_eq hg⟩
    refine codeAny_mono ((F _ hKb (nsK hns)).run callerA [] s₁ H ⟨[.ref a], []⟩ [.ref a] [.ref a] _ _ hr e0 (hbind s₁ (.ref a)) (.cons rfl .nil) (hsp H hT hS)) fun r s' h => ?_
    cases r with
    | error e => exact (hCX H e s' h).elim
    | ok fl =>
      cases fl with
      | next => exact False.elim h
      | brk => exact False.elim h
      | cont => exact False.elim h
      | ret u =>
        obtain ⟨v, H', os, bare, un, hok', r', q⟩ := h
        have q' : v = .bl true := q
        subst q'
        obtain rfl : u = Value.bool true := r'
        have was : ∀ b o, s₁.heap.get? b = some o → asItWas s₁.heap s'.heap b o := fun b o e => by
          cases q : H b with
          | none => exact .inl (un.keep b o e q (by intro z; exact absurd (show b ∈ ([] : List Addr) from z) (by simp)) (by simp))
          | some u =>
            rcases hA b u q with ⟨rfl, ⟨ob', xs, rfl⟩, _⟩ | ⟨p, hp, rfl⟩
            · have z2 := un.frzs b ob' _ q
              obtain ⟨e1, _⟩ := hok b _ q
              obtain ⟨e2, _⟩ := hok' b _ z2
              rw [e] at e1; cases e1
              exact .inl e2
            · obtain ⟨c, C, e'⟩ := hτ b p hp
              rw [e'] at e; cases e
              obtain ⟨ps, z, _⟩ := hok' b _ (un.tbls b _ _ q)
              refine .inr (.inl ⟨(C.tab e').isCodeTable, rfl, #[], ps, rfl, ?_⟩)
              rw [z]
              simp
        exact ⟨rfl, ⟨was, fun b o e => un.there b o e (by simp)⟩, os, bare⟩
  have tok : ∀ (H : Hp) b p, τ b = some p → ObjOk P w H s₁.heap b (.tbl p.1 p.2) := fun H b p hp => by
    obtain ⟨c, _, e⟩ := hτ b p hp
    refine ⟨#[], e, trivial, fun cv z => ?_⟩
    simp [codeAmong] at z
  cases hk : K.lookup a with
  | some o =>
    have e := KX a o hk
    rw [ha] at e
    cases e
    refine core (fun b => (τ b).map fun p => .tbl p.1 p.2) (fun b p hp => by simp [hp]) (.inr ⟨_, vs.toArray, _, hk, rfl, rfl, rfl, by rw [List.size_toArray, lenV]; exact hl, by simpa using rv⟩) (fun b u z => ?_) (fun b u z => ?_)
    · obtain ⟨p, hp, rfl⟩ := Option.map_eq_some_iff.mp z
      exact tok _ b p hp
    · obtain ⟨p, hp, rfl⟩ := Option.map_eq_some_iff.mp z
      exact .inr ⟨p, hp, rfl⟩
  | none =>
    refine core (fun b => if b = a then some (.frz { cls := .type "list", data := .seq vs.toArray } (.lst (ns.map V.int))) else (τ b).map fun p => .tbl p.1 p.2) (fun b p hp => ?_) (.inl (.inr ⟨{ cls := .type "list", data := .seq vs.toArray }, if_pos rfl⟩)) (fun b u z => ?_) (fun b u z => ?_)
    · have hb : b ≠ a := fun q => hta p (q ▸ hp)
      show (if b = a then _ else _) = _
      rw [if_neg hb, hp]; rfl
    · by_cases hb : b = a
      · have z' := (if_pos hb).symm.trans z
        cases z'
        subst hb
        exact ⟨ha, by rw [List.length_map]; exact hl, vs, _, rv, ha⟩
      · have z' := (if_neg hb).symm.trans z
        obtain ⟨p, hp, rfl⟩ := Option.map_eq_some_iff.mp z'
        exact tok _ b p hp
    · by_cases hb : b = a
      · have z' := (if_pos hb).symm.trans z
        cases z'
        exact .inl ⟨hb, ⟨_, _, rfl⟩, hk⟩
      · have z' := (if_neg hb).symm.trans z
        obtain ⟨p, hp, rfl⟩ := Option.map_eq_some_iff.mp z'
        exact .inr ⟨p, hp, rfl⟩

theorem walk_ofT {l : PySem.W.OpenLaw} {n k : Nat} {q : Program} {loose : List Str} {XP : (Str → Option Value) → Heap → Prop} {YP : World → Heap → Prop} {d : DefRec} {K : Params → PySem.W.Frag} {CX : World → CXT} {sp : World → Sp} {x : Str} (L : List (Str × Pos × Str))
    (hn : l.most = some n) (hn2 : n ≤ sizeLine) (hdf : d.params.defaults = []) (hr : Room k callerA)
    (hY : ∀ (w : World) (h : Heap), YP w h → (K w.params).In h)
    (hL : ∀ e ∈ L, ∃ d', (recsOf q).find? (fun r => r.name == e.1) = some d') (hK : ∀ (w : World), ∀ e ∈ L, ∀ c P, PySem.W.tabIn (K w.params) e.1 = some (c, P) → (K w.params).lookup P = none)
    (F : ∀ (w : World) (mg : Str → Option Value) (fa : Addr) (h : Heap), (K w.params).In h → h.Ns mainGlobals mg → mg d.name = some (.ref fa) →
      ∃ fd : FuncData, (∀ (s : Shared) (u : Value), BindsTo s fd ⟨[u], []⟩ [(x, u)]) ∧
        ∀ base : Heap, (K w.params).In base → base.Ns mainGlobals mg → FnOk l.prog w (K w.params) mg base (CX w) k fa fd [x] (sp w))
    (hsp : ∀ (w : World) (H : Hp) (a : Addr) (ns : List Int), ns.length ≤ n → TabsIn (K w.params) L H → SqL (K w.params) H a (ns.map V.int) → sp w [.ref a] H (fun v _ => v = .bl true) fun _ _ _ => False)
    (hCX : ∀ (w : World) (H : Hp) (s : Shared) (e : Value) (s' : Shared), CX w [] H s (fun _ _ _ => False) e s' → False) :
    PySem.W.WalkO q loose XP YP l.row.toRowW d [] (fun f vs => PySem.call f vs) := by
  refine Att.attach_call hn hdf fun w s₀ s₁ mg mb fa o pm cd doc a vs ns G Y ho hd hcd hmg hobj hints hlen hg => ?_
  have KX := hY w _ Y
  obtain ⟨fd, hb, hF⟩ := F w mg fa _ KX G.T.g hmg
  refine law_callT (tabsOf (K w.params) L) KX G.T.g G.T.b G.T.builtins G.T.nolimit hg G.T.bmain (fun b p hp => ?_) (fun b p hp => ?_) hobj hints (Nat.le_trans hlen hn2) hr hF hb (fun H hO hS => hsp w H a ns hlen hO hS) fun H e s' => hCX w H s₁ e s'
  · obtain ⟨e, he, c, z⟩ := tabs_mem hp
    obtain ⟨d', hd'⟩ := hL e he
    obtain ⟨h1, h2⟩ := PySem.W.tab_of G.T KX hd' z
    exact ⟨c, h1, h2⟩
  · obtain ⟨e, he, c, z⟩ := tabs_mem hp
    exact hK w e he c b z
end L2
/-! Wagons through blind tracks that are chosen for them: a wagon leaves as soon as it can; what stands in the way. -/
namespace Sh

/-! ### the yard does the same -/
section
variable {T : List Int} {ord trk : List Nat} {many : Nat}
end

/-! ### what stands in the way -/
section
variable {ord trk : List Nat} {many n : Nat}
/-- the orders of leaving -/
structure Ord (ord : List Nat) (n : Nat) : Prop where
  nd : ord.Nodup
  mem : ∀ p, p ∈ ord ↔ p < n
theorem Ord.lt (h : Ord ord n) {j p : Nat} (e : ord[j]? = some p) : p < n := (h.mem p).mp (List.mem_of_getElem? e)
end
end Sh
/-! The rule for sorted(range(len(xs)), key=lambda p: xs[p]). -/
namespace L2
open PySem PySem.Spec PyProof.Rows
/-- the places of T in the order of their wagons -/
structure Rank (T : List Int) (ord : List Nat) : Prop where
  perm : ord.Perm (List.range T.length)
  up : ord.Pairwise fun p q => T.getD p 0 ≤ T.getD q 0
theorem Rank.ord {T : List Int} {ord : List Nat} (h : Rank T ord) : Sh.Ord ord T.length := ⟨h.perm.nodup_iff.mpr List.nodup_range, fun p => by rw [h.perm.mem_iff, List.mem_range]⟩
section
variable {X : Cx} {E : XK}
/-- what the sort of pairs tells: the items are the places -/
theorem rank_of {T : List Int} {vs out : List Value} (hv : vs.length = T.length) (hi : ∀ (j : Nat) (v : Value), vs[j]? = some v → ∃ t, v = .int (j : Int) t) (h : KskOut false T vs out) : ∃ ord, Rank T ord ∧ Vals (ord.map fun (p : Nat) => V.int (p : Int)) out := by
  obtain ⟨ps, hp, rfl, hs⟩ := h
  let f : Int × Value → Nat := fun p => match p.2 with | .int i _ => i.toNat | _ => 0
  have hmem : ∀ p ∈ ps, ∃ (j : Nat) (t : Tok), p.2 = .int (j : Int) t ∧ j < T.length ∧ T.getD j 0 = p.1 ∧ f p = j := fun p hpm => by
    have hm := hp.mem_iff.mp hpm
    obtain ⟨j, hj, e⟩ := List.getElem_of_mem hm
    rw [List.length_zip, hv, Nat.min_self] at hj
    rw [List.getElem_zip] at e
    obtain ⟨t, et⟩ := hi j vs[j] (List.getElem?_eq_getElem (by omega))
    refine ⟨j, t, ?_, hj, ?_, ?_⟩
    · rw [← e]; exact et
    · rw [List.getD_eq_getElem?_getD, List.getElem?_eq_getElem hj, ← e]; rfl
    · rw [← e]
      show (match vs[j] with | .int i _ => i.toNat | _ => 0) = j
      rw [et]
      exact Int.toNat_natCast j
  refine ⟨ps.map f, ⟨?_, ?_⟩, ?_⟩
  · have h1 := hp.map f
    have h2 : (T.zip vs).map f = List.range T.length := by
      refine List.ext_getElem? fun k => ?_
      rw [List.getElem?_map]
      by_cases hk : k < T.length
      · rw [List.getElem?_eq_getElem (by rw [List.length_zip, hv, Nat.min_self]; exact hk), List.getElem?_range hk, List.getElem_zip]
        obtain ⟨t, et⟩ := hi k vs[k] (List.getElem?_eq_getElem (by omega))
        show some (match vs[k] with | .int i _ => i.toNat | _ => 0) = some k
        rw [et]
        exact congrArg some (Int.toNat_natCast k)
      · rw [List.getElem?_eq_none_iff.mpr (by rw [List.length_zip, hv, Nat.min_self]; omega), List.getElem?_eq_none_iff.mpr (by rw [List.length_range]; omega)]
        rfl
    rw [h2] at h1
    exact h1
  · rw [List.pairwise_map]
    refine hs.imp_of_mem fun {p q} hp' hq' hle => ?_
    obtain ⟨j, _, _, _, e1, e2⟩ := hmem p hp'
    obtain ⟨k, _, _, _, e3, e4⟩ := hmem q hq'
    rw [e2, e4, e1, e3]
    simpa using hle
  · clear hs hp
    induction ps with
    | nil => exact .nil
    | cons p r ih =>
      obtain ⟨j, t, e1, _, _, e2⟩ := hmem p List.mem_cons_self
      refine .cons ?_ (ih fun q hq => hmem q (List.mem_cons_of_mem _ hq))
      rw [e2]
      exact ⟨t, e1⟩
theorem Inv.adopt {pins : List (Addr × Obj)} {σ : St} {H : Hp} {s : Shared} {a : Addr} {xs : List V} {its : List Value} {m : Nat} (I : Inv X pins σ H s) (f : FpOk X pins H a) (n2 : X.s₀.heap.objs.size ≤ a)
    (ho : s.heap.get? a = some { cls := .type "list", data := .seq its.toArray m }) (rv : Vals xs its) (hz : xs.length ≤ sizeLine) : Inv X pins σ (upd H a (.lst xs)) s := by
  have n1 := f.1
  refine ⟨I.ok, I.os, I.bare, ⟨I.base.keep, I.base.slot, fun b o q n hx => ?_, I.base.there, fun b xs q => upd_get (I.base.tups b xs q) n1, fun b o u q => upd_get (I.base.frzs b o u q) n1, fun b pl y q => upd_get (I.base.tbls b pl y q) n1⟩, I.loc, I.cell,
    by rw [upd_ne f.2.1.symm]; exact I.free, fun x c e => by rw [upd_ne (f.2.2.2.2.1 x c e)]; exact I.freeC x c e, fun p hp => ?_, fun b o q => ?_, I.len⟩
  · rw [upd_ne (fun z => by rw [z, Heap.get?_none_of_le n2] at q; cases q)]
    exact I.base.free b o q n hx
  · obtain ⟨p1, p2, p3⟩ := I.pin p hp
    exact ⟨p1, by rw [upd_ne (f.2.2.2.2.2 p hp)]; exact p2, p3⟩
  · by_cases hb : b = a
    · subst hb
      rw [upd_same] at q
      cases q
      exact ⟨hz, its, m, rv, ho⟩
    · rw [upd_ne hb] at q
      exact (I.hok b o q).stay (fun c v _ r => r) (fun c r => upd_get r n1) (fun c xs r => upd_get r n1) fun c ob y r => upd_get r n1
def KB (lim : Nat) (P : Addr) (pl : Pos) (q : Str) (j : Nat) (σ : St) (Q : VK) (v : V) (H1 : Hp) : Prop := ∃ (r a : Addr) (T : List Int), v = .ref r ∧ H1 r = some (.rng 0 T.length) ∧ σ[j]? = some (some (.ref a)) ∧ H1 a = some (.lst (T.map V.int)) ∧ T.length ≤ lim ∧ H1 P = some (.tbl pl q) ∧
  ∀ (l : Addr) (H' : Hp) (ord : List Nat), Same H1 H' → H1 l = none → Rank T ord → H' l = some (.lst (ord.map fun (p : Nat) => V.int (p : Int))) → Q (.ref l) H'
def tKey (lim : Nat) (P : Addr) (pl : Pos) (q : Str) (te : TE) (j : Nat) : TE := fun σ H Q => te σ H (KB lim P pl q j σ Q)
theorem pe_key {k : Nat} {P c : Addr} {x y : Str} {p cpos kp lpos spos xpos ypos : Pos} {e : Expr} {scope : Scope} {j : Nat} {te : TE} {params : Arguments}
    {lim : Nat} (srt : SortTo lim) (hlim : lim ≤ 100000) (he : PE X e te) (hr : Room (k + 1) X.A) (hcode : X.env.code = .ref c) (C : ∀ {h : Heap}, X.K.In h → PySem.W.CodeHd h c P) (S : CSc X scope [x, y] [none, some j]) (hxl : scope.names.lookup x = some .local) (hyl : scope.names.lookup y = some .free)
    (hco : scope.isCoroutine = false) (hgen : scope.isGenerator = false) (hg : Gl X "sorted") (hm : X.mg "sorted" = none) (hdef : defaultsOf params X.env = ([], []))
    (hbind : ∀ (cl : List (Str × Addr)) (pm cdv ctv v : Value), bindArgs (PySem.W.kla_fn "<lambda>" (X.env.qual ++ "<lambda>") params (.Subscript (.Name y ypos) (.Name x xpos) spos) scope cl pm cdv ctv) ⟨[v], []⟩ = pure [(x, v)])
    (dx : (x == ("__debug__" : Str)) = false := by decide) (dx' : (x == ("__classdict__" : Str)) = false := by decide) (dy : (y == ("__debug__" : Str)) = false := by decide) (dy' : (y == ("__classdict__" : Str)) = false := by decide)
    (hst : starEach [e] X.env = (false, eval e X.env) :: starEach [] X.env := by rfl) :
    PE X (.Call (.Name "sorted" p) [e] [⟨some "key", .Lambda params (.Subscript (.Name y ypos) (.Name x xpos) spos) scope lpos, kp⟩] cpos) (tKey lim P lpos (X.env.qual ++ "<lambda>") te j) := by
  intro pins s σ H Q I h
  refine wpAny_Call_Name_kw (ld_blt I hg hm (u := .builtin "sorted") (by decide +kernel) ?_)
  have pa : PA X [e] (tCons te tNil) := pa_cons he pa_nil hst
  have hbt : backTo cpos (starEach [e] X.env) = (false, eval e X.env) :: backTo cpos (starEach [] X.env) := by rw [hst]; rfl
  refine callWith_kw (thn (pa cpos pins s σ H (fun vs H1 => match vs with | [v] => KB lim P lpos (X.env.qual ++ "<lambda>") j σ Q v H1 | _ => False) I h) fun us s1 ⟨vs, H1, I1, r1, q1⟩ => ?_) hbt (by rw [hst]; rfl)
  match vs, us, r1, q1 with
  | [_], _, .cons rr .nil, ⟨r, a, T, ev, hrng, hσ, hT, hz, hP, q⟩ =>
    subst ev
    cases (show _ = Value.ref r from rr)
    show wpAny _ _ (evalAll [do let v ← eval (.Lambda params (.Subscript (.Name y ypos) (.Name x xpos) spos) scope lpos) X.env; standAt cpos; pure v]) _ _ s1
    refine wpAny_evalAll_cons (wpAny_bind (lam_make I1 hP hcode (C I1.mod.kin) S hdef fun f c' oc ws t ctv s2 H2 I2 hH hc' hdc hq => wpAny_bind (wpAny_standAt (wpAny_pure (wpAny_evalAll_nil ?_)))))
    show wpAny _ _ (call (.builtin "sorted") [.ref r] [(Str.ofString "key", .ref f)]) _ _ s2
    have s12 : Same H1 H2 := by
      rcases hH with rfl | ⟨b, hb, rfl⟩
      · exact Same.refl _
      · exact Same.upd hb
    refine call_function_entry_kw kind_sorted plain_sorted entry_sorted (ksk_s1 _ _) ?_
    unfold Builtin.«sorted»
    refine wpAny_bind (m := checkCount "sorted" 1 1 _) (wpAny_pure ?_)
    obtain ⟨t1, t2, t3, ern⟩ := (show ObjOk X.prog X.w H2 s2.heap r (.rng 0 T.length) from I2.hok r _ (s12 _ _ hrng))
    have hn : Builtin.Range.rangeSize 0 (T.length : Int) 1 = (T.length : Nat) := by rw [rangeSize_one]; split <;> omega
    refine wpAny_bind (collect_rng (A := X.A.in1) hr.hd ern (small_one (by omega) (by omega) (by omega) (by omega)) hn (by omega) fun h3 tk acc hk3 hacc => ?_)
    have hal : acc.toList.length = T.length := by rw [Array.length_toList]; exact hacc.1
    have hai : ∀ (i : Nat) (v : Value), acc.toList[i]? = some v → ∃ t, v = .int (i : Int) t := fun i v e => by
      obtain ⟨t', e'⟩ := hacc.2 i v (by simpa using e)
      exact ⟨t', by simpa using e'⟩
    refine wpAny_bind (wpAny_newList ?_ (by rw [hal, sizeLine_eq]; omega))
    have I3 : Inv X _ σ H2 { s2 with heap := h3, toks := tk } := I2.kept hk3
    have I4 : Inv X _ σ H2 { s2 with heap := h3.push (seqObj "list" acc.toList.toArray 0), toks := tk } := I3.kept (t' := tk) fun b o e => Heap.get?_push_of_some _ e
    have hoL : (h3.push (seqObj "list" acc.toList.toArray 0)).get? h3.objs.size = some (seqObj "list" acc.toList.toArray 0) := Heap.get?_push_size _ rfl
    have fa := I3.fpOk (b := h3.objs.size) (Nat.le_refl _) (I3.hok.fresh (Nat.le_refl _))
    refine wpAny_bind (wpAny_holding (wpAny_call_entry_kw slot_list_sort ⟨_, hoL, rfl⟩ entry_list_sort ?_ (ksk_l1 _ _)))
    show wpAny (model X.prog X.w) X.A.in1.in1 (Builtin.«list.sort» ⟨[.ref h3.objs.size], [(Str.ofString "key", .ref f)]⟩) _ _ { s2 with heap := h3.push (seqObj "list" acc.toList.toArray 0), toks := tk }
    rw [ksk_t1]
    refine key_sort (kz := T) I4 hoL fa hal.symm srt hlim (by omega) ?_ ?_
    · intro i v k' ei ek pins' s' hp' I'
      obtain ⟨t', rfl⟩ := hai i v ei
      refine wpAny_mono (lam_call (A := X.A.in1.in1) (a := .int (i : Int)) (b := .ref a) (te := tOp (rIxL X.K) (tVar 1) (tVar 0)) (Qv := fun z H' => z = .int k' ∧ H' = H2) I' I'.ok.frames hr.hd hr.depth (hp' _ List.mem_cons_self) hc' hdc hq S hxl hco hgen (fun cdv => hbind _ _ _ _ _) hσ ⟨t', rfl⟩
        (fun s'' => pe_ix ix_list (pe_var (i := 1) rfl (.inr (.inr hyl)) dy dy') (pe_var (i := 0) rfl (.inl hxl) dx dx') (fun _ _ => rfl)) ?_) (fun u s'' ⟨z, H', rz, ⟨ez, eH⟩, J⟩ => ?_) fun _ _ z => z
      · refine ⟨_, rfl, _, rfl, a, _, (i : Int), .int k', rfl, rfl, SqL.of (s12 _ _ hT), atI_nat (by rw [List.getElem?_map, ek]; rfl), rfl, rfl⟩
      · subst ez eH
        exact ⟨rz, J⟩
    · intro s' out e' J ho hout
      refine ⟨_, rfl, wpAny_pure ⟨_, rfl, ?_⟩⟩
      obtain ⟨ord, hord, hvals⟩ := rank_of hal hai hout
      have hol : ord.length = T.length := by rw [hord.perm.length_eq, List.length_range]
      have fa' : FpOk X pins H2 h3.objs.size := ⟨fa.1, fa.2.1, fa.2.2.1, fa.2.2.2.1, fa.2.2.2.2.1, fun p hp => fa.2.2.2.2.2 p ((List.mem_append.mp hp).elim (fun z => List.mem_append_left _ z) fun z => List.mem_append_right _ (List.mem_cons_of_mem _ z))⟩
      have J' := J.pin_drop.adopt fa' (Nat.le_trans I3.sz (Nat.le_refl _)) (its := out.toList) (m := e') (by simpa using ho) hvals (by rw [List.length_map, hol, sizeLine_eq]; omega)
      refine ⟨.ref h3.objs.size, _, J', rfl, q _ _ ord (s12.trans (Same.upd fa.1)) (s12.free fa.1) hord upd_same⟩
end
end L2
namespace L2
open PySem PySem.Spec PyProof.Rows
/-- a def whose body makes one lambda: its code object at c, that one's table at P -/
structure LmT (K : PySem.W.Frag) (mg : Str → Option Value) (x : Str) (st : Stmt) (ps : List Str) (c P : Addr) : Prop where
  ex : ∃ f fd, Fun K x x st f fd ∧ mg x = some (.ref f) ∧ Binds K fd ps [] ∧ fd.code = .ref c
  hd : PySem.W.codeHdIn K c P = true
theorem Fun.okC {P : Program} {w : World} {K : PySem.W.Frag} {mg : Str → Option Value} {base : Heap} {x qual : Str} {st : Stmt} {f c : Addr} {fd : FuncData} {N ps : List Str} {k : Nat} {sp : Sp} (F : Fun K x qual st f fd) (hc : fd.code = .ref c) (S : FnScope N ps (defScope st)) (len : ∀ vs H Q E, sp vs H Q E → vs.length = ps.length)
    (hbody : ∀ (A : Around) (outer : List Env) (s : Shared) (H : Hp) (vs : List V) (Q : VK) (E : XK), Room k (A.deeper (envOfC qual (defScope st) s.heap.objs.size f (.ref c))) → sp vs H Q E →
      ∃ t, PSs (cxOf CX0 P w K mg base N qual (defScope st) f (.ref c) A outer s H E).nox (defBody st) t ∧ t { nx := fun _ H' => Q .non H', rt := Q } (start N vs) H) : FnOk P w K mg base CX0 (k + 1) f fd ps sp := by
  obtain ⟨oc, od, kV, doc, pm, an, cdv, ct, osl, rfl, lk, hcd⟩ := F.ex
  have e : cdv = .ref c := hc
  subst e
  refine fn_of lk hcd S len fun A outer s H vs Q E hr hsp => ?_
  obtain ⟨t, h, q⟩ := hbody A outer s H vs Q E hr hsp
  exact ⟨t, h.nox, q⟩
theorem ctr_ofC {P : Program} {w : World} {K : PySem.W.Frag} {mg : Str → Option Value} {base : Heap} {CX : CXT} {k : Nat} {x : Str} {st : Stmt} {ps : List Str} {sp : Sp} {c Pt : Addr} (F : LmT K mg x st ps c Pt)
    (h : ∀ f fd, Fun K x x st f fd → fd.code = .ref c → FnOk P w K mg base CX k f fd ps sp) : Ctr P w K mg base CX k x ps sp := by
  obtain ⟨f, fd, F, hm, hb, hc⟩ := F.ex
  exact ⟨f, fd, h f fd F hc, hm, F.kp, hb⟩
end L2
/-! Words for the shunting: last items, lists of places. -/
namespace My
open PySem L2 PyProof.Rows
abbrev ordV (ord : List Nat) : List V := ord.map fun (p : Nat) => V.int (p : Int)
end My
namespace My
end My
namespace My
end My
namespace My
end My
namespace L2
open PySem PySem.Spec PyProof.Rows

/-! ### lists of pairs as tables -/
section
variable {κ : Type} [DecidableEq κ]



end


/-! ### a tracked dict, its keys ints and texts or tuples of these -/


section
variable {P : Program} {w : World} {H : Hp} {h : Heap} {a : Addr}
end



section
variable {X : Cx} {pins : List (Addr × Obj)} {σ : St} {H : Hp} {s : Shared} {a : Addr} {y v : V} {u r : Value} {o : Option V} {A : Around} {E : Value → Shared → Prop}

theorem Inv.big (I : Inv X pins σ H s) : sysModules < s.heap.objs.size := by
  have h : mainGlobals < s.heap.objs.size := (I.mod.glob.keeps I.bk).lt
  exact Nat.lt_trans (by decide) h

end

section
variable {X : Cx} {pins : List (Addr × Obj)} {σ : St} {H : Hp} {s : Shared} {a : Addr} {kvs : List (Key × V)} {k : Key} {u : Value} {A : Around} {E : Value → Shared → Prop}
end


/-! ### readings and rules -/



section
variable {X : Cx} {o i e value : Expr} {pos pos' tpos : Pos} {td ty tv : TE}
end


/-! ### displays -/
theorem dk_empty {P : Program} {w : World} {H : Hp} (h : Heap) (hb : sysModules < h.objs.size) : ObjOk P w H (h.push { cls := .type "dict", data := .dict #[] }) h.objs.size (.dK []) :=
  ⟨Nat.zero_le _, beq_eq_false_iff_ne.mpr (Ne.symm (Nat.ne_of_lt hb)), [], .nil, Heap.DictOf.new h⟩
/-- {}, to be a dict of the kind that is wanted -/
def tDNewK : TE := fun _ H Q => ∀ p, H p = none → Q (.ref p) (upd H p (.dK []))
section
variable {X : Cx} {pos : Pos}
theorem pe_dnewK : PE X (.Dict [] [] pos) tDNewK := fun pins s σ H Q I h =>
  wpAny_Dict_empty ⟨.ref s.heap.objs.size, _, I.laid (a := s.heap.objs.size) (o := .dK []) (t' := s.toks) (fun _ _ q => Heap.get?_push_of_some _ q) (Nat.le_refl _) (dk_empty s.heap I.big), rfl, h _ (I.hok.fresh (Nat.le_refl _))⟩
end




/-! ### methods -/


section
variable {X : Cx} {pins : List (Addr × Obj)} {σ : St} {H : Hp} {s : Shared} {a : Addr} {y d : V} {u r : Value} {o : Option V} {A : Around} {E : Value → Shared → Prop}
end

section
variable {X : Cx} {o e f : Expr} {apos cpos : Pos} {td ty tx : TE}
end

/-! ### dict(d): a copy -/
section
variable {X : Cx} {pins : List (Addr × Obj)} {σ : St} {H : Hp} {s : Shared} {a : Addr} {kvs : List (Key × V)} {A : Around} {E : Value → Shared → Prop}
end


section
variable {X : Cx} {pins : List (Addr × Obj)} {σ : St} {H : Hp} {s : Shared} {a : Addr} {y : V} {u : Value} {A : Around} {E : Value → Shared → Prop}
end
end L2

namespace L2
open PySem PySem.Spec PyProof.Rows
section
variable {X : Cx}
end
/-! ### a dict's pairs: keys that differ -/
section
variable {κ : Type} [DecidableEq κ]
end
end L2
namespace My
open PySem L2 PyProof.Rows
theorem small1000' {n : Nat} (h : n ≤ 100000) : n < sizeLine := by rw [sizeLine_eq]; omega
end My
namespace My
end My
/-! Exceptions that pass a comprehension: noted there, then in flight in the same frame. -/
namespace Xc
open PySem
section
variable {M : Model} {A : Around} {E : Value → Shared → Prop} {s : Shared}
/-- noteFrame where a note T stands: in flight here already, or another's -/
theorem note_any {base : Heap} {env : Env} {outer : List Env} {L e T : Addr} {cls fl : Value} {od : Option Addr} {sl : Array (Option Value)} {vs : Array Value} {Q : Unit → Shared → Prop}
    (hfr : A.frames = some (env :: outer)) (hl : s.heap.FunFrames base (env :: outer)) (hf : env.frame = some L) (hx : Exc s.heap e cls od sl vs)
    (h1 : vs[1]? = some (.ref T)) (hTe : T ≠ e) (ht : Tb s.heap T fl) (h0 : fl = rawInt L → Q () s)
    (h : ∀ h' T', (∀ b o, b ∉ (env :: outer).filterMap (·.frame) → b ≠ e → b ≠ T → s.heap.get? b = some o → h'.get? b = some o) →
      (∀ b o, b ≠ e → b ≠ T → s.heap.get? b = some o → ∃ k, h'.get? b = some { o with slots := k }) →
      s.heap.objs.size ≤ T' → Exc h' e cls od sl (vs.setIfInBounds 1 (.ref T')) → Tb h' T' (rawInt L) → Q () { s with heap := h' }) :
    wpAny M A (noteFrame (.ref e) env) Q E s := by
  obtain ⟨oT, ts, hT, hdT, h3⟩ := ht.ex
  unfold noteFrame
  simp only [hf]
  refine wpAny_bind (wpAny_field hx.obj rfl h1 ?_)
  rw [if_pos (show (Value.ref T != Value.none) = true from by simp)]
  refine wpAny_bind (wpAny_field hT hdT h3 ?_)
  by_cases hq : fl = rawInt L
  · rw [if_pos (show (fl == rawInt L) = true from by rw [hq]; exact beq_self_eq_true _)]
    exact wpAny_pure (h0 hq)
  · rw [if_neg (show ¬ ((fl == rawInt L) = true) from fun z => hq (eq_of_beq z))]
    refine wpAny_bind (wpAny_setField hT hdT (Array.getElem?_eq_some_iff.mp h3).1 ?_)
    have oth : ∀ b, b ≠ T → (s.heap.update T (Obj.mapFields (·.setIfInBounds 3 Value.none))).get? b = s.heap.get? b := fun b hb => Heap.get?_update_other _ _ (Ne.symm hb)
    refine entry_new (base := base) (had := true) hfr (hl.of_keeps fun b o hb hn => ?_) hf ⟨(oth e (Ne.symm hTe)).trans hx.obj, hx.big⟩ fun h' T' k1 k2 k3 k4 k5 => h h' T' (fun b o b1 b2 b3 q => ?_) (fun b o b2 b3 q => ?_) (by simpa using k3) k4 k5
    · have bT : b ≠ T := fun z => by
        rw [z, hT] at hb
        cases hb
        exact hn ts hdT
      exact ⟨o, (oth b bT).trans hb, rfl⟩
    · exact k1 b o b1 b2 ((oth b b3).trans q)
    · exact k2 b o b2 ((oth b b3).trans q)
/-- setFlight e fr -/
theorem flight {e T : Addr} {fr : Option Addr} {cls : Value} {od : Option Addr} {sl : Array (Option Value)} {vs : Array Value} {fl : Value} {Q : Unit → Shared → Prop} (hx : Exc s.heap e cls od sl vs) (h1 : vs[1]? = some (.ref T)) (ht : Tb s.heap T fl)
    (h : ∀ h', (∀ b o, b ≠ T → s.heap.get? b = some o → h'.get? b = some o) → (∃ fl', Tb h' T fl') → Q () { s with heap := h' }) : wpAny M A (setFlight (.ref e) fr) Q E s := by
  obtain ⟨oT, ts, hT, hdT, h3⟩ := ht.ex
  have hz : 3 < ts.size := (Array.getElem?_eq_some_iff.mp h3).1
  unfold setFlight
  refine wpAny_bind (wpAny_field hx.obj rfl h1 ?_)
  rw [if_pos (show (Value.ref T != Value.none) = true from by simp)]
  refine wpAny_setField hT hdT hz (h _ (fun b o hb q => (Heap.get?_update_other _ _ (Ne.symm hb)).trans q) ⟨fr.elim .none fun f => rawInt f, ⟨⟨_, _, map_at hT hdT, rfl, ?_⟩⟩⟩)
  rw [Array.getElem?_setIfInBounds_self_of_lt hz]
end
end Xc
namespace L2
open PySem PySem.Spec PyProof.Rows
/-- one that is noted already leaves this body -/
def RaisesF (X : Cx) (E : XK) : Prop := ∀ (pins : List (Addr × Obj)) (σ : St) (H : Hp) (s : Shared) (ea T : Addr) (cls fl : Value) (od : Option Addr) (sl : Array (Option Value)) (vs : Array Value), Inv X pins σ H s → Xc.Exc s.heap ea cls od sl vs →
  vs[1]? = some (.ref T) → T ≠ ea → vs[2]? = some .none → Xc.Tb s.heap T fl → H ea = none → H T = none → X.s₀.heap.objs.size ≤ ea → X.s₀.heap.objs.size ≤ T → E cls od H → X.xe (.ref ea) s
section
variable {P : Program} {w : World} {K : PySem.W.Frag} {mg : Str → Option Value} {base : Heap} {N : List Str} {qual : Str} {scope : Scope} {f : Addr} {cd : Value} {A : Around} {outer : List Env} {s : Shared} {H : Hp} {E : XK}
theorem raisesF : RaisesF (cxOf (CXe P w) P w K mg base N qual scope f cd A outer s H E) E := by
  intro pins σ H' s' ea T cls fl od sl vs I ex hv1 hTe hv2 tb n1 n2 m1 m2 q
  have hst : s'.heap.FunFrames base (envOfC qual scope s.heap.objs.size f cd :: outer) := I.stack
  have hfr : (A.deeper (envOfC qual scope s.heap.objs.size f cd)).frames = some (envOfC qual scope s.heap.objs.size f cd :: outer) := I.ok.frames
  have sfree : ∀ b ∈ (envOfC qual scope s.heap.objs.size f cd :: outer).filterMap (·.frame), H' b = none := I.stkFree
  have sub : ∀ b ∈ (envOfC qual scope s.heap.objs.size f cd :: outer).filterMap (·.frame), b ∈ s.heap.objs.size :: frs outer := I.stkSub
  have bs := I.base
  have m1 : s.heap.objs.size ≤ ea := m1
  have m2 : s.heap.objs.size ≤ T := m2
  have ne1 : ∀ b o, s.heap.get? b = some o → b ≠ ea := fun b o e z => by rw [z, Heap.get?_none_of_le m1] at e; cases e
  have ne2 : ∀ b o, s.heap.get? b = some o → b ≠ T := fun b o e z => by rw [z, Heap.get?_none_of_le m2] at e; cases e
  show wpAny (model P w) (A.deeper (envOfC qual scope s.heap.objs.size f cd)) (leaving (envOfC qual scope s.heap.objs.size f cd) (.ref ea)) (fun _ s'' => CXe P w outer H s E (.ref ea) s'') (fun e' s'' => CXe P w outer H s E e' s'') s'
  unfold leaving
  -- behind the note
  have fin : ∀ (h1 : Heap) (T1 : Addr) (vs1 : Array Value) (fl1 : Value), (∀ b o, b ∉ (envOfC qual scope s.heap.objs.size f cd :: outer).filterMap (·.frame) → b ≠ ea → b ≠ T → s'.heap.get? b = some o → h1.get? b = some o) →
      (∀ b o, b ≠ ea → b ≠ T → s'.heap.get? b = some o → ∃ k, h1.get? b = some { o with slots := k }) → s.heap.objs.size ≤ T1 → H' T1 = none → Xc.Exc h1 ea cls od sl vs1 → vs1[1]? = some (.ref T1) → vs1[2]? = some .none → T1 ≠ ea → Xc.Tb h1 T1 fl1 →
      wpAny (model P w) (A.deeper (envOfC qual scope s.heap.objs.size f cd)) (setFlight (.ref ea) none) (fun _ s'' => CXe P w outer H s E (.ref ea) s'') (fun e' s'' => CXe P w outer H s E e' s'') { s' with heap := h1 } := by
    intro h1 T1 vs1 fl1 k1 k2 k4 kf k5 hv1' hv2' hTe' k6
    refine Xc.land k5 hv1' hTe' k6 fun h2 g1 g2 => ?_
    have ne3 : ∀ b o, s.heap.get? b = some o → b ≠ T1 := fun b o e z => by rw [z, Heap.get?_none_of_le k4] at e; cases e
    have kept : ∀ b o, s.heap.get? b = some o → s'.heap.get? b = some o → b ∉ frs outer → h2.get? b = some o := fun b o e0 e hb => by
      refine g1 b o (ne3 b o e0) (k1 b o (fun z => ?_) (ne1 b o e0) (ne2 b o e0) e)
      rcases List.mem_cons.mp (sub b z) with y | y
      · rw [y] at e0
        exact absurd (Heap.lt_size e0) (Nat.lt_irrefl _)
      · exact hb y
    refine ⟨ea, T1, cls, od, sl, _, H', rfl, I.os, I.bare, ⟨fun b o e n hb hx => ?_, fun b o e n hb hx => ?_, fun b o e n hx => bs.free b o e n (by show b ∉ ([] : List Addr); simp), fun b o e hx => ?_, bs.tups, bs.frzs, bs.tbls⟩, ?_, n1, kf, m1, k4, ⟨g1 _ _ hTe'.symm k5.obj, k5.big⟩, hv1', hTe', hv2', g2, q⟩
    · exact kept b o e (bs.keep b o e n hb (by show b ∉ ([] : List Addr); simp)) hb
    · obtain ⟨k0, e0⟩ := bs.slot b o e n hb (by show b ∉ ([] : List Addr); simp)
      obtain ⟨k, z⟩ := k2 b _ (ne1 b o e) (ne2 b o e) e0
      exact ⟨k, g1 b _ (ne3 b o e) z⟩
    · obtain ⟨o', e1⟩ := bs.there b o e (by show b ∉ ([] : List Addr); simp)
      obtain ⟨k, z⟩ := k2 b o' (ne1 b o e) (ne2 b o e) e1
      exact ⟨_, g1 b _ (ne3 b o e) z⟩
    · refine hok_kept I.hok fun b o u hu e => g1 b o (fun z => by rw [z, kf] at hu; cases hu) (k1 b o (fun z => by rw [sfree b z] at hu; cases hu) (fun z => by rw [z, n1] at hu; cases hu) (fun z => by rw [z, n2] at hu; cases hu) e)
  refine wpAny_bind (Xc.note_any hfr hst rfl ex hv1 hTe tb (fun hq => ?_) fun h1 T1 k1 k2 k4 k5 k6 => ?_)
  · exact fin s'.heap T vs fl (fun b o _ _ _ e => e) (fun b o _ _ e => ⟨o.slots, e⟩) m2 n2 ex hv1 hv2 hTe tb
  · refine fin h1 T1 _ _ k1 k2 (Nat.le_trans I.sz k4) (I.hok.fresh k4) k5 (by simp [Nat.lt_of_succ_lt ex.big]) (by rw [Array.getElem?_setIfInBounds_ne (by decide)]; exact hv2) (Nat.ne_of_gt (Nat.lt_of_lt_of_le (Heap.lt_size ex.obj) k4)) k6
end
section
variable {X : Cx} {K : PySem.W.Frag} {pins : List (Addr × Obj)} {σ : St} {H : Hp} {s : Shared}
/-- a call's exception, noted in this frame -/
theorem noted {M : Model} {A : Around} {XE : Value → Shared → Prop} {R : Unit → Shared → Prop} {E : XK} {ev : Value} {s1 s' : Shared} {H1 : Hp} (I : Inv X pins σ H1 s1) (hx : CXe X.prog X.w X.stack H1 s1 E ev s') (hfr : A.frames = some X.stack) (hs : X.stack = X.env :: X.outer) (hl : X.env.frame = some X.env.locals)
    (k : ∀ (ea T : Addr) (cls fl : Value) (od : Option Addr) (sl : Array (Option Value)) (vs : Array Value) (H' : Hp) (s3 : Shared), ev = .ref ea → Inv X pins σ H' s3 → Xc.Exc s3.heap ea cls od sl vs → vs[1]? = some (.ref T) → T ≠ ea → vs[2]? = some .none → Xc.Tb s3.heap T fl →
      H' ea = none → H' T = none → s1.heap.objs.size ≤ ea → s1.heap.objs.size ≤ T → E cls od H' → (∀ b o, s1.heap.get? b = some o → H1 b = none → b ∉ frs X.stack → s3.heap.get? b = some o ∧ H' b = none) → R () s3) :
    wpAny M A (noteFrame ev X.env) R XE s' := by
  obtain ⟨ea, T, cls, od, sl, vs, H', rfl, ho, hb, hu, hok, n1, n2, m1, m2, ex, v1, ne, v2, tb, q⟩ := hx
  have I' := I.call' (ch := []) ho hu hok hb (fun _ z => nomatch z)
  have hst : s'.heap.FunFrames X.base (X.env :: X.outer) := by rw [← hs]; exact I'.stack
  have sfree : ∀ b ∈ (X.env :: X.outer).filterMap (·.frame), H' b = none := by
    have z := I'.stkFree
    rw [hs] at z
    exact z
  have hfs : frs X.stack = (X.env :: X.outer).filterMap (·.frame) := by rw [hs]; rfl
  have new1 : ∀ b o, s1.heap.get? b = some o → b ≠ ea := fun b o e z => by rw [z, Heap.get?_none_of_le m1] at e; cases e
  have newT : ∀ b o, s1.heap.get? b = some o → b ≠ T := fun b o e z => by rw [z, Heap.get?_none_of_le m2] at e; cases e
  have fin : ∀ (h1 : Heap) (T1 : Addr) (vs1 : Array Value) (fl1 : Value), (∀ b o, b ∉ (X.env :: X.outer).filterMap (·.frame) → b ≠ ea → b ≠ T → s'.heap.get? b = some o → h1.get? b = some o) →
      (∀ b o, b ≠ ea → b ≠ T → s'.heap.get? b = some o → ∃ k, h1.get? b = some { o with slots := k }) → s1.heap.objs.size ≤ T1 → H' T1 = none → Xc.Exc h1 ea cls od sl vs1 → vs1[1]? = some (.ref T1) → vs1[2]? = some .none → T1 ≠ ea → Xc.Tb h1 T1 fl1 → R () { s' with heap := h1 } := by
    intro h1 T1 vs1 fl1 k1 k2 k4 kf k5 hv1' hv2' hTe' k6
    have hok2 : HOk X.prog X.w H' h1 := hok_kept hok fun b o u hu e => k1 b o (fun z => by rw [sfree b z] at hu; cases hu) (fun z => by rw [z, n1] at hu; cases hu) (fun z => by rw [z, n2] at hu; cases hu) e
    have u2 : Un (frs X.stack) [] H1 H' s1.heap h1 := by
      refine ⟨fun b o e n hb hx => ?_, fun b o e n hb hx => ?_, hu.free, fun b o e hx => ?_, hu.tups, hu.frzs, hu.tbls⟩
      · exact k1 b o (by rw [← hfs]; exact hb) (new1 b o e) (newT b o e) (hu.keep b o e n hb hx)
      · obtain ⟨k0, e0⟩ := hu.slot b o e n hb hx
        obtain ⟨k, z⟩ := k2 b _ (new1 b o e) (newT b o e) e0
        exact ⟨k, z⟩
      · obtain ⟨o', e1⟩ := hu.there b o e hx
        obtain ⟨k, z⟩ := k2 b o' (new1 b o e) (newT b o e) e1
        exact ⟨_, z⟩
    have I2 : Inv X pins σ H' { s' with heap := h1 } := I.call' (s' := { s' with heap := h1 }) (ch := []) ho u2 hok2 hb (fun _ z => nomatch z)
    exact k ea T1 cls fl1 od sl vs1 H' _ rfl I2 k5 hv1' hTe' hv2' k6 n1 kf m1 k4 q fun b o e n hb => ⟨u2.keep b o e n hb (by simp), u2.free b o e n (by simp)⟩
  refine Xc.note_any (base := X.base) (hfr.trans (by rw [hs])) hst hl ex v1 ne tb (fun hq => ?_) fun h1 T1 k1 k2 k4 k5 k6 => ?_
  · exact fin s'.heap T vs .none (fun b o _ _ _ e => e) (fun b o _ _ e => ⟨o.slots, e⟩) m2 n2 ex v1 v2 ne tb
  · refine fin h1 T1 _ _ k1 k2 ?_ (I'.hok.fresh k4) k5 (by simp [Nat.lt_of_succ_lt ex.big]) (by rw [Array.getElem?_setIfInBounds_ne (by decide)]; exact v2) (Nat.ne_of_gt (Nat.lt_of_lt_of_le (Heap.lt_size ex.obj) k4)) k6
    obtain ⟨oT, _, e, _⟩ := tb.ex
    exact Nat.le_trans m2 (Nat.le_trans (Nat.le_of_lt (Heap.lt_size e)) k4)
end
end L2
/-! A comprehension whose element may raise. -/
namespace L2
open PySem PySem.Spec PyProof.Rows
/-- an exception of a call made within the block -/
def XIn (X : Cx) (scope : Scope) (N' : List Str) (C : Addr) (s2 : Shared) (H2 : Hp) (fp : List Addr) (E : XK) : Value → Shared → Prop := fun e s' =>
  ∃ pins' σ' H1 s1, Inv (compCx X scope N' C s2 H2 fp fun _ _ => False) pins' σ' H1 s1 ∧ CXe X.prog X.w X.stack H1 s1 E e s'
abbrev compX (X : Cx) (scope : Scope) (N' : List Str) (E : XK) (C : Addr) (s2 : Shared) (H2 : Hp) (fp : List Addr) : Cx := compCx X scope N' C s2 H2 fp (XIn X scope N' C s2 H2 fp E)
section
variable {X : Cx} {K : PySem.W.Frag} {pins : List (Addr × Obj)} {σ : St} {H : Hp} {s : Shared}
theorem passC {scope : Scope} {N' : List Str} {E : XK} {C : Addr} {s2 : Shared} {H2 : Hp} {fp : List Addr} : Passes (CXe X.prog X.w) (compX X scope N' E C s2 H2 fp) E := by
  intro pins' σ' H1 s1 e s' I hx
  exact ⟨pins', σ', H1, s1, I.wish (fun _ _ => False), hx⟩
def CompEndE (X : Cx) (pins : List (Addr × Obj)) (σ : St) (Q : VK) (E : XK) (acc : Value) (C : Addr) (r : Result) (s' : Shared) : Prop :=
  match r with
  | .ok _ => ∃ p H' m, acc = .ref p ∧ Inv X pins σ H' s' ∧ FpOk X pins H' C ∧ s'.heap.Ns C m ∧ Q (.ref p) H'
  | .error e => ∃ (ea T : Addr) (cls fl : Value) (od : Option Addr) (sl : Array (Option Value)) (vs : Array Value) (H' : Hp) (m : Str → Option Value), e = .ref ea ∧ Inv X pins σ H' s' ∧ Xc.Exc s'.heap ea cls od sl vs ∧ vs[1]? = some (.ref T) ∧ T ≠ ea ∧ vs[2]? = some .none ∧ Xc.Tb s'.heap T fl ∧
      FpOk X pins H' ea ∧ FpOk X pins H' T ∧ FpOk X pins H' C ∧ X.s₀.heap.objs.size ≤ ea ∧ X.s₀.heap.objs.size ≤ T ∧ ea ≠ C ∧ T ≠ C ∧ s'.heap.Ns C m ∧ E cls od H'
theorem comp_coreE {elt tg iter : Expr} {ifs : List Expr} {scope : Scope} {pos : Pos} {N' : List Str} {cap : List (Option Nat)} {wi : TI} {g : TG} {tst : TT} {te : TE} {Q : VK} {E : XK} (hc : X.calm = true) (hs : X.stack = X.env :: X.outer) (hl : X.env.frame = some X.env.locals) (S : CSc X scope N' cap) (hi : PI X tg iter wi)
    (hg : ∀ C s2 H2 fp, PG (compX X scope N' E C s2 H2 fp) tg g) (ht : ∀ C s2 H2 fp, PIfs (compX X scope N' E C s2 H2 fp) ifs tst)
    (he : ∀ C s2 H2 fp, PE (compX X scope N' E C s2 H2 fp) elt te) (I : Inv X pins σ H s) (h : tComp wi cap g tst te σ H Q) :
    wpAny (model X.prog X.w) X.A (eval iter X.env) (fun x s1 => wpAny (model X.prog X.w) X.A (pyIter x) (fun it s2 => wpAny (model X.prog X.w) X.A (newList []) (fun acc s3 =>
      wpAny (model X.prog X.w) X.A (newFunctionEnv scope X.env.globals (compCl X.env scope.names []) [] X.env.qual none .none (some X.env)) (fun cenv s4 =>
        codeAny (model X.prog X.w) X.A (.compStart (.ListComp elt [⟨tg, iter, ifs, 0⟩] scope pos) 0 it acc { cenv with scope := relabel scope X.env }) (CompEndE X pins σ Q E acc cenv.locals) s4) X.xe s3) X.xe s2) X.xe s1) X.xe s := by
  refine thn (hi pins s σ H _ I h) fun v s1 h1 => thn h1 fun itv s2 h2 => ?_
  obtain ⟨it, fp, tn, J, H2, e, I2, T, st2, f2, q⟩ := h2
  subst e
  have ho : ∀ b ∈ fp, b < s2.heap.objs.size := fun b hb => by
    obtain ⟨o, e, _⟩ := T.obj _ _ st2 b hb
    exact Heap.lt_size e
  refine wpAny_newObj_type (wpAny_newFunctionEnv S.nocell (by intro y hy; simp at hy) (fun hp1 hns1 hsb1 => ?_) S.kind)
  have hDn : s2.heap.objs.size ≠ (s2.heap.push { cls := .type "list", dict := none, data := .seq ([] : List Value).toArray }).objs.size := by rw [Heap.size_push]; exact Nat.ne_of_lt (Nat.lt_succ_self _)
  have hCle : s2.heap.objs.size ≤ (s2.heap.push { cls := .type "list", dict := none, data := .seq ([] : List Value).toArray }).objs.size := by rw [Heap.size_push]; exact Nat.le_succ _
  have old : ∀ b o, s2.heap.get? b = some o → hp1.get? b = some o := fun b o e =>
    hsb1.extBut b o (Nat.ne_of_lt (Nat.lt_of_lt_of_le (Heap.lt_size e) hCle)) (Heap.get?_push_of_some _ (Heap.get?_push_of_some _ e))
  have hacc : hp1.get? s2.heap.objs.size = some { cls := .type "list", data := .seq #[] } := hsb1.extBut _ _ hDn (Heap.get?_push_of_some _ (Heap.get?_push_size _ rfl))
  let X' : Cx := compX X scope N' E (s2.heap.push { cls := .type "list", dict := none, data := .seq ([] : List Value).toArray }).objs.size s2 H2 fp
  obtain ⟨W, ⟨m0, w0⟩, turn⟩ := q s2.heap.objs.size (I2.hok.fresh (Nat.le_refl _))
  have J0 : Inv X' [] (capS cap σ) (upd H2 s2.heap.objs.size (.lst [])) { s2 with heap := hp1, toks := s2.toks + ([] : List (Str × Value)).length } := I2.compStart S (Nat.le_refl _) hCle hDn f2 ho old hacc hns1
  have stat : ∀ {H' : Hp}, (∀ b ∈ fp, H' b = none) → ∀ b ∈ fp, FpOk X' [] H' b := fun hn b hb => by
    obtain ⟨_, g1, g2, g3, g4, g5⟩ := f2 b hb
    refine ⟨hn b hb, Nat.ne_of_lt (Nat.lt_of_lt_of_le (ho b hb) hCle), J0.ok.exfs b hb, .inl hb, fun x c e => g4 x c (I2.clLook S e), fun p hp => absurd (show p ∈ ([] : List (Addr × Obj)) from hp) (by simp)⟩
  have fr0 : ∀ b ∈ fp, upd H2 s2.heap.objs.size (.lst []) b = none := fun b hb => by rw [upd_ne (Nat.ne_of_lt (ho b hb))]; exact (f2 b hb).1
  have loop : codeAny (model X.prog X.w) X.A (.compLoop (.ListComp elt [⟨tg, iter, ifs, 0⟩] scope pos) 0 (.ref it) (.ref s2.heap.objs.size) X'.env)
      (CompEndE X pins σ Q E (.ref s2.heap.objs.size) (s2.heap.push { cls := .type "list", dict := none, data := .seq ([] : List Value).toArray }).objs.size) { s2 with heap := hp1, toks := s2.toks + ([] : List (Str × Value)).length } := by
    refine comp_loop rfl (fun n s' => ∃ i σ' H', Inv X' [] σ' H' s' ∧ tn i s'.heap ∧ (∀ b ∈ fp, H' b = none) ∧ W i n σ' H') ?_ m0 ⟨0, _, _, J0, T.keep _ _ _ st2 fun b _ o e => old b o e, fr0, w0⟩
    rintro n s3 ⟨i, σ3, H3, I3, st3, fr3, w3⟩
    have no : ∀ (e : Value) (s' : Shared), X'.xe e s' → notedBy (model X.prog X.w) X.A X'.env (fun e s' => CompEndE X pins σ Q E (.ref s2.heap.objs.size) (s2.heap.push { cls := .type "list", dict := none, data := .seq ([] : List Value).toArray }).objs.size (.error e) s') e s' := by
      rintro e s' ⟨pins', σ', H1, s1', J, hx⟩
      have I1 : Inv X pins σ H1 s1' := I2.compBack f2 J
      obtain ⟨mC, hmC, _⟩ := id J.loc
      obtain ⟨oC, esC, epC, hoC, rC⟩ := hmC
      show wpAny (model X.prog X.w) X.A (noteFrame e X.env) _ _ s'
      refine noted I1 hx I.ok.frames hs hl fun ea T' cls fl od sl vs H' s3' ee I3' ex hv1 hTe hv2 tb n1 n2 m1 m2 qE kept => ?_
      subst ee
      have fC : ∀ {H'' : Hp}, H'' (s2.heap.push { cls := .type "list", dict := none, data := .seq ([] : List Value).toArray }).objs.size = none → FpOk X pins H'' _ := fun z => I2.fpOk hCle z
      have nC : (s2.heap.push { cls := .type "list", dict := none, data := .seq ([] : List Value).toArray }).objs.size ∉ frs X.stack := by
        rw [hs]
        intro z
        have z' : _ ∈ (X.env :: X.outer).filterMap (·.frame) := z
        rw [List.filterMap_cons, hl] at z'
        rcases List.mem_cons.mp z' with y | y
        · exact (fC (H'' := fun _ => none) rfl).2.1 y
        · exact (fC (H'' := fun _ => none) rfl).2.2.1 y
      obtain ⟨kC, kH⟩ := kept _ oC hoC J.free nC
      have ltC := Heap.lt_size hoC
      exact ⟨ea, T', cls, fl, od, sl, vs, H', mC, rfl, I3', ex, hv1, hTe, hv2, tb, I1.fpOk m1 n1, I1.fpOk m2 n2, fC kH, Nat.le_trans I1.sz m1, Nat.le_trans I1.sz m2, Nat.ne_of_gt (Nat.lt_of_lt_of_le ltC m1), Nat.ne_of_gt (Nat.lt_of_lt_of_le ltC m2), ⟨oC, esC, epC, kC, rC⟩, qE⟩
    rcases turn i n σ3 H3 w3 with ⟨stop, qn⟩ | ⟨go, N, hN, step⟩
    · refine wpAny_mono (T.done X' rfl rfl rfl hc i [] s3 σ3 H3 X'.xe I3 (stat fr3) st3 stop) (fun r s4 ⟨hr, I4⟩ => ?_) no
      subst hr
      obtain ⟨mC, hmC, _⟩ := I4.loc
      exact ⟨_, H3, mC, rfl, I2.compBack f2 I4, I2.fpOk hCle I4.free, hmC, qn⟩
    · refine wpAny_mono (T.item X' rfl rfl rfl hc i [] s3 σ3 H3 X'.xe I3 (stat fr3) st3 go) (fun r s4 ⟨u, hr, h4⟩ => ?_) no
      subst hr
      refine wpAny_mono h4 (fun _ s5 ⟨x, H5, I5, r5, y5, st5, fr5⟩ => ?_) no
      have I5' := I5.pinned (stat fr5) (T.obj _ _ st5)
      refine wpAny_mono (hg _ _ _ _ _ s5 σ3 H5 x u _ I5' r5 (step x H5 y5)) (fun _ s6 ⟨σ6, H6, I6, q6⟩ => ?_) no
      refine wpAny_mono (ht _ _ _ _ _ s6 σ6 H6 _ I6 q6) (fun ok s7 ⟨H7, I7, q7⟩ => ?_) no
      have again : ∀ {σ7 : St} {H7 : Hp} {s7 : Shared}, Inv X' ([] ++ pinsAt fp s5.heap) σ7 H7 s7 → N σ7 H7 → ∃ m, m < n ∧ ∃ i σ' H', Inv X' [] σ' H' s7 ∧ tn i s7.heap ∧ (∀ b ∈ fp, H' b = none) ∧ W i m σ' H' := fun {σ7 H7 s7} I7 n7 => by
        obtain ⟨m', hm, w7⟩ := hN σ7 H7 n7
        refine ⟨m', hm, i + 1, σ7, H7, I7.unpinned, T.keep _ _ _ st5 fun b hb o e => (I7.pin (b, o) (List.mem_append_right _ (List.mem_append_right _ (mem_pinsAt hb e)))).1, fun b hb => ?_, w7⟩
        obtain ⟨o, e, d⟩ := T.obj _ _ st5 b hb
        exact (I7.pin (b, o) (List.mem_append_right _ (List.mem_append_right _ (mem_pinsAt hb e)))).2.1
      cases ok with
      | false => exact again I7 q7
      | true =>
        refine wpAny_mono (he _ _ _ _ _ s7 σ6 H7 _ I7 q7) (fun y s8 ⟨z, H8, I8, r8, xs, e8, l8, q8⟩ => ?_) no
        refine wpAny_mono (mt_append (X := X') _ s8 σ6 H8 (.ref s2.heap.objs.size) [z] (.ref s2.heap.objs.size) [y] (fun _ H9 => N σ6 H9) I8 rfl (.cons r8 .nil) ⟨_, xs, z, rfl, rfl, e8, l8, q8⟩) (fun _ s9 ⟨_, H9, I9, _, q9⟩ => ?_) no
        exact again I9 q9
  exact codeAny_compStart_list loop (T.self _ 0 _ _ _ (T.keep _ _ _ st2 fun b _ o e => old b o e) loop)
/-- [elt for tg in iter (if test)], what elt raises passes on -/
theorem pe_compE {elt tg iter : Expr} {ifs : List Expr} {scope : Scope} {pos : Pos} {N' : List Str} {cap : List (Option Nat)} {wi : TI} {g : TG} {tst : TT} {te : TE} {E : XK} (hc : X.calm = true) (hst : X.stack = X.env :: X.outer) (hl : X.env.frame = some X.env.locals) (hF : RaisesF X E) (S : CSc X scope N' cap) (hi : PI X tg iter wi)
    (hg : ∀ C s2 H2 fp, PG (compX X scope N' E C s2 H2 fp) tg g) (ht : ∀ C s2 H2 fp, PIfs (compX X scope N' E C s2 H2 fp) ifs tst)
    (he : ∀ C s2 H2 fp, PE (compX X scope N' E C s2 H2 fp) elt te) (hs : ∀ x, foldedSetIterable iter X.env x = pure x := by intro _; rfl) :
    PE X (.ListComp elt [⟨tg, iter, ifs, 0⟩] scope pos) (tComp wi cap g tst te) := by
  intro pins s σ H Q I h
  rw [eval_ListComp]
  refine wpAny_comprehension_free (use := none) rfl hs (closure_eq (I.cellOf S)) S.kind S.names (thn (comp_coreE (Q := Q) hc hst hl S hi hg ht he I h) fun xv s1 h1 => thn h1 fun it s2 h2 => thn h2 fun acc s3 h3 => thn h3 fun cenv s4 h4 => codeAny_mono h4 fun r s5 h5 => ?_)
  cases r with
  | error e =>
    obtain ⟨ea, T, cls, fl, od, sl, vs, H', m, rfl, I', ex, hv1, hTe, hv2, tb, fE, fT, fC, le, lT, nEC, nTC, hn, qE⟩ := h5
    refine ⟨m, hn, fun h' sb cenv' ec => ?_⟩
    have ex' : Xc.Exc h' ea cls od sl vs := ⟨sb.extBut _ _ nEC ex.obj, ex.big⟩
    have tb' : Xc.Tb h' T fl := by
      obtain ⟨oT, ts, e1, e2, e3⟩ := tb.ex
      exact ⟨⟨oT, ts, sb.extBut _ _ nTC e1, e2, e3⟩⟩
    have I6 : Inv X pins σ H' { s5 with heap := h' } := I'.turned (t' := s5.toks) (fun b o hb e => sb.extBut b o hb e) fC.1 fC.2.1 fC.2.2.2.1 fC.2.2.2.2.1 fC.2.2.2.2.2
    unfold PySem.passOn
    refine wpAny_bind (wpAny_field ex'.obj rfl hv1 ?_)
    rw [if_neg (show ¬ ((Value.ref T == Value.none) = true) from by simp)]
    refine wpAny_bind (Xc.flight (s := { s5 with heap := h' }) ex' hv1 tb' fun h2 g1 g2 => wpAny_throw ?_)
    obtain ⟨fl', tb2⟩ := g2
    have I7 : Inv X pins σ H' { s5 with heap := h2 } := I6.turned (t' := s5.toks) (fun b o hb e => g1 b o hb e) fT.1 fT.2.1 fT.2.2.2.1 fT.2.2.2.2.1 fT.2.2.2.2.2
    exact hF pins σ H' _ ea T cls fl' od sl vs I7 ⟨g1 _ _ hTe.symm ex'.obj, ex.big⟩ hv1 hTe hv2 tb2 fE.1 fT.1 le lT qE
  | ok fl =>
    obtain ⟨p, H', m, rfl, I', F', hn, q⟩ := h5
    refine ⟨m, hn, fun h' sb => ⟨.ref p, H', ?_, rfl, q⟩⟩
    exact I'.turned (t' := s5.toks) (fun b o hb e => sb.extBut b o hb e) F'.1 F'.2.1 F'.2.2.2.1 F'.2.2.2.2.1 F'.2.2.2.2.2
end
end L2
/-! raise C(..) of an own class that has no __init__ of its own. -/
namespace Xc
open PySem
section
variable {prog : Program} {w : World} {A : Around} {E : Value → Shared → Prop} {h : Heap} {g : Array GenState} {d : Drawn} {t : Nat} {os : OsState}
variable {nm q : Str} {C N : Addr} {bs bm bmB : List Value} {hdct : Bool} {sn : List Str} {sub : List Value} {ab : Bool} {col : Option Bool} {dd : Option Addr} {k0 k1 k2 k3 k5 : Option Value} {B newId initId : String}
theorem made0 (F : ExcBaseFacts B newId initId bmB) (T : OwnTail h bmB bm) {mN : Str → Option Value} {rest : List Value} {Q : PySem.Fin → Shared → Prop}
    (hC : h.get? C = some (excClassObj nm q C N bs bm hdct sn sub ab col dd k0 k1 k2 k3 k5 newId)) (hn : h.Ns N mN) (hi : mN "__init__" = none)
    (hq : ∀ h' e, Heap.MadeExcOf h h' e (.ref C) rest → h.objs.size ≤ e → Q (.done (.ret (.ref e))) ⟨h', g, d, t, os⟩) (hrest : rest.length ≤ sizeLine) :
    wpAny (model prog w) A (Builtin.«type.__call__» ⟨.ref C :: rest, []⟩) Q E ⟨h, g, d, t, os⟩ := by
  repeat (first | with_reducible refine wpAny_loadPart_at hC ?_ | with_reducible refine wpAny_madeBy_exc hC ?_ | wp_step)
  refine codeAny_call_builtin_code (Code.quiet_builtin _ F.quiet) (wpAny_check_new_subT F T hC (codeAny_exc_new_subT F T hC ?_ hrest))
  show wpAny _ _ _ _ _ _
  have up : ∀ b o, h.get? b = some o → ((h.push { cls := .type "tuple", data := .seq rest.toArray }).push { cls := .ref C, data := .fields #[.ref h.objs.size, .none, .none, .none, .bool false, .none] }).get? b = some o := fun b o e => Heap.get?_push_of_some _ (Heap.get?_push_of_some _ e)
  have hget : ((h.push { cls := .type "tuple", data := .seq rest.toArray }).push { cls := .ref C, data := .fields #[.ref h.objs.size, .none, .none, .none, .bool false, .none] }).get? (h.objs.size + 1) = some { cls := .ref C, data := .fields #[.ref h.objs.size, .none, .none, .none, .bool false, .none] } := by heap_get
  have hcC : (Value.ref C :: bm).contains (.ref C) = true := by simp
  have hC1 := up _ _ hC
  have hn1 : ((h.push { cls := .type "tuple", data := .seq rest.toArray }).push { cls := .ref C, data := .fields #[.ref h.objs.size, .none, .none, .none, .bool false, .none] }).Ns N mN := let ⟨o, es, ep, e, r⟩ := hn; ⟨o, es, ep, up _ _ e, r⟩
  unfold isInstance
  repeat (first | with_reducible refine wpAny_loadPart_at hget ?_ | (with_reducible refine wpAny_isSubtype_exc hC1 ?_; rw [hcC]) | wp_step)
  show wpAny _ _ (typeLookup (.ref C) _) _ _ _
  refine wpAny_typeLookup_tail hC1 hn1 (T.keeps up) F.mroIs F.init.lookup ?_
  rw [hi]
  refine wpAny_holding (wpAny_bind (wpAny_of_eq (F.init.bind _) ?_))
  refine wpAny_bind (wpAny_call (codeAny_call_builtin F.init.plain F.initEntry (wpAny_check_init_subT F (T.keeps up) hC1 hget rfl ?_)))
  wp_walk
  refine hq _ _ ⟨fun b o hb => ?_, Heap.get?_none_of_le (Nat.le_succ _), h.objs.size + 2, ?_, Heap.get?_none_of_le (by omega), ?_⟩ (Nat.le_succ _)
  · rw [Heap.get?_update_other _ _ (Nat.ne_of_gt (Nat.lt_succ_of_lt (Heap.lt_size hb)))]
    exact Heap.get?_push_of_some _ (up b o hb)
  · rw [Heap.get?_update_self _ (Heap.get?_push_of_some _ hget) rfl]
    simp only [Heap.size_push]
    rfl
  · rw [Heap.get?_update_other _ _ (show h.objs.size + 1 ≠ h.objs.size + 2 by omega)]
    exact Heap.get?_push_at (by simp only [Heap.size_push]) rfl
theorem call0 (F : ExcBaseFacts B newId initId bmB) (T : OwnTail h bmB bm) {mN : Str → Option Value} {rest : List Value} {Q : Value → Shared → Prop}
    (hC : h.get? C = some (excClassObj nm q C N bs bm hdct sn sub ab col dd k0 k1 k2 k3 k5 newId)) (hn : h.Ns N mN) (hi : mN "__init__" = none)
    (hq : ∀ h' e, Heap.MadeExcOf h h' e (.ref C) rest → h.objs.size ≤ e → Q (.ref e) ⟨h', g, d, t, os⟩) (hrest : rest.length ≤ sizeLine) :
    wpAny (model prog w) A (call (.ref C) rest) Q E ⟨h, g, d, t, os⟩ := by
  have f1 := tc_lookup
  have f2 := tc_bind (.ref C)
  have hT : (⟨h, g, d, t, os⟩ : Shared).TypeIs (.ref C) "type" := ⟨_, hC, rfl⟩
  refine wpAny_call (codeAny_of_tree (?_ : wpAny _ _ (callAny (.ref C) _) _ _ _))
  repeat (any_goals (first | assumption | with_reducible refine wpAny_loadPart_at hC ?_ | wp_step))
  refine ⟨rfl, codeAny_call_builtin_at (Code.quiet_builtin _ (by decide +kernel)) entry_typeCall (wpAny_check_type_call_sub hC (made0 F T hC hn hi (fun h' e hm hs => ?_) hrest))⟩
  exact hq h' e hm hs
end
end Xc
namespace L2
open PySem PySem.Spec PyProof.Rows
theorem ns_none {K : PySem.W.Frag} {h : Heap} {N : Addr} {mg : Str → Option Value} {n : Str} (X : K.In h) (G : h.Ns N mg) (e : PySem.W.nsIn K N n = some none) : mg n = none := by
  obtain ⟨o, es, ep, ho, hd, _, hf⟩ := G
  unfold PySem.W.nsIn at e
  split at e
  · rename_i c d es' n' sl q
    have := X _ _ q
    rw [ho] at this
    cases this
    cases hd
    split at e
    · cases e
    · rename_i he
      rw [← hf]
      unfold nsFind findBy
      rw [← Array.find?_toList, he]
      rfl
  · cases e
/-- what the text says of such a class -/
structure X0 (K : PySem.W.Frag) (C : Addr) : Prop where
  x : xIn K C = true
  init : ((PySem.W.clsIn K C).bind fun cd => PySem.W.nsIn K cd.ns "__init__") = some none
  kp : PySem.W.keepIn K (.ref C) = true
section
variable {X : Cx} {k : Nat} {C : Addr} {E : XK} {x : Str} {p pos rpos : Pos} {e : Expr} {es : List Expr} {t : TA}
def sRaise0 (C : Addr) (E : XK) (t : TA) : TS := fun _ σ H => t σ H fun vs H1 => vs.length ≤ 1000 ∧ E (.ref C) none H1
theorem ps_raise0 (M : X0 X.K C) (hr : Room (k + 1) X.A) (hm : X.mg x = some (.ref C)) (hg : Gl X x) (hx : Raises X E)
    (ha : PA X (e :: es) t) (hdb : (x == ("__debug__" : Str)) = false := by decide) (he : starEach (e :: es) X.env = (false, eval e X.env) :: starEach es X.env := by rfl) (hpl : (backTo pos (starEach es X.env)).any (·.1) = false := by rfl) :
    PS X (.Raise (some (.Call (.Name x p) (e :: es) [] pos)) none rpos) (sRaise0 C E t) := by
  intro pins s σ H D I h
  obtain ⟨cd, hcd, ⟨nm, qn, bs, bm, hdct, sn, sub, ab, col, dd, k0, k1, k2, k3, k5, hCo, T, mN, hN⟩⟩ := xat_of I.kIn M.x
  obtain ⟨cd', hcd', hi⟩ := Option.bind_eq_some_iff.mp M.init
  rw [hcd] at hcd'; cases hcd'
  have hb2 : bm.contains (.type "BaseException") = true := T.hasType (by decide +kernel)
  rw [arm_exec_Raise]
  refine wpAny_bind (wpAny_standAt ?_)
  show wpAny _ _ (raiseStmt X.env (some (do let v ← eval (.Call (.Name x p) (e :: es) [] pos) X.env; standAt rpos; pure v)) none) _ _ _
  refine Xc.raise_made (C := C) (N := cd.ns) (nm := nm) (q := qn) (bs := bs) (bm := bm) (hdct := hdct) (sn := sn) (sub := sub) (ab := ab) (col := col) (dd := dd) (k0 := k0) (k1 := k1) (k2 := k2) (k3 := k3) (k5 := k5) (newId := "ValueError.__new__") hb2 hr.hd ?_
  refine wpAny_bind (thn (Q := fun v s1 => ∃ e od sl vs, v = .ref e ∧ s1.heap.get? C = some (excClassObj nm qn C cd.ns bs bm hdct sn sub ab col dd k0 k1 k2 k3 k5 "ValueError.__new__") ∧ Xc.Exc s1.heap e (.ref C) od sl vs ∧ vs[1]? = some .none ∧ X.xe (.ref e) s1) ?_ fun v s1 h1 => wpAny_bind (wpAny_standAt (wpAny_pure h1)))
  refine wpAny_Call_Name_kw (ld_glob I hg hm ?_ hdb)
  refine PySem.W.callWith_K (h₀ := X.base) I.ok.mod.kin M.kp (thn (ha pos pins s σ H _ I h) fun us s1 ⟨vs, H1, I1, r, hl, q⟩ => ⟨I1.kIn, ?_⟩) he hpl
  obtain ⟨cd2, hcd2, ⟨nm2, qn2, bs2, bm2, hdct2, sn2, sub2, ab2, col2, dd2, j0, j1, j2, j3, j5, hC1, T1, mN1, hN1⟩⟩ := xat_of I1.kIn M.x
  rw [hcd] at hcd2; cases hcd2
  have kC : s1.heap.get? C = some (excClassObj nm qn C cd.ns bs bm hdct sn sub ab col dd k0 k1 k2 k3 k5 "ValueError.__new__") := by
    have hK : ∃ o, X.K.lookup C = some o := by
      unfold PySem.W.clsIn at hcd
      split at hcd
      · rename_i z; exact ⟨_, z⟩
      · cases hcd
    obtain ⟨o, hK⟩ := hK
    have e1 := I.kIn C o hK
    rw [hCo] at e1; cases e1
    exact I1.kIn C _ hK
  have hi1 := ns_none I1.kIn hN1 hi
  obtain ⟨hp, g, d, tk, os⟩ := s1
  refine Xc.call0 PySem.F.excBase_ValueError T1 hC1 hN1 hi1 (fun h' a hm' hs => ?_) (by rw [List.nil_append, ← r.length, sizeLine_eq]; omega)
  obtain ⟨tt, ht, _, _⟩ := hm'.there
  have I2 := I1.kept (h' := h') (t' := tk) hm'.keeps
  refine ⟨a, none, _, _, rfl, hm'.keeps _ _ kC, ⟨ht, by simp⟩, rfl, ?_⟩
  refine hx pins σ H1 _ a (.ref C) none _ _ I2 ⟨⟨ht, by simp⟩, rfl, I1.hok.fresh hs, Nat.le_trans I1.sz hs, fun y c e z => ?_, .inl rfl⟩ q
  obtain ⟨v, o, y, _⟩ := I1.cell _ c e
  rw [z] at y
  exact absurd (Heap.lt_size y) (Nat.not_lt.mpr hs)
end
end L2
/-! x = [elt for ..] where elt may raise; a call without arguments. -/
namespace L2
open PySem PySem.Spec PyProof.Rows
section
variable {X : Cx} {k : Nat} {x : Str} {ps : List Str} {sp : Sp} {p pos : Pos}
end
/-! ### two lists of bools compared -/
theorem eqvAll_bools : ∀ (bs cs : List Bool), PyData.eqvAll (bs.map .bool) (cs.map .bool) = decide (bs = cs)
  | [], [] => rfl
  | [], _ :: _ => rfl
  | _ :: _, [] => rfl
  | b :: bs, c :: cs => by
    show (b == c && PyData.eqvAll (bs.map .bool) (cs.map .bool)) = _
    rw [eqvAll_bools bs cs, Bool.eq_iff_iff]
    simp
theorem reads_bools {h : Heap} : ∀ {bs : List Bool} {us : List Value}, Vals (bs.map V.bl) us → ReadsAll h us (bs.map .bool) []
  | [], _, .nil => .nil
  | b :: bs, _, .cons r t => by
    cases r
    exact .cons (as := []) (.bool b) (reads_bools t)
theorem op_eqBs {X : Cx} {K : PySem.W.Frag} (hK : X.K = K) (hu : X.A.units + 64 < cLine) : OpR X (compareOp .Eq) (fun x y H Q => ∃ (a b : Addr) (bs cs : List Bool), x = .ref a ∧ y = .ref b ∧ SqL K H a (bs.map V.bl) ∧ SqL K H b (cs.map V.bl) ∧
    SeqAt.shaped (.list (bs.map .bool)) = true ∧ SeqAt.shaped (.list (cs.map .bool)) = true ∧ Q (.bl (decide (bs = cs))) H) := by
  subst hK
  intro pins s σ H x y v u Q I rx ry h
  obtain ⟨a, b, bs, cs, rfl, rfl, ha, hb, k1, k2, q⟩ := h
  cases rx
  cases ry
  obtain ⟨i1, r1, p1, _⟩ := I.list ha
  obtain ⟨o1, g1, c1, n1, d1⟩ := p1.isList
  obtain ⟨i2, r2, p2, _⟩ := I.list hb
  obtain ⟨o2, g2, c2, n2, d2⟩ := p2.isList
  refine eq_dataH (reads_list_at g1 c1 d1 (by simpa using reads_bools r1)) (reads_list_at g2 c2 d2 (by simpa using reads_bools r2)) k1 k2 hu ?_
  show EP X pins σ Q (.bool (PyData.eqvAll (bs.map .bool) (cs.map .bool))) s
  rw [eqvAll_bools]
  exact ⟨.bl _, H, I, rfl, q⟩
section
variable {X : Cx}
end
end L2

/-! What stops: a statement behind which nothing comes; a call whose arguments raise; a call of a value that holds a function. -/
namespace L2
open PySem PySem.Spec PyProof.Rows
section
variable {X : Cx} {st : Stmt} {rest : List Stmt} {t : TS}
/-- a statement that never goes on: what comes behind it is not looked at -/
def tStop (t : TS) : TS := fun D σ H => t { D with nx := fun _ _ => False } σ H
theorem pss_stop (h1 : PS X st t) : PSs X (st :: rest) (tStop t) := by
  intro pins s σ H D I h
  refine wpAny_execs_cons (thn (h1 pins s σ H { D with nx := fun _ _ => False } I h) fun f s1 q => ?_)
  cases f with
  | next =>
    obtain ⟨_, _, _, q⟩ := q
    exact False.elim q
  | ret v => exact q
  | brk => exact q
  | cont => exact q
end
section
variable {X : Cx} {x : Str} {p pos : Pos} {e : Expr} {es : List Expr} {t : TA}
/-- a function of the text, known by its name alone -/
structure Named (K : PySem.W.Frag) (mg : Str → Option Value) (x : Str) : Prop where
  ex : ∃ f, mg x = some (.ref f) ∧ PySem.W.keepIn K (.ref f) = true
/-- f(e, ..), where an argument raises -/
def tStopA (t : TA) : TE := fun σ H _ => t σ H fun _ _ => False
theorem pe_callStop (n : Named X.K X.mg x) (hg : Gl X x) (ha : PA X (e :: es) t) (hdb : (x == ("__debug__" : Str)) = false := by decide)
    (he : starEach (e :: es) X.env = (false, eval e X.env) :: starEach es X.env := by rfl) (hpl : (backTo pos (starEach es X.env)).any (·.1) = false := by rfl) : PE X (.Call (.Name x p) (e :: es) [] pos) (tStopA t) := by
  intro pins s σ H Q I h
  obtain ⟨f, hm, hk⟩ := n.ex
  refine wpAny_Call_Name_kw (ld_glob I hg hm ?_ hdb)
  exact PySem.W.callWith_K (h₀ := X.base) I.ok.mod.kin hk (thn (ha pos pins s σ H _ I h) fun us s1 ⟨vs, H1, I1, r, q⟩ => False.elim q) he hpl
end
/-! ### a call of a value -/
section
variable {X : Cx} {k i : Nat} {x : Str} {p pos : Pos} {a b e : Expr} {es : List Expr} {t : TA} {tf : TE} {E : XK} {CX : CXT}
def CtrF (P : Program) (w : World) (K : PySem.W.Frag) (mg : Str → Option Value) (base : Heap) (CX : CXT) (k : Nat) (f : Addr) (ps : List Str) (sp : Sp) : Prop :=
  ∃ fd, FnOk P w K mg base CX k f fd ps sp ∧ PySem.W.keepIn K (.ref f) = true ∧ Binds K fd ps []
def tCallF (P : Program) (w : World) (K : PySem.W.Frag) (mg : Str → Option Value) (base : Heap) (CX : CXT) (k : Nat) (E : XK) (tf : TE) (t : TA) : TE := fun σ H Q => tf σ H fun v H1 => ∃ f ps sp, v = .ref f ∧ CtrF P w K mg base CX k f ps sp ∧ t σ H1 fun vs H2 => sp vs H2 Q E
theorem call_sub (a b : Expr) (p : Pos) (args : List Expr) (keywords : List Keyword) (pos : Pos) (env : Env) : eval (.Call (.Subscript a b p) args keywords pos) env = (do
    callWith pos (← eval (.Subscript a b p) env) [] (backTo pos (starEach args env)) (backToKw pos (keywordEach keywords env))) := rfl
theorem pe_callSub (hf : PE X (.Subscript a b p) tf) (hr : Room k X.A) (ha : PA X (e :: es) t) (hx : Passes CX X E)
    (he : starEach (e :: es) X.env = (false, eval e X.env) :: starEach es X.env := by rfl) (hpl : (backTo pos (starEach es X.env)).any (·.1) = false := by rfl) : PE X (.Call (.Subscript a b p) (e :: es) [] pos) (tCallF X.prog X.w X.K X.mg X.base CX k E tf t) := by
  intro pins s σ H Q I h
  rw [call_sub]
  refine wpAny_bind (thn (hf pins s σ H _ I h) fun v s1 ⟨y, H1, I1, r1, f, ps, sp, e1, ⟨fd, F, hk, hb⟩, h1⟩ => ?_)
  subst e1
  cases r1
  refine PySem.W.callWith_K (h₀ := X.base) I.ok.mod.kin hk (thn (ha pos pins s1 σ H1 _ I1 h1) fun us s2 ⟨vs, H2, I2, r, q⟩ => ⟨I2.kIn, ?_⟩) he hpl
  exact run_fn F hr hb .nil hx I2 r (by rw [List.append_nil]; exact q)
theorem pe_callL (hN : X.N[i]? = some x) (hv : Vis X.env.scope x) (hr : Room k X.A) (ha : PA X (e :: es) t) (hx : Passes CX X E) (hd : (x == ("__debug__" : Str)) = false := by decide) (hcd : (x == ("__classdict__" : Str)) = false := by decide)
    (he : starEach (e :: es) X.env = (false, eval e X.env) :: starEach es X.env := by rfl) (hpl : (backTo pos (starEach es X.env)).any (·.1) = false := by rfl) : PE X (.Call (.Name x p) (e :: es) [] pos) (tCallF X.prog X.w X.K X.mg X.base CX k E (tVar i) t) := by
  intro pins s σ H Q I h
  refine wpAny_Call_Name_kw (thn (pe_var (pos := p) hN hv hd hcd pins s σ H _ I h) fun v s1 ⟨y, H1, I1, r1, f, ps, sp, e1, ⟨fd, F, hk, hb⟩, h1⟩ => ?_)
  subst e1
  cases r1
  refine PySem.W.callWith_K (h₀ := X.base) I.ok.mod.kin hk (thn (ha pos pins s1 σ H1 _ I1 h1) fun us s2 ⟨vs, H2, I2, r, q⟩ => ⟨I2.kIn, ?_⟩) he hpl
  exact run_fn F hr hb .nil hx I2 r (by rw [List.append_nil]; exact q)
end
end L2
/-! Within an except suite: a walk over a range ends, a list is built, a function of the text is called. -/
namespace Xc
open PySem
section
variable {prog : Program} {w : World} {A : Around} {E : Value → Shared → Prop} {s : Shared}
theorem next_range_end_held {it ea : Addr} {x left step : Int} {Q : Option Value → Shared → Prop} (hh : A.handled = some (.ref ea)) (H : Held s.heap ea) (hit : IsRangeIter s.heap it x left step) (hleft : left ≤ 0)
    (hQ : ∀ h', Heap.ExtBut it s.heap h' → Q none { s with heap := h' }) : wpAny (model prog w) A (pyNext (.ref it)) Q E s := by
  have hT : s.TypeIs (.ref it) "range_iterator" := ⟨_, hit, rfl⟩
  unfold pyNext
  refine wpAny_bind (wpAny_attempt (wpAny_callSpecial?_slot (name := Str.ofString "__next__") hT F.slot_range_iterator_next
    (wpAny_call_entry F.slot_range_iterator_next hT F.entry_range_iterator_next ?_ (F.args_range_iterator_next_1 _))))
  show wpAny _ _ (field (.ref it) 0 >>= _) _ _ s
  refine wpAny_bind (wpAny_field hit rfl (x := rawInt x) rfl ?_)
  show wpAny _ _ (field (.ref it) 1 >>= _) _ _ s
  refine wpAny_bind (wpAny_field hit rfl (x := rawInt left) rfl ?_)
  show wpAny _ _ (field (.ref it) 2 >>= _) _ _ s
  refine wpAny_bind (wpAny_field hit rfl (x := rawInt step) rfl ?_)
  show wpAny _ _ (if left ≤ 0 then _ else _) _ _ s
  rw [if_pos hleft]
  refine wpAny_bind (wpAny_rule ?_)
  refine wpAny_bind ?_
  show wpAny _ _ (newExc (.type "StopIteration") [] >>= _) _ _ _
  refine wpAny_bind ?_
  simp only [newExc, newTuple]
  refine wpAny_bind (wpAny_newObj_type ?_ (by size_fits))
  refine wpAny_bind (m := firstArgMember _ _) (wpAny_of_eq (a := Value.none) (by first | rfl | (simp only [firstArgMember]; rfl)) ?_)
  refine wpAny_newObj_type ?_ (by size_fits)
  have hea : ea < s.heap.objs.size := by obtain ⟨_, _, a, _⟩ := H; exact Heap.lt_size a
  generalize e1 : s.heap.push { cls := .type "tuple", data := .seq (List.toArray []) } = h1
  have z1 : h1.objs.size = s.heap.objs.size + 1 := by rw [← e1, Heap.size_push]
  have x1 : Heap.ExtBut it s.heap h1 := by rw [← e1]; exact (Heap.ExtBut.refl it s.heap).push _
  refine raiseNew_held (ea := ea) (e := h1.objs.size) (show A.in1.handled = some (.ref ea) from hh) (by rw [z1]; exact Nat.ne_of_lt (Nat.lt_succ_of_lt hea)) (H.at fun o e => ?_) (Heap.get?_push_size _ rfl) rfl (by simp; exact Nat.lt_of_lt_of_le (by decide) (Nat.le_add_right 6 _)) ?_
  · refine Heap.get?_push_of_some _ ?_
    rw [← e1]
    exact Heap.get?_push_of_some _ e
  · refine wpAny_bind (wpAny_isInstance (T := "StopIteration") (b := true) ⟨_, map_at (Heap.get?_push_size _ rfl) rfl, rfl⟩ isSubtype_stop ?_)
    refine wpAny_pure (hQ _ fun b o hb e => ?_)
    rw [Heap.get?_update_other _ _ (by rw [z1]; exact Nat.ne_of_gt (Nat.lt_succ_of_lt (Heap.lt_size e)))]
    exact Heap.get?_push_of_some _ (x1 b o hb e)
end
end Xc
namespace L2
open PySem PySem.Spec PyProof.Rows
/-- a walk in one place -/
structure TurnA (P : Program) (w : World) (K : PySem.W.Frag) (A : Around) (tg : Expr) (J : It) (fp : List Addr) (it : Addr) (tn : Nat → Heap → Prop) : Prop where
  obj : ∀ i h, tn i h → ∀ b ∈ fp, ∃ o, h.get? b = some o ∧ ∀ v, o.data ≠ .cell v
  keep : ∀ i h h', tn i h → (∀ b ∈ fp, ∀ o, h.get? b = some o → h'.get? b = some o) → tn i h'
  item : ∀ (X : Cx), X.prog = P → X.w = w → X.K = K → X.A = A → ∀ (i : Nat) (pins : List (Addr × Obj)) (s : Shared) (σ : St) (H : Hp) (E : Value → Shared → Prop), Inv X pins σ H s → (∀ b ∈ fp, FpOk X pins H b) → tn i s.heap → J.go i H →
    wpAny (model P w) X.A (pyNext (.ref it)) (fun r s1 => ∃ u, r = some u ∧
      wpAny (model P w) X.A (letOwnedTupleGo tg (.ref it) u) (fun _ s2 => ∃ x H', Inv X pins σ H' s2 ∧ RelV x u ∧ J.yld i H x H' ∧ tn (i + 1) s2.heap ∧ ∀ b ∈ fp, H' b = none) E s1) E s
  done : ∀ (X : Cx), X.prog = P → X.w = w → X.K = K → X.A = A → ∀ (i : Nat) (pins : List (Addr × Obj)) (s : Shared) (σ : St) (H : Hp) (E : Value → Shared → Prop), Inv X pins σ H s → (∀ b ∈ fp, FpOk X pins H b) → tn i s.heap → J.stop i H →
    wpAny (model P w) X.A (pyNext (.ref it)) (fun r s1 => r = none ∧ Inv X pins σ H s1) E s
  self : ∀ (A : Around) (i : Nat) (s : Shared) (Q : Value → Shared → Prop) (E : Value → Shared → Prop), tn i s.heap → Q (.ref it) s → wpAny (model P w) A (pyIter (.ref it)) Q E s
def PIEA (X : Cx) (pins : List (Addr × Obj)) (σ : St) (tg : Expr) (R : It → Hp → Prop) (itv : Value) (s2 : Shared) : Prop :=
  ∃ (it : Addr) (fp : List Addr) (tn : Nat → Heap → Prop) (J : It) (H' : Hp), itv = .ref it ∧ Inv X pins σ H' s2 ∧ TurnA X.prog X.w X.K X.A tg J fp it tn ∧ tn 0 s2.heap ∧ (∀ b ∈ fp, FpOk X pins H' b) ∧ R J H'
def PIA (X : Cx) (tg iter : Expr) (wi : TI) : Prop :=
  ∀ (pins : List (Addr × Obj)) (s : Shared) (σ : St) (H : Hp) (R : It → Hp → Prop), Inv X pins σ H s → wi σ H R →
    wpAny (model X.prog X.w) X.A (eval iter X.env) (fun v s1 => wpAny (model X.prog X.w) X.A (pyIter v) (PIEA X pins σ tg R) X.xe s1) X.xe s
/-- lo, lo + 1, .. where an exception is held -/
def ItrH (ea : Addr) (lo : Int) (n : Nat) : It := ⟨fun i _ => i < n, fun i H x H' => H' = H ∧ x = .int (lo + i), fun i H => n ≤ i ∧ ∃ C od, H ea = some (XH ea C od)⟩
theorem turn_rangeH {P : Program} {w : World} {K : PySem.W.Frag} {A : Around} {tg : Expr} {ea : Addr} (hh : A.handled = some (.ref ea)) (it : Addr) (lo : Int) (n : Nat) : TurnA P w K A tg (ItrH ea lo n) [it] it (fun i h => IsRangeIter h it (lo + (i : Nat) * 1) ((n : Int) - (i : Nat)) 1) where
  obj := fun i h st b hb => by
    have e : b = it := by simpa using hb
    subst e
    exact ⟨_, st, fun v z => by
      have z' : Data.fields _ = Data.cell v := z
      cases z'⟩
  keep := fun i h h' st k => k it (by simp) _ st
  item := by
    intro X hP hw hK hA i pins s σ H E I hf st hg
    subst hP hw hK
    obtain ⟨f0, f1, f2, f3, f4, f5⟩ := hf it (by simp)
    have hi : i < n := hg
    refine wpAny_pyNext_range_item st (by omega) fun h' st' kk => ?_
    have st' : IsRangeIter h' it (lo + ((i + 1 : Nat) : Int) * 1) ((n : Int) - ((i + 1 : Nat) : Int)) 1 := by
      have e1 : lo + ((i + 1 : Nat) : Int) * 1 = lo + (i : Int) * 1 + 1 := by omega
      have e2 : (n : Int) - ((i + 1 : Nat) : Int) = (n : Int) - (i : Int) - 1 := by omega
      rw [e1, e2]
      exact st'
    have I1 : Inv X pins σ H { s with heap := h', toks := s.toks + 1 } := I.turned (fun b o hb e => kk.extBut b o hb e) f0 f1 f3 f4 f5
    refine ⟨_, rfl, go_of (s := { s with heap := h', toks := s.toks + 1 }) (n := "range_iterator") st' rfl rfl (by decide) ⟨.int (lo + i), H, I1, ⟨s.toks, ?_⟩, ⟨rfl, rfl⟩, st', fun b hb => (hf b hb).1⟩⟩
    rw [Int.mul_one]
  done := by
    intro X hP hw hK hA i pins s σ H E I hf st hg
    subst hP hw hK
    obtain ⟨f0, f1, f2, f3, f4, f5⟩ := hf it (by simp)
    obtain ⟨hg, C, od, hx⟩ := hg
    obtain ⟨sl, vs, ex, h2⟩ := XH.get I.hok hx
    exact Xc.next_range_end_held (ea := ea) (by rw [hA]; exact hh) ⟨_, vs, ex.obj, rfl, h2⟩ st (by have : n ≤ i := hg; omega) fun h' eb => ⟨rfl, I.turned (t' := s.toks) (fun b o hb e => eb b o hb e) f0 f1 f3 f4 f5⟩
  self := fun _ _ _ _ _ st h => wpAny_pyIter_rangeiter st h
section
variable {X : Cx} {tg : Expr}
theorem range_itH {ea : Addr} {pins : List (Addr × Obj)} {σ : St} {H : Hp} {s : Shared} {R : It → Hp → Prop} {E : Value → Shared → Prop} {lo hi : Int} {t u v : Tok} {tk : Nat} (hh : X.A.handled = some (.ref ea)) (I : Inv X pins σ H s) (h1 : -(2 ^ 62) ≤ lo) (h2 : lo < 2 ^ 62) (h3 : -(2 ^ 62) ≤ hi) (h4 : hi < 2 ^ 62)
    (q : R (ItrH ea lo (hi - lo).toNat) H) : wpAny (model X.prog X.w) X.A (pyIter (.ref s.heap.objs.size)) (PIEA X pins σ tg R) E { s with heap := s.heap.push { cls := .type "range", data := .fields #[.int lo t, .int hi u, .int 1 v] }, toks := tk } := by
  refine wpAny_pyIter_range (IsRange.new ..) (small_one h1 h2 h3 h4) ?_
  have I1 : Inv X pins σ H { s with heap := s.heap.push { cls := .type "range", data := .fields #[.int lo t, .int hi u, .int 1 v] }, toks := tk } := I.kept fun b o e => Heap.get?_push_of_some _ e
  refine ⟨(s.heap.push { cls := .type "range", data := .fields #[.int lo t, .int hi u, .int 1 v] }).objs.size, [(s.heap.push { cls := .type "range", data := .fields #[.int lo t, .int hi u, .int 1 v] }).objs.size], _, _, H, rfl,
    I1.kept (t' := tk) fun b o e => Heap.get?_push_of_some _ e, turn_rangeH hh _ lo (hi - lo).toNat, ?_, fun b hb => ?_, q⟩
  · have e1 : lo + ((0 : Nat) : Int) * 1 = lo := by simp
    have e2 : (((hi - lo).toNat : Nat) : Int) - ((0 : Nat) : Int) = Builtin.Range.rangeSize lo hi 1 := by rw [rangeSize_one]; split <;> omega
    show IsRangeIter _ _ (lo + ((0 : Nat) : Int) * 1) ((((hi - lo).toNat : Nat) : Int) - ((0 : Nat) : Int)) 1
    rw [e1, e2]
    exact Heap.get?_push_size _ rfl
  · have e : b = (s.heap.push { cls := .type "range", data := .fields #[.int lo t, .int hi u, .int 1 v] }).objs.size := by simpa using hb
    subst e
    exact I1.fpOk (Nat.le_refl _) (I1.hok.fresh (Nat.le_refl _))
theorem turns_rangeH {ea p : Addr} {lo : Int} {n : Nat} {g : TG} {tst : TT} {te : TE} {Q : Hp → Prop} {σ : St} {H : Hp} (Pv : Nat → St → Hp → Prop) (h0 : Pv 0 σ H)
    (hs : ∀ i σ H, i < n → Pv i σ H → g (.int (lo + i)) σ H fun σ2 H2 => tst σ2 H2 fun c H3 => if c = true then te σ2 H3 fun y H4 => ∃ ys, H4 p = some (.lst ys) ∧ ys.length < sizeLine ∧ Pv (i + 1) σ2 (upd H4 p (.lst (ys ++ [y]))) else Pv (i + 1) σ2 H3)
    (hx : ∀ σ H, Pv n σ H → ∃ C od, H ea = some (XH ea C od)) (hd : ∀ σ H, Pv n σ H → Q H) : Turns (ItrH ea lo n) g tst te p Q σ H := by
  refine ⟨fun i m σ H => m = n - i ∧ i ≤ n ∧ Pv i σ H, ⟨n, by simp, Nat.zero_le _, h0⟩, ?_⟩
  rintro i m σ H ⟨rfl, hi, p⟩
  by_cases hlt : i < n
  · refine .inr ⟨hlt, Pv (i + 1), fun σ' H' p' => ⟨n - (i + 1), by omega, rfl, hlt, p'⟩, fun x H' y => ?_⟩
    obtain ⟨e, y⟩ := y
    subst e y
    exact hs i σ _ hlt p
  · have e : i = n := by omega
    subst e
    exact .inl ⟨⟨Nat.le_refl _, hx σ H p⟩, hd σ H p⟩
def iRngH (ea : Addr) (ta : TA) : TI := fun σ H R => ta σ H fun vs H1 => ∃ j : Int, vs = [.int j] ∧ -(2 ^ 62) ≤ j ∧ j < 2 ^ 62 ∧ R (ItrH ea 0 j.toNat) H1
theorem pi_rangeH {ea : Addr} {a : Expr} {ta : TA} {p pos : Pos} (hh : X.A.handled = some (.ref ea)) (hg : Gl X "range") (hm : X.mg "range" = none) (ha : PA X [a] ta) (hs : starEach [a] X.env = [(false, eval a X.env)] := by rfl) : PIA X tg (.Call (.Name "range" p) [a] [] pos) (iRngH ea ta) := by
  intro pins s σ H R I h
  refine Call_ (ld_blt I hg hm boot_range (PyProof.Rows.callWith_type1 (thn (ha pos pins s σ H _ I h) fun us s1 ⟨vs, H1, I1, r1, q1⟩ => ?_) hs rfl))
  obtain ⟨j, e, q1, q2, q⟩ := q1
  subst e
  cases r1 with
  | cons r rr =>
    cases rr
    obtain ⟨t, rfl⟩ := r
    exact call_range_1 (range_itH hh I1 (by omega) (by omega) q1 q2 (by simpa using q))
end
section
variable {X : Cx} {pins : List (Addr × Obj)} {σ : St} {H : Hp} {s : Shared}
theorem comp_coreA {elt tg iter : Expr} {ifs : List Expr} {scope : Scope} {pos : Pos} {N' : List Str} {cap : List (Option Nat)} {wi : TI} {g : TG} {tst : TT} {te : TE} {Q : VK} (S : CSc X scope N' cap) (hi : PIA X tg iter wi)
    (hg : ∀ C s2 H2 fp, PG (compCx X scope N' C s2 H2 fp fun _ _ => False) tg g) (ht : ∀ C s2 H2 fp, PIfs (compCx X scope N' C s2 H2 fp fun _ _ => False) ifs tst)
    (he : ∀ C s2 H2 fp, PE (compCx X scope N' C s2 H2 fp fun _ _ => False) elt te) (I : Inv X pins σ H s) (h : tComp wi cap g tst te σ H Q) :
    wpAny (model X.prog X.w) X.A (eval iter X.env) (fun x s1 => wpAny (model X.prog X.w) X.A (pyIter x) (fun it s2 => wpAny (model X.prog X.w) X.A (newList []) (fun acc s3 =>
      wpAny (model X.prog X.w) X.A (newFunctionEnv scope X.env.globals (compCl X.env scope.names []) [] X.env.qual none .none (some X.env)) (fun cenv s4 =>
        codeAny (model X.prog X.w) X.A (.compStart (.ListComp elt [⟨tg, iter, ifs, 0⟩] scope pos) 0 it acc { cenv with scope := relabel scope X.env }) (CompEnd X pins σ Q acc cenv.locals) s4) X.xe s3) X.xe s2) X.xe s1) X.xe s := by
  refine thn (hi pins s σ H _ I h) fun v s1 h1 => thn h1 fun itv s2 h2 => ?_
  obtain ⟨it, fp, tn, J, H2, e, I2, T, st2, f2, q⟩ := h2
  subst e
  have ho : ∀ b ∈ fp, b < s2.heap.objs.size := fun b hb => by
    obtain ⟨o, e, _⟩ := T.obj _ _ st2 b hb
    exact Heap.lt_size e
  refine wpAny_newObj_type (wpAny_newFunctionEnv S.nocell (by intro y hy; simp at hy) (fun hp1 hns1 hsb1 => ?_) S.kind)
  have hDn : s2.heap.objs.size ≠ (s2.heap.push { cls := .type "list", dict := none, data := .seq ([] : List Value).toArray }).objs.size := by rw [Heap.size_push]; exact Nat.ne_of_lt (Nat.lt_succ_self _)
  have hCle : s2.heap.objs.size ≤ (s2.heap.push { cls := .type "list", dict := none, data := .seq ([] : List Value).toArray }).objs.size := by rw [Heap.size_push]; exact Nat.le_succ _
  have old : ∀ b o, s2.heap.get? b = some o → hp1.get? b = some o := fun b o e =>
    hsb1.extBut b o (Nat.ne_of_lt (Nat.lt_of_lt_of_le (Heap.lt_size e) hCle)) (Heap.get?_push_of_some _ (Heap.get?_push_of_some _ e))
  have hacc : hp1.get? s2.heap.objs.size = some { cls := .type "list", data := .seq #[] } := hsb1.extBut _ _ hDn (Heap.get?_push_of_some _ (Heap.get?_push_size _ rfl))
  -- the block
  let X' : Cx := compCx X scope N' (s2.heap.push { cls := .type "list", dict := none, data := .seq ([] : List Value).toArray }).objs.size s2 H2 fp fun _ _ => False
  obtain ⟨W, ⟨m0, w0⟩, turn⟩ := q s2.heap.objs.size (I2.hok.fresh (Nat.le_refl _))
  have J0 : Inv X' [] (capS cap σ) (upd H2 s2.heap.objs.size (.lst [])) { s2 with heap := hp1, toks := s2.toks + ([] : List (Str × Value)).length } := I2.compStart S (Nat.le_refl _) hCle hDn f2 ho old hacc hns1
  have stat : ∀ {H' : Hp}, (∀ b ∈ fp, H' b = none) → ∀ b ∈ fp, FpOk X' [] H' b := fun hn b hb => by
    obtain ⟨_, g1, g2, g3, g4, g5⟩ := f2 b hb
    refine ⟨hn b hb, Nat.ne_of_lt (Nat.lt_of_lt_of_le (ho b hb) hCle), J0.ok.exfs b hb, .inl hb, fun x c e => g4 x c (I2.clLook S e), fun p hp => absurd (show p ∈ ([] : List (Addr × Obj)) from hp) (by simp)⟩
  have fr0 : ∀ b ∈ fp, upd H2 s2.heap.objs.size (.lst []) b = none := fun b hb => by rw [upd_ne (Nat.ne_of_lt (ho b hb))]; exact (f2 b hb).1
  have loop : codeAny (model X.prog X.w) X.A (.compLoop (.ListComp elt [⟨tg, iter, ifs, 0⟩] scope pos) 0 (.ref it) (.ref s2.heap.objs.size) X'.env)
      (CompEnd X pins σ Q (.ref s2.heap.objs.size) (s2.heap.push { cls := .type "list", dict := none, data := .seq ([] : List Value).toArray }).objs.size) { s2 with heap := hp1, toks := s2.toks + ([] : List (Str × Value)).length } := by
    refine comp_loop rfl (fun n s' => ∃ i σ' H', Inv X' [] σ' H' s' ∧ tn i s'.heap ∧ (∀ b ∈ fp, H' b = none) ∧ W i n σ' H') ?_ m0 ⟨0, _, _, J0, T.keep _ _ _ st2 fun b _ o e => old b o e, fr0, w0⟩
    rintro n s3 ⟨i, σ3, H3, I3, st3, fr3, w3⟩
    have no : ∀ (e : Value) (s' : Shared), X'.xe e s' → notedBy (model X.prog X.w) X.A X'.env (fun e s' => CompEnd X pins σ Q (.ref s2.heap.objs.size) (s2.heap.push { cls := .type "list", dict := none, data := .seq ([] : List Value).toArray }).objs.size (.error e) s') e s' := fun _ _ z => z.elim
    rcases turn i n σ3 H3 w3 with ⟨stop, qn⟩ | ⟨go, N, hN, step⟩
    · refine wpAny_mono (T.done X' rfl rfl rfl rfl i [] s3 σ3 H3 X'.xe I3 (stat fr3) st3 stop) (fun r s4 ⟨hr, I4⟩ => ?_) no
      subst hr
      obtain ⟨mC, hmC, _⟩ := I4.loc
      exact ⟨_, H3, mC, rfl, I2.compBack f2 I4, I2.fpOk hCle I4.free, hmC, qn⟩
    · refine wpAny_mono (T.item X' rfl rfl rfl rfl i [] s3 σ3 H3 X'.xe I3 (stat fr3) st3 go) (fun r s4 ⟨u, hr, h4⟩ => ?_) no
      subst hr
      refine wpAny_mono h4 (fun _ s5 ⟨x, H5, I5, r5, y5, st5, fr5⟩ => ?_) no
      have I5' := I5.pinned (stat fr5) (T.obj _ _ st5)
      refine wpAny_mono (hg _ _ _ _ _ s5 σ3 H5 x u _ I5' r5 (step x H5 y5)) (fun _ s6 ⟨σ6, H6, I6, q6⟩ => ?_) no
      refine wpAny_mono (ht _ _ _ _ _ s6 σ6 H6 _ I6 q6) (fun ok s7 ⟨H7, I7, q7⟩ => ?_) no
      have again : ∀ {σ7 : St} {H7 : Hp} {s7 : Shared}, Inv X' ([] ++ pinsAt fp s5.heap) σ7 H7 s7 → N σ7 H7 → ∃ m, m < n ∧ ∃ i σ' H', Inv X' [] σ' H' s7 ∧ tn i s7.heap ∧ (∀ b ∈ fp, H' b = none) ∧ W i m σ' H' := fun {σ7 H7 s7} I7 n7 => by
        obtain ⟨m', hm, w7⟩ := hN σ7 H7 n7
        refine ⟨m', hm, i + 1, σ7, H7, I7.unpinned, T.keep _ _ _ st5 fun b hb o e => (I7.pin (b, o) (List.mem_append_right _ (List.mem_append_right _ (mem_pinsAt hb e)))).1, fun b hb => ?_, w7⟩
        obtain ⟨o, e, d⟩ := T.obj _ _ st5 b hb
        exact (I7.pin (b, o) (List.mem_append_right _ (List.mem_append_right _ (mem_pinsAt hb e)))).2.1
      cases ok with
      | false => exact again I7 q7
      | true =>
        refine wpAny_mono (he _ _ _ _ _ s7 σ6 H7 _ I7 q7) (fun y s8 ⟨z, H8, I8, r8, xs, e8, l8, q8⟩ => ?_) no
        refine wpAny_mono (mt_append (X := X') _ s8 σ6 H8 (.ref s2.heap.objs.size) [z] (.ref s2.heap.objs.size) [y] (fun _ H9 => N σ6 H9) I8 rfl (.cons r8 .nil) ⟨_, xs, z, rfl, rfl, e8, l8, q8⟩) (fun _ s9 ⟨_, H9, I9, _, q9⟩ => ?_) no
        exact again I9 q9
  exact codeAny_compStart_list loop (T.self _ 0 _ _ _ (T.keep _ _ _ st2 fun b _ o e => old b o e) loop)

theorem pe_compA {elt tg iter : Expr} {ifs : List Expr} {scope : Scope} {pos : Pos} {N' : List Str} {cap : List (Option Nat)} {wi : TI} {g : TG} {tst : TT} {te : TE} (S : CSc X scope N' cap) (hi : PIA X tg iter wi)
    (hg : ∀ C s2 H2 fp, PG (compCx X scope N' C s2 H2 fp fun _ _ => False) tg g) (ht : ∀ C s2 H2 fp, PIfs (compCx X scope N' C s2 H2 fp fun _ _ => False) ifs tst)
    (he : ∀ C s2 H2 fp, PE (compCx X scope N' C s2 H2 fp fun _ _ => False) elt te) (hs : ∀ x, foldedSetIterable iter X.env x = pure x := by intro _; rfl) :
    PE X (.ListComp elt [⟨tg, iter, ifs, 0⟩] scope pos) (tComp wi cap g tst te) := by
  intro pins s σ H Q I h
  rw [eval_ListComp]
  refine wpAny_comprehension_free (use := none) rfl hs (closure_eq (I.cellOf S)) S.kind S.names (thn (comp_coreA (Q := Q) S hi hg ht he I h) fun xv s1 h1 => thn h1 fun it s2 h2 => thn h2 fun acc s3 h3 => thn h3 fun cenv s4 h4 => codeAny_mono h4 fun r s5 h5 => ?_)
  cases r with
  | error e => exact False.elim h5
  | ok fl =>
    obtain ⟨p, H', m, rfl, I', F', hn, q⟩ := h5
    refine ⟨m, hn, fun h' sb => ⟨.ref p, H', ?_, rfl, q⟩⟩
    exact I'.turned (t' := s5.toks) (fun b o hb e => sb.extBut b o hb e) F'.1 F'.2.1 F'.2.2.2.1 F'.2.2.2.2.1 F'.2.2.2.2.2
end
/-! ### a function of the text, called within an except suite -/
def cxOfL (CX : CXT) (P : Program) (w : World) (K : PySem.W.Frag) (mg : Str → Option Value) (base : Heap) (N : List Str) (qual : Str) (scope : Scope) (f : Addr) (cd : Value) (A : Around) (outer : List Env) (s : Shared) (H : Hp) (E : XK) : Cx :=
  { cxOf CX P w K mg base N qual scope f cd A outer s H E with calm := false }
theorem inv_loud {CX : CXT} {P : Program} {w : World} {K : PySem.W.Frag} {mg : Str → Option Value} {base : Heap} {N ps : List Str} {qual : Str} {scope : Scope} {f : Addr} {cd : Value} {A : Around} {outer : List Env} {s s1 : Shared} {H : Hp} {E : XK} {us : List Value} {vs : List V}
    (S : FnScope N ps scope) (e0 : Env0 P w K mg base A outer s H) (hl : vs.length = ps.length) (r : Vals vs us)
    (x : InCallC s s.heap.objs.size (bindL (envOfC qual scope s.heap.objs.size f cd).kindOf (ps.zip us) fun _ => none) (cellsFrom (s.heap.objs.size + 1) scope.names []) (bindC (envOfC qual scope s.heap.objs.size f cd).kindOf (ps.zip us) fun _ => none) s1) :
    Inv (cxOfL CX P w K mg base N qual scope f cd A outer s H E) [] (start N vs) H s1 := by
  have I := inv_start (CX := CX) (E := E) (A := { A with handled := none }) S rfl ⟨e0.frames, e0.mod, e0.bs, e0.bsz, e0.funs, e0.frf, e0.hok, e0.bare⟩ hl r x
  exact ⟨⟨I.ok.mod, I.ok.kind, I.ok.glob, I.ok.blt, I.ok.above, I.ok.inj, I.ok.has, I.ok.cab, (fun z => by cases z), Around.frames_deeper e0.frames, I.ok.stk, I.ok.exf, I.ok.bs, I.ok.bsz, I.ok.noex, I.ok.exfs, I.ok.funs, I.ok.frf⟩, I.os, I.bare, I.base, I.loc, I.cell, I.free, I.freeC, I.pin, I.hok, I.len⟩
structure FnOkQ (P : Program) (w : World) (K : PySem.W.Frag) (mg : Str → Option Value) (base : Heap) (f : Addr) (fd : FuncData) (ps : List Str) (sp : Sp) : Prop where
  len : ∀ vs H Q E, sp vs H Q E → vs.length = ps.length
  run : ∀ (A : Around) (outer : List Env) (s : Shared) (H : Hp) (args : Args) (us : List Value) (vs : List V) (Q : VK) (E : XK), A.depth < recursionLimit → Env0 P w K mg base A outer s H → BindsTo s fd args (ps.zip us) → Vals vs us → sp vs H Q E →
    codeAny (model P w) A (.call (.ref f) args) (CR CX0 outer P w H s Q E) s
theorem fn_ofQ {P : Program} {w : World} {K : PySem.W.Frag} {mg : Str → Option Value} {base : Heap} {f : Addr} {name qual : Str} {params : Arguments} {body : List Stmt} {scope : Scope} {dV kV doc pm cdv ct oc : Value} {an od : Option Addr}
    {osl : Array (Option Value)} {N ps : List Str} {sp : Sp} (lk : K.lookup f = some ⟨oc, od, .func (PySem.W.fnOf name qual params body scope dV kV doc pm an cdv ct), osl⟩) (hcd : PySem.W.codeIn K cdv qual = true) (S : FnScope N ps scope)
    (len : ∀ vs H Q E, sp vs H Q E → vs.length = ps.length)
    (hbody : ∀ (A : Around) (outer : List Env) (s : Shared) (H : Hp) (vs : List V) (Q : VK) (E : XK), sp vs H Q E →
      ∃ t, PSs (cxOfL CX0 P w K mg base N qual scope f cdv A outer s H E) body t ∧ t { nx := fun _ H' => Q .non H', rt := Q } (start N vs) H) :
    FnOkQ P w K mg base f (PySem.W.fnOf name qual params body scope dV kV doc pm an cdv ct) ps sp := by
  refine ⟨len, fun A outer s H args us vs Q E hr e0 hb r hsp => ?_⟩
  have hl := len _ _ _ _ hsp
  have KX : K.In s.heap := e0.mod.kin.keeps fun b o e => (e0.bs b o e).1
  have lim : s.heap.NoLimit := e0.mod.nolimit.keeps fun b o e => (e0.bs b o e).1
  have hkind : ∀ y ∈ ps.zip us, scope.names.lookup y.1 = some .local ∨ (scope.names.lookup y.1 = some .cell ∧ ((cellsFrom (s.heap.objs.size + 1) scope.names []).lookup y.1).isSome = true) := fun ⟨n, v⟩ hy => by
    rcases S.par n (List.of_mem_zip hy).1 with q | q
    · exact .inl q
    · exact .inr ⟨q, PySem.W.cellsFrom_some _ _ _ (.inl q)⟩
  refine codeAny_call_function hr (KX _ _ lk) rfl S.co S.gen rfl (PySem.W.codeRec_of KX hcd) (hb _ _ _ _ ?_)
  refine wpAny_newFunctionEnv_cells S.kind hkind fun env he s1 x => ?_
  subst he
  refine ⟨lim.keeps x.toInCall.keep, codeAny_func ?_⟩
  obtain ⟨t, ht, hq⟩ := hbody A outer s H vs Q E hsp
  have I : Inv (cxOfL CX0 P w K mg base N qual scope f cdv A outer s H E) [] (start N vs) H s1 := inv_loud S e0 hl r x
  refine wpAny_mono (ht [] s1 (start N vs) H _ I hq) (fun fl s' hs => ?_) fun e s' hs => hs
  have fin : ∀ {σ' : St} {H' : Hp} {v : V} {u : Value}, Inv (cxOfL CX0 P w K mg base N qual scope f cdv A outer s H E) [] σ' H' s' → RelV v u → Q v H' → CE outer P w H s Q u s' :=
    fun {σ' H' v u} J rv q => ⟨v, H', J.os, J.bare, J.base, J.hok, rv, q⟩
  cases fl with
  | ret u =>
    obtain ⟨v, σ', H', J, rv, q⟩ := hs
    exact fin J rv q
  | next =>
    obtain ⟨σ', H', J, q⟩ := hs
    exact fin (v := V.non) (u := Value.none) J rfl q
  | brk =>
    obtain ⟨_, _, _, q⟩ := hs
    exact False.elim q
  | cont =>
    obtain ⟨_, _, _, q⟩ := hs
    exact False.elim q
structure CtrQ (P : Program) (w : World) (K : PySem.W.Frag) (mg : Str → Option Value) (base : Heap) (x : Str) (ps : List Str) (sp : Sp) : Prop where
  ex : ∃ f fd, FnOkQ P w K mg base f fd ps sp ∧ mg x = some (.ref f) ∧ PySem.W.keepIn K (.ref f) = true ∧ Binds K fd ps []
theorem ctrQ_of {P : Program} {w : World} {K : PySem.W.Frag} {mg : Str → Option Value} {base : Heap} {x : Str} {st : Stmt} {N ps : List Str} {sp : Sp} (F : FnT K mg x st ps) (S : FnScope N ps (defScope st)) (len : ∀ vs H Q E, sp vs H Q E → vs.length = ps.length)
    (hbody : ∀ (f : Addr) (cdv : Value) (A : Around) (outer : List Env) (s : Shared) (H : Hp) (vs : List V) (Q : VK) (E : XK), sp vs H Q E →
      ∃ t, PSs (cxOfL CX0 P w K mg base N x (defScope st) f cdv A outer s H E) (defBody st) t ∧ t { nx := fun _ H' => Q .non H', rt := Q } (start N vs) H) : CtrQ P w K mg base x ps sp := by
  obtain ⟨f, fd, F, hm, hb⟩ := F.ex
  obtain ⟨oc, od, kV, doc, pm, an, cdv, ct, osl, rfl, lk, hcd⟩ := F.ex
  exact ⟨f, _, fn_ofQ lk hcd S len fun A outer s H vs Q E hsp => hbody f cdv A outer s H vs Q E hsp, hm, F.kp, hb⟩
section
variable {X : Cx} {x : Str} {p pos : Pos} {e : Expr} {es : List Expr} {t : TA} {ps : List Str} {sp : Sp}
theorem pe_callQ (c : CtrQ X.prog X.w X.K X.mg X.base x ps sp) (hr : X.A.depth < recursionLimit) (hg : Gl X x) (ha : PA X (e :: es) t) (hdb : (x == ("__debug__" : Str)) = false := by decide)
    (he : starEach (e :: es) X.env = (false, eval e X.env) :: starEach es X.env := by rfl) (hpl : (backTo pos (starEach es X.env)).any (·.1) = false := by rfl) : PE X (.Call (.Name x p) (e :: es) [] pos) (tCall sp [] E0 t) := by
  intro pins s σ H Q I h
  obtain ⟨f, fd, F, hm, hk, hb⟩ := c.ex
  refine wpAny_Call_Name_kw (ld_glob I hg hm ?_ hdb)
  refine PySem.W.callWith_K (h₀ := X.base) I.ok.mod.kin hk (thn (ha pos pins s σ H _ I h) fun us s1 ⟨vs, H1, I1, r, q⟩ => ⟨I1.kIn, ?_⟩) he hpl
  have q : sp (vs ++ []) H1 Q E0 := q
  rw [List.append_nil] at q
  have hl : us.length = ps.length := by rw [← r.length]; exact F.len _ _ _ _ q
  have hb' := hb s1 us I1.kIn (by rw [List.append_nil]; exact hl)
  rw [List.append_nil] at hb'
  refine wpAny_call (codeAny_mono (F.run X.A X.stack s1 H1 ⟨us, []⟩ us vs Q E0 hr I1.env0 hb' r q) fun r s' hq => ?_)
  cases r with
  | error e => exact False.elim hq
  | ok fl =>
    cases fl with
    | ret u => exact I1.after hq
    | next => exact False.elim hq
    | brk => exact False.elim hq
    | cont => exact False.elim hq
/-- isinstance(error, T), T a built-in class -/
theorem callX_isT {K : PySem.W.Frag} (hK : X.K = K) : CallR X (.builtin "isinstance") (fun xs H Q => ∃ (a C : Addr) (n : String) (od : Option Addr) (b : Bool), xs = [.ref a, .ty n] ∧ H a = some (XH a C od) ∧ (∀ d, od = some d → ∃ u, H d = some u) ∧ Xc.XC K C ∧ PySem.W.kitOne K (.ref C) (.type n) = some b ∧ Q (.bl b) H) := by
  subst hK
  intro pins s σ H xs us Q I r h
  obtain ⟨a, C, n, od, b, rfl, hx, hd, c, k, q⟩ := h
  obtain ⟨u1, u2, rfl, r1, r2⟩ : ∃ u1 u2, us = [u1, u2] ∧ RelV (.ref a) u1 ∧ RelV (.ty n) u2 := by
    cases r with | cons r1 r2 => cases r2 with | cons r2 r3 => cases r3; exact ⟨_, _, rfl, r1, r2⟩
  cases r1
  cases r2
  refine PySem.W.kia_one (Xc.kitx c) I.kIn (XH.inst I.hok hx fun d e => ?_) k (fun z => nomatch z) fun tk => ⟨.bl b, H, I.tok _, rfl, q⟩
  obtain ⟨u, hu⟩ := hd d e
  exact (I.hok d u hu).is
end
end L2
namespace My
open PySem L2
def top (i : Nat) : Stmt := PySem.Challenge.pw_sidings_k10_refused.main.body.getD i (.Pass ⟨0, 0, 0, 0⟩)
abbrev s__wall : Stmt := top 0
abbrev s_Stuck_init : Stmt := inClass (top 6) 0
abbrev s_is_number : Stmt := top 11
abbrev s_checked_train : Stmt := top 12
abbrev s_has_two_alike : Stmt := top 13
abbrev s_checked_order : Stmt := top 14
abbrev s_checked_blind : Stmt := top 15
abbrev s_checked_count : Stmt := top 16
abbrev s_checked_many : Stmt := top 17
abbrev s_checked_moves : Stmt := top 18
abbrev s_checked_move : Stmt := top 19
abbrev s_checked_word : Stmt := top 20
abbrev s_checked_track : Stmt := top 21
abbrev s_Track_init : Stmt := inClass (top 23) 0
abbrev s_Track_is_empty : Stmt := inClass (top 23) 1
abbrev s_Track_let_in : Stmt := inClass (top 23) 2
abbrev s_Track_let_out : Stmt := inClass (top 23) 3
abbrev s_Track_standing : Stmt := inClass (top 23) 4
abbrev s_Yard_init : Stmt := inClass (top 24) 0
abbrev s_Yard_carry_out : Stmt := inClass (top 24) 1
abbrev s_Yard_carry_in : Stmt := inClass (top 24) 2
abbrev s_Yard_carry_away : Stmt := inClass (top 24) 3
abbrev s_Yard_standing_on : Stmt := inClass (top 24) 4
abbrev s_run : Stmt := top 25
abbrev s_behind : Stmt := top 26
abbrev s_ranks : Stmt := top 27
abbrev s_places_in_order : Stmt := top 28
abbrev s_written : Stmt := top 31
abbrev s_Shunted_init : Stmt := inClass (top 34) 0
abbrev s_Shunted_shows : Stmt := inClass (top 34) 1
abbrev s_Three_init : Stmt := inClass (top 35) 0
abbrev s_Three_shows : Stmt := inClass (top 35) 1
abbrev s_Odd_init : Stmt := inClass (top 36) 0
abbrev s_Odd_shows : Stmt := inClass (top 36) 1
abbrev s_Falling_init : Stmt := inClass (top 37) 0
abbrev s_Falling_shows : Stmt := inClass (top 37) 1
abbrev s_Fewest_init : Stmt := inClass (top 38) 0
abbrev s_Fewest_shows : Stmt := inClass (top 38) 1
abbrev s_Given_init : Stmt := inClass (top 39) 0
abbrev s_Given_shows : Stmt := inClass (top 39) 1
abbrev s_Thrice_init : Stmt := inClass (top 40) 0
abbrev s_Thrice_shows : Stmt := inClass (top 40) 1
abbrev s_Forest_init : Stmt := inClass (top 42) 0
abbrev s_Forest_grow : Stmt := inClass (top 42) 1
abbrev s_Forest_grow_from : Stmt := inClass (top 42) 2
abbrev s_Forest_path : Stmt := inClass (top 42) 3
abbrev s_Groups_init : Stmt := inClass (top 43) 0
abbrev s_Groups_let_come : Stmt := inClass (top 43) 1
abbrev s_Groups_let_leave : Stmt := inClass (top 43) 2
abbrev s_Groups_greater : Stmt := inClass (top 43) 3
abbrev s_forest_at_odds : Stmt := top 44
abbrev s_Shunting_init : Stmt := inClass (top 46) 0
abbrev s_Shunting_let_all_come : Stmt := inClass (top 46) 1
abbrev s_Shunting_let_those_leave_that_can : Stmt := inClass (top 46) 2
abbrev s_Shunting_is_done : Stmt := inClass (top 46) 3
abbrev s_Shunting_covered : Stmt := inClass (top 46) 4
abbrev s_Shunting_cover : Stmt := inClass (top 46) 5
abbrev s_shunted_blind : Stmt := top 47
abbrev s_last_lesser : Stmt := top 48
abbrev s_one_blind : Stmt := top 50
abbrev s_through_one_blind : Stmt := top 51
abbrev s_two_blind : Stmt := top 52
abbrev s_through : Stmt := top 53
abbrev s_fewest : Stmt := top 54
abbrev s_tracks_through : Stmt := top 55
abbrev s_first_of_a_lesser : Stmt := top 56
abbrev s_moves_through : Stmt := top 57
abbrev s_falling_to : Stmt := top 58
abbrev s_arranged : Stmt := top 59
abbrev s__law_kinds : Stmt := top 61
abbrev s__law_ask : Stmt := top 62
abbrev s__law_due : Stmt := top 63
abbrev s__law_trains : Stmt := top 64
abbrev s__law_counts : Stmt := top 65
abbrev s__law_blinds : Stmt := top 66
abbrev s__law_moves : Stmt := top 67
abbrev s__law_orders : Stmt := top 68
abbrev s_law : Stmt := top 69
abbrev lp_places_in_order : Pos := ⟨156, 42, 156, 69⟩
abbrev lq_places_in_order : Str := (PyProof.Rows.envOfC "places_in_order" (defScope s_places_in_order) 0 0 .none).qual ++ "<lambda>"
def lams : List (Str × Pos × Str) := [("places_in_order", lp_places_in_order, lq_places_in_order)]
/-- the addresses that the text's names have -/
structure Adr where
  cYardError : Addr
  cBadTrain : Addr
  cBadYard : Addr
  cBadMoves : Addr
  cStuck : Addr
  cBadText : Addr
  cTrack : Addr
  cYard : Addr
  cAnswer : Addr
  cShunted : Addr
  cThree : Addr
  cOdd : Addr
  cFalling : Addr
  cFewest : Addr
  cGiven : Addr
  cThrice : Addr
  cForest : Addr
  cGroups : Addr
  cShunting : Addr
  gWORDS : Addr
  lc_places_in_order : Addr
  lt_places_in_order : Addr
/-- the text's facts -/
structure Tx (K : PySem.W.Frag) (mg : Str → Option Value) (Z : Adr) : Prop where
  n_ValueError : mg "ValueError" = none
  n_all : mg "all" = none
  n_any : mg "any" = none
  n_bool : mg "bool" = none
  n_enumerate : mg "enumerate" = none
  n_int : mg "int" = none
  n_isinstance : mg "isinstance" = none
  n_len : mg "len" = none
  n_list : mg "list" = none
  n_range : mg "range" = none
  n_sorted : mg "sorted" = none
  n_str : mg "str" = none
  n_tuple : mg "tuple" = none
  n_zip : mg "zip" = none
  is_number : FnT K mg "is_number" s_is_number ["value"]
  checked_train : FnT K mg "checked_train" s_checked_train ["train"]
  has_two_alike : FnT K mg "has_two_alike" s_has_two_alike ["wagons"]
  checked_order : FnT K mg "checked_order" s_checked_order ["order"]
  checked_blind : FnT K mg "checked_blind" s_checked_blind ["blind"]
  checked_count : FnT K mg "checked_count" s_checked_count ["many"]
  checked_many : FnT K mg "checked_many" s_checked_many ["many"]
  checked_moves : FnT K mg "checked_moves" s_checked_moves ["moves", "many"]
  checked_move : FnT K mg "checked_move" s_checked_move ["move", "many"]
  checked_word : FnT K mg "checked_word" s_checked_word ["word"]
  checked_track : FnT K mg "checked_track" s_checked_track ["track", "many"]
  run : FnT K mg "run" s_run ["train", "blind", "many", "moves"]
  behind : FnT K mg "behind" s_behind ["one", "other"]
  ranks : FnT K mg "ranks" s_ranks ["wagons"]
  lm_places_in_order : LmT K mg "places_in_order" s_places_in_order ["wagons"] Z.lc_places_in_order Z.lt_places_in_order
  lo_places_in_order : PySem.W.tabIn K "places_in_order" = some (Z.lc_places_in_order, Z.lt_places_in_order)
  written : FnT K mg "written" s_written ["train"]
  one_blind : FnT K mg "one_blind" s_one_blind ["train"]
  through_one_blind : FnT K mg "through_one_blind" s_through_one_blind ["wagons"]
  two_blind : FnT K mg "two_blind" s_two_blind ["train"]
  through : FnT K mg "through" s_through ["train", "many"]
  fewest : FnT K mg "fewest" s_fewest ["train"]
  arranged : FnT K mg "arranged" s_arranged ["order"]
  _law_kinds : FnT K mg "_law_kinds" s__law_kinds ["_law_error"]
  _law_ask : FnT K mg "_law_ask" s__law_ask ["_law_door", "_law_thing"]
  _law_due : FnT K mg "_law_due" s__law_due ["_law_door", "_law_thing", "_law_due_here"]
  _law_trains : FnT K mg "_law_trains" s__law_trains ["_law_cell"]
  _law_counts : FnT K mg "_law_counts" s__law_counts ["_law_cell"]
  _law_blinds : FnT K mg "_law_blinds" s__law_blinds ["_law_cell"]
  _law_moves : FnT K mg "_law_moves" s__law_moves ["_law_cell"]
  _law_orders : FnT K mg "_law_orders" s__law_orders ["_law_cell"]
  c_YardError : mg "YardError" = some (.ref Z.cYardError)
  c_BadTrain : mg "BadTrain" = some (.ref Z.cBadTrain)
  c_BadYard : mg "BadYard" = some (.ref Z.cBadYard)
  c_BadMoves : mg "BadMoves" = some (.ref Z.cBadMoves)
  c_Stuck : mg "Stuck" = some (.ref Z.cStuck)
  c_BadText : mg "BadText" = some (.ref Z.cBadText)
  xc_BadMoves : Xc.XC K Z.cBadMoves
  xc_BadTrain : Xc.XC K Z.cBadTrain
  xc_BadYard : Xc.XC K Z.cBadYard
  xc_YardError : Xc.XC K Z.cYardError
  xty_YardError : PySem.W.typeIn K (.ref Z.cYardError) = some (.type "type")
  x0_BadMoves : X0 K Z.cBadMoves
  kit_BadMoves_BadTrain : PySem.W.kitOne K (.ref Z.cBadMoves) (.ref Z.cBadTrain) = some false
  kit_BadMoves_BadYard : PySem.W.kitOne K (.ref Z.cBadMoves) (.ref Z.cBadYard) = some false
  kit_BadMoves_Stuck : PySem.W.kitOne K (.ref Z.cBadMoves) (.ref Z.cStuck) = some false
  kit_BadMoves_BadText : PySem.W.kitOne K (.ref Z.cBadMoves) (.ref Z.cBadText) = some false
  kv_BadMoves : PySem.W.kitOne K (.ref Z.cBadMoves) (.type "ValueError") = some true
  mro_BadMoves_YardError : PySem.W.mroIn K Z.cBadMoves (.ref Z.cYardError) = some true
  x0_BadTrain : X0 K Z.cBadTrain
  kit_BadTrain_BadYard : PySem.W.kitOne K (.ref Z.cBadTrain) (.ref Z.cBadYard) = some false
  kit_BadTrain_BadMoves : PySem.W.kitOne K (.ref Z.cBadTrain) (.ref Z.cBadMoves) = some false
  kit_BadTrain_Stuck : PySem.W.kitOne K (.ref Z.cBadTrain) (.ref Z.cStuck) = some false
  kit_BadTrain_BadText : PySem.W.kitOne K (.ref Z.cBadTrain) (.ref Z.cBadText) = some false
  kv_BadTrain : PySem.W.kitOne K (.ref Z.cBadTrain) (.type "ValueError") = some true
  mro_BadTrain_YardError : PySem.W.mroIn K Z.cBadTrain (.ref Z.cYardError) = some true
  x0_BadYard : X0 K Z.cBadYard
  kit_BadYard_BadTrain : PySem.W.kitOne K (.ref Z.cBadYard) (.ref Z.cBadTrain) = some false
  kit_BadYard_BadMoves : PySem.W.kitOne K (.ref Z.cBadYard) (.ref Z.cBadMoves) = some false
  kit_BadYard_Stuck : PySem.W.kitOne K (.ref Z.cBadYard) (.ref Z.cStuck) = some false
  kit_BadYard_BadText : PySem.W.kitOne K (.ref Z.cBadYard) (.ref Z.cBadText) = some false
  kv_BadYard : PySem.W.kitOne K (.ref Z.cBadYard) (.type "ValueError") = some true
  mro_BadYard_YardError : PySem.W.mroIn K Z.cBadYard (.ref Z.cYardError) = some true
  g_MOST_TRACKS : ∃ t, mg "MOST_TRACKS" = some (.int 100000 t)
  g_WORDS : mg "WORDS" = some (.ref Z.gWORDS) ∧ ∀ H, SqT K H Z.gWORDS [.str "in", .str "out"]
end My
namespace My
open PySem L2
def FF (K : PySem.W.Frag) (f : Addr) (x q : Str) (st : Stmt) : Prop := ∃ fd, Fun K x q st f fd ∧ PySem.W.keepIn K (.ref f) = true
theorem FF.f {K : PySem.W.Frag} {f : Addr} {x q : Str} {st : Stmt} (h : FF K f x q st) : Fun K x q st f h.choose := h.choose_spec.1
theorem FF.k {K : PySem.W.Frag} {f : Addr} {x q : Str} {st : Stmt} (h : FF K f x q st) : PySem.W.keepIn K (.ref f) = true := h.choose_spec.2
theorem FF.of {K : PySem.W.Frag} {x q : Str} {st : Stmt} {f : Addr} {oc : Value} {od an : Option Addr} {osl : Array (Option Value)} {kV doc pm cdv ct : Value} (l : K.lookup f = some ⟨oc, od, .func (PySem.W.fnOf x q (defArgs st) (defBody st) (defScope st) .none kV doc pm an cdv ct), osl⟩)
    (c : PySem.W.codeIn K cdv q = true) (k : PySem.W.keepIn K (.ref f) = true) : FF K f x q st := ⟨_, fun_mk l c k, k⟩
def sp_law (K : PySem.W.Frag) : Sp := fun vs H Q _ => ∃ (a : Addr) (ns : List Int), vs = [.ref a] ∧ SqL K H a (ns.map V.int) ∧ ns.length ≤ 63 ∧ TabsIn K lams H ∧ ∀ H', Q (.bl true) H'
abbrev OkL (l : PySem.W.OpenLaw) : Prop := ∀ {w : World} {K : PySem.W.Frag} {mg : Str → Option Value} {base : Heap} {Z : Adr} {f : Addr} {fd : FuncData}, Tx K mg Z → Fun K "law" "law" s_law f fd → FnOk l.prog w K mg base CX0 11 f fd ["_law_script"] (sp_law K)
theorem all_mk {l : PySem.W.OpenLaw} {w : World} {K : PySem.W.Frag} {h : Heap} {mg : Str → Option Value} {fa : Addr} (ok : OkL l) (X : K.In h) (G : h.Ns mainGlobals mg) (hfa : mg "law" = some (.ref fa))
    {f1 : Addr}
    {f2 : Addr}
    {f3 : Addr}
    {f4 : Addr}
    {f5 : Addr}
    {f6 : Addr}
    {f7 : Addr}
    {f8 : Addr}
    {f9 : Addr}
    {f10 : Addr}
    {f11 : Addr}
    {f12 : Addr}
    {f13 : Addr}
    {f14 : Addr}
    {f15 : Addr} {od15 an15 : Option Addr} {sl15 : Array (Option Value)} {oc15 kV15 dc15 pm15 cd15 ct15 : Value}
    {Lc15 Lt15 : Addr}
    {f16 : Addr}
    {f20 : Addr}
    {f21 : Addr}
    {f22 : Addr}
    {f23 : Addr}
    {f24 : Addr}
    {f29 : Addr}
    {f30 : Addr}
    {f31 : Addr}
    {f32 : Addr}
    {f33 : Addr}
    {f34 : Addr}
    {f35 : Addr}
    {f36 : Addr}
    {f37 : Addr}
    {f38 : Addr} {od38 an38 : Option Addr} {sl38 : Array (Option Value)} {oc38 kV38 dc38 pm38 cd38 ct38 : Value}
    {CYardError : Addr}
    {CBadTrain : Addr}
    {CBadYard : Addr}
    {CBadMoves : Addr}
    {CStuck : Addr}
    {CBadText : Addr}
    {CTrack : Addr}
    {CYard : Addr}
    {CAnswer : Addr}
    {CShunted : Addr}
    {CThree : Addr}
    {COdd : Addr}
    {CFalling : Addr}
    {CFewest : Addr}
    {CGiven : Addr}
    {CThrice : Addr}
    {CForest : Addr}
    {CGroups : Addr}
    {CShunting : Addr}
    {tMOST_TRACKS : Tok}
    {GWORDS : Addr} {tWORDS0 tWORDS1 : Tok} {odWORDS : Option Addr} {nWORDS : Nat} {slWORDS : Array (Option Value)}
    (n_ValueError : PySem.W.nsIn K mainGlobals "ValueError" = some none)
    (n_all : PySem.W.nsIn K mainGlobals "all" = some none)
    (n_any : PySem.W.nsIn K mainGlobals "any" = some none)
    (n_bool : PySem.W.nsIn K mainGlobals "bool" = some none)
    (n_enumerate : PySem.W.nsIn K mainGlobals "enumerate" = some none)
    (n_int : PySem.W.nsIn K mainGlobals "int" = some none)
    (n_isinstance : PySem.W.nsIn K mainGlobals "isinstance" = some none)
    (n_len : PySem.W.nsIn K mainGlobals "len" = some none)
    (n_list : PySem.W.nsIn K mainGlobals "list" = some none)
    (n_range : PySem.W.nsIn K mainGlobals "range" = some none)
    (n_sorted : PySem.W.nsIn K mainGlobals "sorted" = some none)
    (n_str : PySem.W.nsIn K mainGlobals "str" = some none)
    (n_tuple : PySem.W.nsIn K mainGlobals "tuple" = some none)
    (n_zip : PySem.W.nsIn K mainGlobals "zip" = some none)
    (a1 : PySem.W.nsIn K mainGlobals "is_number" = some (some (.ref f1)))
    (a2 : PySem.W.nsIn K mainGlobals "checked_train" = some (some (.ref f2)))
    (a3 : PySem.W.nsIn K mainGlobals "has_two_alike" = some (some (.ref f3)))
    (a4 : PySem.W.nsIn K mainGlobals "checked_order" = some (some (.ref f4)))
    (a5 : PySem.W.nsIn K mainGlobals "checked_blind" = some (some (.ref f5)))
    (a6 : PySem.W.nsIn K mainGlobals "checked_count" = some (some (.ref f6)))
    (a7 : PySem.W.nsIn K mainGlobals "checked_many" = some (some (.ref f7)))
    (a8 : PySem.W.nsIn K mainGlobals "checked_moves" = some (some (.ref f8)))
    (a9 : PySem.W.nsIn K mainGlobals "checked_move" = some (some (.ref f9)))
    (a10 : PySem.W.nsIn K mainGlobals "checked_word" = some (some (.ref f10)))
    (a11 : PySem.W.nsIn K mainGlobals "checked_track" = some (some (.ref f11)))
    (a12 : PySem.W.nsIn K mainGlobals "run" = some (some (.ref f12)))
    (a13 : PySem.W.nsIn K mainGlobals "behind" = some (some (.ref f13)))
    (a14 : PySem.W.nsIn K mainGlobals "ranks" = some (some (.ref f14)))
    (a15 : PySem.W.nsIn K mainGlobals "places_in_order" = some (some (.ref f15)))
    (l15 : K.lookup f15 = some ⟨oc15, od15, .func (PySem.W.fnOf "places_in_order" "places_in_order" (defArgs s_places_in_order) (defBody s_places_in_order) (defScope s_places_in_order) .none kV15 dc15 pm15 an15 cd15 ct15), sl15⟩)
    (c15 : PySem.W.codeIn K cd15 "places_in_order" = true)
    (k15 : PySem.W.keepIn K (.ref f15) = true)
    (lt15 : PySem.W.tabIn K "places_in_order" = some (Lc15, Lt15))
    (lc15 : cd15 = .ref Lc15)
    (lh15 : PySem.W.codeHdIn K Lc15 Lt15 = true)
    (a16 : PySem.W.nsIn K mainGlobals "written" = some (some (.ref f16)))
    (a20 : PySem.W.nsIn K mainGlobals "one_blind" = some (some (.ref f20)))
    (a21 : PySem.W.nsIn K mainGlobals "through_one_blind" = some (some (.ref f21)))
    (a22 : PySem.W.nsIn K mainGlobals "two_blind" = some (some (.ref f22)))
    (a23 : PySem.W.nsIn K mainGlobals "through" = some (some (.ref f23)))
    (a24 : PySem.W.nsIn K mainGlobals "fewest" = some (some (.ref f24)))
    (a29 : PySem.W.nsIn K mainGlobals "arranged" = some (some (.ref f29)))
    (a30 : PySem.W.nsIn K mainGlobals "_law_kinds" = some (some (.ref f30)))
    (a31 : PySem.W.nsIn K mainGlobals "_law_ask" = some (some (.ref f31)))
    (a32 : PySem.W.nsIn K mainGlobals "_law_due" = some (some (.ref f32)))
    (a33 : PySem.W.nsIn K mainGlobals "_law_trains" = some (some (.ref f33)))
    (a34 : PySem.W.nsIn K mainGlobals "_law_counts" = some (some (.ref f34)))
    (a35 : PySem.W.nsIn K mainGlobals "_law_blinds" = some (some (.ref f35)))
    (a36 : PySem.W.nsIn K mainGlobals "_law_moves" = some (some (.ref f36)))
    (a37 : PySem.W.nsIn K mainGlobals "_law_orders" = some (some (.ref f37)))
    (a38 : PySem.W.nsIn K mainGlobals "law" = some (some (.ref f38)))
    (l38 : K.lookup f38 = some ⟨oc38, od38, .func (PySem.W.fnOf "law" "law" (defArgs s_law) (defBody s_law) (defScope s_law) .none kV38 dc38 pm38 an38 cd38 ct38), sl38⟩)
    (c38 : PySem.W.codeIn K cd38 "law" = true)
    (k38 : PySem.W.keepIn K (.ref f38) = true)
    (aCYardError : PySem.W.nsIn K mainGlobals "YardError" = some (some (.ref CYardError)))
    (aCBadTrain : PySem.W.nsIn K mainGlobals "BadTrain" = some (some (.ref CBadTrain)))
    (aCBadYard : PySem.W.nsIn K mainGlobals "BadYard" = some (some (.ref CBadYard)))
    (aCBadMoves : PySem.W.nsIn K mainGlobals "BadMoves" = some (some (.ref CBadMoves)))
    (aCStuck : PySem.W.nsIn K mainGlobals "Stuck" = some (some (.ref CStuck)))
    (aCBadText : PySem.W.nsIn K mainGlobals "BadText" = some (some (.ref CBadText)))
    (aCTrack : PySem.W.nsIn K mainGlobals "Track" = some (some (.ref CTrack)))
    (aCYard : PySem.W.nsIn K mainGlobals "Yard" = some (some (.ref CYard)))
    (aCAnswer : PySem.W.nsIn K mainGlobals "Answer" = some (some (.ref CAnswer)))
    (aCShunted : PySem.W.nsIn K mainGlobals "Shunted" = some (some (.ref CShunted)))
    (aCThree : PySem.W.nsIn K mainGlobals "Three" = some (some (.ref CThree)))
    (aCOdd : PySem.W.nsIn K mainGlobals "Odd" = some (some (.ref COdd)))
    (aCFalling : PySem.W.nsIn K mainGlobals "Falling" = some (some (.ref CFalling)))
    (aCFewest : PySem.W.nsIn K mainGlobals "Fewest" = some (some (.ref CFewest)))
    (aCGiven : PySem.W.nsIn K mainGlobals "Given" = some (some (.ref CGiven)))
    (aCThrice : PySem.W.nsIn K mainGlobals "Thrice" = some (some (.ref CThrice)))
    (aCForest : PySem.W.nsIn K mainGlobals "Forest" = some (some (.ref CForest)))
    (aCGroups : PySem.W.nsIn K mainGlobals "Groups" = some (some (.ref CGroups)))
    (aCShunting : PySem.W.nsIn K mainGlobals "Shunting" = some (some (.ref CShunting)))
    (xcmBadMoves : (PySem.W.clsIn K CBadMoves).any (fun cd => Xc.overVE cd.mro) = true)
    (xchBadMoves : PySem.W.hasDictIn K CBadMoves = true)
    (xcgBadMoves : PySem.W.findIn K (.ref CBadMoves) "__getattribute__" = some (some (.builtin "BaseException.__getattribute__")))
    (xcyBadMoves : PySem.W.findIn K (.ref CBadMoves) "__getattr__" = some none)
    (xcsBadMoves : PySem.W.findIn K (.ref CBadMoves) "__setattr__" = some (some (.builtin "object.__setattr__")))
    (xcaBadMoves : PySem.W.findIn K (.ref CBadMoves) "__class__" = some (some (.builtin "object.__class__")))
    (xcdBadMoves : PySem.W.specialIn K (.builtin "object.__class__") "__get__" = some (some (.builtin "getset_descriptor.__get__")))
    (xctBadMoves : PySem.W.takesIn K (.builtin "object.__class__") = some true)
    (xcmBadTrain : (PySem.W.clsIn K CBadTrain).any (fun cd => Xc.overVE cd.mro) = true)
    (xchBadTrain : PySem.W.hasDictIn K CBadTrain = true)
    (xcgBadTrain : PySem.W.findIn K (.ref CBadTrain) "__getattribute__" = some (some (.builtin "BaseException.__getattribute__")))
    (xcyBadTrain : PySem.W.findIn K (.ref CBadTrain) "__getattr__" = some none)
    (xcsBadTrain : PySem.W.findIn K (.ref CBadTrain) "__setattr__" = some (some (.builtin "object.__setattr__")))
    (xcaBadTrain : PySem.W.findIn K (.ref CBadTrain) "__class__" = some (some (.builtin "object.__class__")))
    (xcdBadTrain : PySem.W.specialIn K (.builtin "object.__class__") "__get__" = some (some (.builtin "getset_descriptor.__get__")))
    (xctBadTrain : PySem.W.takesIn K (.builtin "object.__class__") = some true)
    (xcmBadYard : (PySem.W.clsIn K CBadYard).any (fun cd => Xc.overVE cd.mro) = true)
    (xchBadYard : PySem.W.hasDictIn K CBadYard = true)
    (xcgBadYard : PySem.W.findIn K (.ref CBadYard) "__getattribute__" = some (some (.builtin "BaseException.__getattribute__")))
    (xcyBadYard : PySem.W.findIn K (.ref CBadYard) "__getattr__" = some none)
    (xcsBadYard : PySem.W.findIn K (.ref CBadYard) "__setattr__" = some (some (.builtin "object.__setattr__")))
    (xcaBadYard : PySem.W.findIn K (.ref CBadYard) "__class__" = some (some (.builtin "object.__class__")))
    (xcdBadYard : PySem.W.specialIn K (.builtin "object.__class__") "__get__" = some (some (.builtin "getset_descriptor.__get__")))
    (xctBadYard : PySem.W.takesIn K (.builtin "object.__class__") = some true)
    (xcmYardError : (PySem.W.clsIn K CYardError).any (fun cd => Xc.overVE cd.mro) = true)
    (xchYardError : PySem.W.hasDictIn K CYardError = true)
    (xcgYardError : PySem.W.findIn K (.ref CYardError) "__getattribute__" = some (some (.builtin "BaseException.__getattribute__")))
    (xcyYardError : PySem.W.findIn K (.ref CYardError) "__getattr__" = some none)
    (xcsYardError : PySem.W.findIn K (.ref CYardError) "__setattr__" = some (some (.builtin "object.__setattr__")))
    (xcaYardError : PySem.W.findIn K (.ref CYardError) "__class__" = some (some (.builtin "object.__class__")))
    (xcdYardError : PySem.W.specialIn K (.builtin "object.__class__") "__get__" = some (some (.builtin "getset_descriptor.__get__")))
    (xctYardError : PySem.W.takesIn K (.builtin "object.__class__") = some true)
    (xtyYardError : PySem.W.typeIn K (.ref CYardError) = some (.type "type"))
    (x0xBadMoves : xIn K CBadMoves = true)
    (x0nBadMoves : ((PySem.W.clsIn K CBadMoves).bind fun cd => PySem.W.nsIn K cd.ns "__init__") = some none)
    (x0kBadMoves : PySem.W.keepIn K (.ref CBadMoves) = true)
    (kitBadMoves_BadTrain : PySem.W.kitOne K (.ref CBadMoves) (.ref CBadTrain) = some false)
    (kitBadMoves_BadYard : PySem.W.kitOne K (.ref CBadMoves) (.ref CBadYard) = some false)
    (kitBadMoves_Stuck : PySem.W.kitOne K (.ref CBadMoves) (.ref CStuck) = some false)
    (kitBadMoves_BadText : PySem.W.kitOne K (.ref CBadMoves) (.ref CBadText) = some false)
    (kvBadMoves : PySem.W.kitOne K (.ref CBadMoves) (.type "ValueError") = some true)
    (mroBadMoves_YardError : PySem.W.mroIn K CBadMoves (.ref CYardError) = some true)
    (x0xBadTrain : xIn K CBadTrain = true)
    (x0nBadTrain : ((PySem.W.clsIn K CBadTrain).bind fun cd => PySem.W.nsIn K cd.ns "__init__") = some none)
    (x0kBadTrain : PySem.W.keepIn K (.ref CBadTrain) = true)
    (kitBadTrain_BadYard : PySem.W.kitOne K (.ref CBadTrain) (.ref CBadYard) = some false)
    (kitBadTrain_BadMoves : PySem.W.kitOne K (.ref CBadTrain) (.ref CBadMoves) = some false)
    (kitBadTrain_Stuck : PySem.W.kitOne K (.ref CBadTrain) (.ref CStuck) = some false)
    (kitBadTrain_BadText : PySem.W.kitOne K (.ref CBadTrain) (.ref CBadText) = some false)
    (kvBadTrain : PySem.W.kitOne K (.ref CBadTrain) (.type "ValueError") = some true)
    (mroBadTrain_YardError : PySem.W.mroIn K CBadTrain (.ref CYardError) = some true)
    (x0xBadYard : xIn K CBadYard = true)
    (x0nBadYard : ((PySem.W.clsIn K CBadYard).bind fun cd => PySem.W.nsIn K cd.ns "__init__") = some none)
    (x0kBadYard : PySem.W.keepIn K (.ref CBadYard) = true)
    (kitBadYard_BadTrain : PySem.W.kitOne K (.ref CBadYard) (.ref CBadTrain) = some false)
    (kitBadYard_BadMoves : PySem.W.kitOne K (.ref CBadYard) (.ref CBadMoves) = some false)
    (kitBadYard_Stuck : PySem.W.kitOne K (.ref CBadYard) (.ref CStuck) = some false)
    (kitBadYard_BadText : PySem.W.kitOne K (.ref CBadYard) (.ref CBadText) = some false)
    (kvBadYard : PySem.W.kitOne K (.ref CBadYard) (.type "ValueError") = some true)
    (mroBadYard_YardError : PySem.W.mroIn K CBadYard (.ref CYardError) = some true)
    (gMOST_TRACKS : PySem.W.nsIn K mainGlobals "MOST_TRACKS" = some (some (.int 100000 tMOST_TRACKS)))
    (gWORDS : PySem.W.nsIn K mainGlobals "WORDS" = some (some (.ref GWORDS)))
    (glWORDS : K.lookup GWORDS = some ⟨.type "tuple", odWORDS, .seq #[.str "in" tWORDS0, .str "out" tWORDS1] nWORDS, slWORDS⟩)
    (H1 : FF K f1 "is_number" "is_number" s_is_number)
    (H2 : FF K f2 "checked_train" "checked_train" s_checked_train)
    (H3 : FF K f3 "has_two_alike" "has_two_alike" s_has_two_alike)
    (H4 : FF K f4 "checked_order" "checked_order" s_checked_order)
    (H5 : FF K f5 "checked_blind" "checked_blind" s_checked_blind)
    (H6 : FF K f6 "checked_count" "checked_count" s_checked_count)
    (H7 : FF K f7 "checked_many" "checked_many" s_checked_many)
    (H8 : FF K f8 "checked_moves" "checked_moves" s_checked_moves)
    (H9 : FF K f9 "checked_move" "checked_move" s_checked_move)
    (H10 : FF K f10 "checked_word" "checked_word" s_checked_word)
    (H11 : FF K f11 "checked_track" "checked_track" s_checked_track)
    (H12 : FF K f12 "run" "run" s_run)
    (H13 : FF K f13 "behind" "behind" s_behind)
    (H14 : FF K f14 "ranks" "ranks" s_ranks)
    (H16 : FF K f16 "written" "written" s_written)
    (H20 : FF K f20 "one_blind" "one_blind" s_one_blind)
    (H21 : FF K f21 "through_one_blind" "through_one_blind" s_through_one_blind)
    (H22 : FF K f22 "two_blind" "two_blind" s_two_blind)
    (H23 : FF K f23 "through" "through" s_through)
    (H24 : FF K f24 "fewest" "fewest" s_fewest)
    (H29 : FF K f29 "arranged" "arranged" s_arranged)
    (H30 : FF K f30 "_law_kinds" "_law_kinds" s__law_kinds)
    (H31 : FF K f31 "_law_ask" "_law_ask" s__law_ask)
    (H32 : FF K f32 "_law_due" "_law_due" s__law_due)
    (H33 : FF K f33 "_law_trains" "_law_trains" s__law_trains)
    (H34 : FF K f34 "_law_counts" "_law_counts" s__law_counts)
    (H35 : FF K f35 "_law_blinds" "_law_blinds" s__law_blinds)
    (H36 : FF K f36 "_law_moves" "_law_moves" s__law_moves)
    (H37 : FF K f37 "_law_orders" "_law_orders" s__law_orders)
    : ∃ fd : FuncData, (∀ (s : Shared) (v : Value), BindsTo s fd ⟨[v], []⟩ [("_law_script", v)]) ∧ ∀ base : Heap, K.In base → base.Ns mainGlobals mg → FnOk l.prog w K mg base CX0 11 fa fd ["_law_script"] (sp_law K) := by
  have e := hfa.symm.trans (PySem.W.mg_of X G a38)
  cases e
  have F1 := H1.f
  have b1 := F1.binds (ps := ["value"]) fun _ _ _ _ _ _ us hl => match us, hl with | [_], _ => rfl
  have F2 := H2.f
  have b2 := F2.binds (ps := ["train"]) fun _ _ _ _ _ _ us hl => match us, hl with | [_], _ => rfl
  have F3 := H3.f
  have b3 := F3.binds (ps := ["wagons"]) fun _ _ _ _ _ _ us hl => match us, hl with | [_], _ => rfl
  have F4 := H4.f
  have b4 := F4.binds (ps := ["order"]) fun _ _ _ _ _ _ us hl => match us, hl with | [_], _ => rfl
  have F5 := H5.f
  have b5 := F5.binds (ps := ["blind"]) fun _ _ _ _ _ _ us hl => match us, hl with | [_], _ => rfl
  have F6 := H6.f
  have b6 := F6.binds (ps := ["many"]) fun _ _ _ _ _ _ us hl => match us, hl with | [_], _ => rfl
  have F7 := H7.f
  have b7 := F7.binds (ps := ["many"]) fun _ _ _ _ _ _ us hl => match us, hl with | [_], _ => rfl
  have F8 := H8.f
  have b8 := F8.binds (ps := ["moves", "many"]) fun _ _ _ _ _ _ us hl => match us, hl with | [_, _], _ => rfl
  have F9 := H9.f
  have b9 := F9.binds (ps := ["move", "many"]) fun _ _ _ _ _ _ us hl => match us, hl with | [_, _], _ => rfl
  have F10 := H10.f
  have b10 := F10.binds (ps := ["word"]) fun _ _ _ _ _ _ us hl => match us, hl with | [_], _ => rfl
  have F11 := H11.f
  have b11 := F11.binds (ps := ["track", "many"]) fun _ _ _ _ _ _ us hl => match us, hl with | [_, _], _ => rfl
  have F12 := H12.f
  have b12 := F12.binds (ps := ["train", "blind", "many", "moves"]) fun _ _ _ _ _ _ us hl => match us, hl with | [_, _, _, _], _ => rfl
  have F13 := H13.f
  have b13 := F13.binds (ps := ["one", "other"]) fun _ _ _ _ _ _ us hl => match us, hl with | [_, _], _ => rfl
  have F14 := H14.f
  have b14 := F14.binds (ps := ["wagons"]) fun _ _ _ _ _ _ us hl => match us, hl with | [_], _ => rfl
  have F15 := fun_mk (st := s_places_in_order) l15 c15 k15
  have b15 := F15.binds (ps := ["wagons"]) fun _ _ _ _ _ _ us hl => match us, hl with | [_], _ => rfl
  have F16 := H16.f
  have b16 := F16.binds (ps := ["train"]) fun _ _ _ _ _ _ us hl => match us, hl with | [_], _ => rfl
  have F20 := H20.f
  have b20 := F20.binds (ps := ["train"]) fun _ _ _ _ _ _ us hl => match us, hl with | [_], _ => rfl
  have F21 := H21.f
  have b21 := F21.binds (ps := ["wagons"]) fun _ _ _ _ _ _ us hl => match us, hl with | [_], _ => rfl
  have F22 := H22.f
  have b22 := F22.binds (ps := ["train"]) fun _ _ _ _ _ _ us hl => match us, hl with | [_], _ => rfl
  have F23 := H23.f
  have b23 := F23.binds (ps := ["train", "many"]) fun _ _ _ _ _ _ us hl => match us, hl with | [_, _], _ => rfl
  have F24 := H24.f
  have b24 := F24.binds (ps := ["train"]) fun _ _ _ _ _ _ us hl => match us, hl with | [_], _ => rfl
  have F29 := H29.f
  have b29 := F29.binds (ps := ["order"]) fun _ _ _ _ _ _ us hl => match us, hl with | [_], _ => rfl
  have F30 := H30.f
  have b30 := F30.binds (ps := ["_law_error"]) fun _ _ _ _ _ _ us hl => match us, hl with | [_], _ => rfl
  have F31 := H31.f
  have b31 := F31.binds (ps := ["_law_door", "_law_thing"]) fun _ _ _ _ _ _ us hl => match us, hl with | [_, _], _ => rfl
  have F32 := H32.f
  have b32 := F32.binds (ps := ["_law_door", "_law_thing", "_law_due_here"]) fun _ _ _ _ _ _ us hl => match us, hl with | [_, _, _], _ => rfl
  have F33 := H33.f
  have b33 := F33.binds (ps := ["_law_cell"]) fun _ _ _ _ _ _ us hl => match us, hl with | [_], _ => rfl
  have F34 := H34.f
  have b34 := F34.binds (ps := ["_law_cell"]) fun _ _ _ _ _ _ us hl => match us, hl with | [_], _ => rfl
  have F35 := H35.f
  have b35 := F35.binds (ps := ["_law_cell"]) fun _ _ _ _ _ _ us hl => match us, hl with | [_], _ => rfl
  have F36 := H36.f
  have b36 := F36.binds (ps := ["_law_cell"]) fun _ _ _ _ _ _ us hl => match us, hl with | [_], _ => rfl
  have F37 := H37.f
  have b37 := F37.binds (ps := ["_law_cell"]) fun _ _ _ _ _ _ us hl => match us, hl with | [_], _ => rfl
  have F38 := fun_mk (st := s_law) l38 c38 k38
  have T : Tx K mg ⟨CYardError, CBadTrain, CBadYard, CBadMoves, CStuck, CBadText, CTrack, CYard, CAnswer, CShunted, CThree, COdd, CFalling, CFewest, CGiven, CThrice, CForest, CGroups, CShunting, GWORDS, Lc15, Lt15⟩ := ⟨PySem.W.mg_none_of X G n_ValueError,
    PySem.W.mg_none_of X G n_all,
    PySem.W.mg_none_of X G n_any,
    PySem.W.mg_none_of X G n_bool,
    PySem.W.mg_none_of X G n_enumerate,
    PySem.W.mg_none_of X G n_int,
    PySem.W.mg_none_of X G n_isinstance,
    PySem.W.mg_none_of X G n_len,
    PySem.W.mg_none_of X G n_list,
    PySem.W.mg_none_of X G n_range,
    PySem.W.mg_none_of X G n_sorted,
    PySem.W.mg_none_of X G n_str,
    PySem.W.mg_none_of X G n_tuple,
    PySem.W.mg_none_of X G n_zip,
    ⟨⟨_, _, F1, PySem.W.mg_of X G a1, b1⟩⟩,
    ⟨⟨_, _, F2, PySem.W.mg_of X G a2, b2⟩⟩,
    ⟨⟨_, _, F3, PySem.W.mg_of X G a3, b3⟩⟩,
    ⟨⟨_, _, F4, PySem.W.mg_of X G a4, b4⟩⟩,
    ⟨⟨_, _, F5, PySem.W.mg_of X G a5, b5⟩⟩,
    ⟨⟨_, _, F6, PySem.W.mg_of X G a6, b6⟩⟩,
    ⟨⟨_, _, F7, PySem.W.mg_of X G a7, b7⟩⟩,
    ⟨⟨_, _, F8, PySem.W.mg_of X G a8, b8⟩⟩,
    ⟨⟨_, _, F9, PySem.W.mg_of X G a9, b9⟩⟩,
    ⟨⟨_, _, F10, PySem.W.mg_of X G a10, b10⟩⟩,
    ⟨⟨_, _, F11, PySem.W.mg_of X G a11, b11⟩⟩,
    ⟨⟨_, _, F12, PySem.W.mg_of X G a12, b12⟩⟩,
    ⟨⟨_, _, F13, PySem.W.mg_of X G a13, b13⟩⟩,
    ⟨⟨_, _, F14, PySem.W.mg_of X G a14, b14⟩⟩,
    ⟨⟨_, _, F15, PySem.W.mg_of X G a15, b15, lc15⟩, lh15⟩,
    lt15,
    ⟨⟨_, _, F16, PySem.W.mg_of X G a16, b16⟩⟩,
    ⟨⟨_, _, F20, PySem.W.mg_of X G a20, b20⟩⟩,
    ⟨⟨_, _, F21, PySem.W.mg_of X G a21, b21⟩⟩,
    ⟨⟨_, _, F22, PySem.W.mg_of X G a22, b22⟩⟩,
    ⟨⟨_, _, F23, PySem.W.mg_of X G a23, b23⟩⟩,
    ⟨⟨_, _, F24, PySem.W.mg_of X G a24, b24⟩⟩,
    ⟨⟨_, _, F29, PySem.W.mg_of X G a29, b29⟩⟩,
    ⟨⟨_, _, F30, PySem.W.mg_of X G a30, b30⟩⟩,
    ⟨⟨_, _, F31, PySem.W.mg_of X G a31, b31⟩⟩,
    ⟨⟨_, _, F32, PySem.W.mg_of X G a32, b32⟩⟩,
    ⟨⟨_, _, F33, PySem.W.mg_of X G a33, b33⟩⟩,
    ⟨⟨_, _, F34, PySem.W.mg_of X G a34, b34⟩⟩,
    ⟨⟨_, _, F35, PySem.W.mg_of X G a35, b35⟩⟩,
    ⟨⟨_, _, F36, PySem.W.mg_of X G a36, b36⟩⟩,
    ⟨⟨_, _, F37, PySem.W.mg_of X G a37, b37⟩⟩,
    PySem.W.mg_of X G aCYardError,
    PySem.W.mg_of X G aCBadTrain,
    PySem.W.mg_of X G aCBadYard,
    PySem.W.mg_of X G aCBadMoves,
    PySem.W.mg_of X G aCStuck,
    PySem.W.mg_of X G aCBadText,
    ⟨xcmBadMoves, xchBadMoves, xcgBadMoves, xcyBadMoves, xcsBadMoves, xcaBadMoves, xcdBadMoves, xctBadMoves⟩,
    ⟨xcmBadTrain, xchBadTrain, xcgBadTrain, xcyBadTrain, xcsBadTrain, xcaBadTrain, xcdBadTrain, xctBadTrain⟩,
    ⟨xcmBadYard, xchBadYard, xcgBadYard, xcyBadYard, xcsBadYard, xcaBadYard, xcdBadYard, xctBadYard⟩,
    ⟨xcmYardError, xchYardError, xcgYardError, xcyYardError, xcsYardError, xcaYardError, xcdYardError, xctYardError⟩,
    xtyYardError,
    ⟨x0xBadMoves, x0nBadMoves, x0kBadMoves⟩,
    kitBadMoves_BadTrain,
    kitBadMoves_BadYard,
    kitBadMoves_Stuck,
    kitBadMoves_BadText,
    kvBadMoves,
    mroBadMoves_YardError,
    ⟨x0xBadTrain, x0nBadTrain, x0kBadTrain⟩,
    kitBadTrain_BadYard,
    kitBadTrain_BadMoves,
    kitBadTrain_Stuck,
    kitBadTrain_BadText,
    kvBadTrain,
    mroBadTrain_YardError,
    ⟨x0xBadYard, x0nBadYard, x0kBadYard⟩,
    kitBadYard_BadTrain,
    kitBadYard_BadMoves,
    kitBadYard_Stuck,
    kitBadYard_BadText,
    kvBadYard,
    mroBadYard_YardError,
    ⟨_, PySem.W.mg_of X G gMOST_TRACKS⟩,
    ⟨PySem.W.mg_of X G gWORDS, fun H => .inr ⟨_, _, _, glWORDS, rfl, rfl, (by show 2 ≤ sizeLine; decide), .cons ⟨_, rfl⟩ (.cons ⟨_, rfl⟩ (.nil))⟩⟩⟩
  exact ⟨_, fun s v => .of_eq rfl, fun base _ _ => ok T F38⟩
theorem walk {l : PySem.W.OpenLaw} {q : Program} {loose : List Str} {XP : (Str → Option Value) → Heap → Prop} {YP : World → Heap → Prop} {d : DefRec} {K : Params → PySem.W.Frag} (hn : l.most = some 63) (hdf : d.params.defaults = [])
    (hY : ∀ (w : World) (h : Heap), YP w h → (K w.params).In h)
    (hL : ∀ e ∈ lams, ∃ d', (PyProof.Rows.recsOf q).find? (fun r => r.name == e.1) = some d') (hK : ∀ (w : World), ∀ e ∈ lams, ∀ c P, PySem.W.tabIn (K w.params) e.1 = some (c, P) → (K w.params).lookup P = none)
    (F : ∀ (w : World) (mg : Str → Option Value) (fa : Addr) (h : Heap), (K w.params).In h → h.Ns mainGlobals mg → mg d.name = some (.ref fa) →
      ∃ fd : FuncData, (∀ (s : Shared) (u : Value), BindsTo s fd ⟨[u], []⟩ [("_law_script", u)]) ∧ ∀ base : Heap, (K w.params).In base → base.Ns mainGlobals mg → FnOk l.prog w (K w.params) mg base CX0 11 fa fd ["_law_script"] (sp_law (K w.params))) :
    PySem.W.WalkO q loose XP YP l.row.toRowW d [] (fun f vs => PySem.call f vs) :=
  L2.walk_ofT (n := 63) (k := 11) (x := "_law_script") (CX := fun _ => CX0) (sp := fun w => sp_law (K w.params)) lams hn (by decide) hdf ⟨rfl, by decide, by decide⟩ hY hL hK F (fun _ _ a ns hl hT hS => ⟨a, ns, rfl, hS, hl, hT, fun _ => rfl⟩) fun _ _ _ _ _ z => z
theorem lam_free {K : PySem.W.Frag} {c0 p0 : Addr} (a0 : PySem.W.tabIn K "places_in_order" = some (c0, p0)) (b0 : K.lookup p0 = none) : ∀ e ∈ lams, ∀ c P, PySem.W.tabIn K e.1 = some (c, P) → K.lookup P = none := by
  intro e he c P h
  simp only [lams, List.mem_cons, List.mem_nil_iff, or_false] at he
  rcases he with rfl
  · rw [a0] at h; cases h; exact b0
end My
section
open PySem PySem.W PyProof.Rows
local macro_rules | `(tactic| o_head $H) => `(tactic| (
  refine holds_open (q := My.pwv) (loose := []) (Xt := fun s => xlAt My.pwv [] s && recOk (RowW.records _) s) (XP := XL My.pwv []) (Yf := Hook.obs $H) (Ya := Hook.val $H) (YP := Hook.says $H) (N := 20000)
    (L2.left_of_T3 (p := PySem.Challenge.pw_sidings_k10_refused) (H₀ := boot_heap) (T₀ := fun P => L2.treeOf (boot_heap P).objs.toList) (life := (boot_heap (aWorld 1).params).life) (d₀ := boot_drawn) (k₀ := boot_toks) (m₀ := 11) (ann := some (.ref 6)) (boot_open (by kernel_rfl!) (by decide) (fun s => by kernel_rfl!)) (fun P => by kernel_rfl!) (fun w => by kernel_rfl!) My.seen_a My.seen_b ?obs)
    (Hook.of $H) (Hook.keeps $H) (fun s e => xl_of s (Bool.and_eq_true_iff.mp e).1) XL.keeps (by rfl) (by rfl) (by rfl) (fun s e => recFacts_of (Bool.and_eq_true_iff.mp e).2) (by rfl) (by first | assumption | decide +kernel) (by decide +kernel) ⟨rfl, rfl, rfl, rfl, rfl, by decide +kernel⟩ ?hw ?hc))
set_option maxRecDepth 100000 in
set_option maxHeartbeats 0 in
theorem My.early (ok : My.OkL PySem.Challenge.rw_sidings_k10_refused) : PySem.Challenge.rw_sidings_k10_refused.Holds := by
  w_on; o_law; k_head
  (case obs =>
    intro w os
    rewrite [PySem.W.Fast.te10156331382660048174, PySem.W.Fast.te11892475500146522536, PySem.W.Fast.te14364793385576792824]
    kernel_rfl)
  (case hw => w_witness2)
  k_fill
  refine My.walk (l := PySem.Challenge.rw_sidings_k10_refused) rfl rfl (fun w h Y => by first | exact PySem.W.km_in_of Y | exact PySem.W.kIn_of Y) ?hL ?hK ?F
  case hL =>
    intro e he
    simp only [My.lams, List.mem_cons, List.mem_nil_iff, or_false] at he
    rcases he with rfl <;> exact ⟨_, rfl⟩
  case hK =>
    intro w
    refine' My.lam_free ?a0 ?b0
    (case a0 => first | k_is | kernel_rfl! | exact rfl)
    (case b0 => first | k_is | kernel_rfl! | exact rfl)
  case F =>
    intro w mg fa h KX G hmg
    refine' My.all_mk ok KX G hmg ?n_ValueError ?n_all ?n_any ?n_bool ?n_enumerate ?n_int ?n_isinstance ?n_len ?n_list ?n_range ?n_sorted ?n_str ?n_tuple ?n_zip ?a1 ?a2 ?a3 ?a4 ?a5 ?a6 ?a7 ?a8 ?a9 ?a10 ?a11 ?a12 ?a13 ?a14 ?a15 ?l15 ?c15 ?k15 ?lt15 ?lc15 ?lh15 ?a16 ?a20 ?a21 ?a22 ?a23 ?a24 ?a29 ?a30 ?a31 ?a32 ?a33 ?a34 ?a35 ?a36 ?a37 ?a38 ?l38 ?c38 ?k38 ?aCYardError ?aCBadTrain ?aCBadYard ?aCBadMoves ?aCStuck ?aCBadText ?aCTrack ?aCYard ?aCAnswer ?aCShunted ?aCThree ?aCOdd ?aCFalling ?aCFewest ?aCGiven ?aCThrice ?aCForest ?aCGroups ?aCShunting ?xcmBadMoves ?xchBadMoves ?xcgBadMoves ?xcyBadMoves ?xcsBadMoves ?xcaBadMoves ?xcdBadMoves ?xctBadMoves ?xcmBadTrain ?xchBadTrain ?xcgBadTrain ?xcyBadTrain ?xcsBadTrain ?xcaBadTrain ?xcdBadTrain ?xctBadTrain ?xcmBadYard ?xchBadYard ?xcgBadYard ?xcyBadYard ?xcsBadYard ?xcaBadYard ?xcdBadYard ?xctBadYard ?xcmYardError ?xchYardError ?xcgYardError ?xcyYardError ?xcsYardError ?xcaYardError ?xcdYardError ?xctYardError ?xtyYardError ?x0xBadMoves ?x0nBadMoves ?x0kBadMoves ?kitBadMoves_BadTrain ?kitBadMoves_BadYard ?kitBadMoves_Stuck ?kitBadMoves_BadText ?kvBadMoves ?mroBadMoves_YardError ?x0xBadTrain ?x0nBadTrain ?x0kBadTrain ?kitBadTrain_BadYard ?kitBadTrain_BadMoves ?kitBadTrain_Stuck ?kitBadTrain_BadText ?kvBadTrain ?mroBadTrain_YardError ?x0xBadYard ?x0nBadYard ?x0kBadYard ?kitBadYard_BadTrain ?kitBadYard_BadMoves ?kitBadYard_Stuck ?kitBadYard_BadText ?kvBadYard ?mroBadYard_YardError ?gMOST_TRACKS ?gWORDS ?glWORDS ?H1 ?H2 ?H3 ?H4 ?H5 ?H6 ?H7 ?H8 ?H9 ?H10 ?H11 ?H12 ?H13 ?H14 ?H16 ?H20 ?H21 ?H22 ?H23 ?H24 ?H29 ?H30 ?H31 ?H32 ?H33 ?H34 ?H35 ?H36 ?H37
    (case n_ValueError | n_all | n_any | n_bool | n_enumerate | n_int | n_isinstance | n_len | n_list | n_range | n_sorted | n_str | n_tuple | n_zip | a1 | a2 | a3 | a4 | a5 | a6 | a7 | a8 | a9 | a10 | a11 | a12 | a13 | a14 | a15 | l15 | c15 | k15 => first | k_is | kernel_rfl!)
    (case lt15 => first | k_is | kernel_rfl! | exact rfl)
    (case lc15 => first | exact rfl | k_is | kernel_rfl!)
    (case lh15 | a16 | a20 | a21 | a22 | a23 | a24 | a29 | a30 | a31 | a32 | a33 | a34 | a35 | a36 | a37 | a38 | l38 | c38 | k38 | aCYardError | aCBadTrain | aCBadYard | aCBadMoves | aCStuck | aCBadText | aCTrack | aCYard | aCAnswer | aCShunted | aCThree | aCOdd | aCFalling | aCFewest | aCGiven | aCThrice | aCForest | aCGroups | aCShunting | xcmBadMoves | xchBadMoves | xcgBadMoves | xcyBadMoves | xcsBadMoves | xcaBadMoves | xcdBadMoves | xctBadMoves | xcmBadTrain | xchBadTrain | xcgBadTrain | xcyBadTrain | xcsBadTrain | xcaBadTrain | xcdBadTrain | xctBadTrain | xcmBadYard | xchBadYard | xcgBadYard | xcyBadYard | xcsBadYard | xcaBadYard | xcdBadYard | xctBadYard | xcmYardError | xchYardError | xcgYardError | xcyYardError | xcsYardError | xcaYardError | xcdYardError | xctYardError | xtyYardError | x0xBadMoves | x0nBadMoves | x0kBadMoves | kitBadMoves_BadTrain | kitBadMoves_BadYard | kitBadMoves_Stuck | kitBadMoves_BadText | kvBadMoves | mroBadMoves_YardError | x0xBadTrain | x0nBadTrain | x0kBadTrain | kitBadTrain_BadYard | kitBadTrain_BadMoves | kitBadTrain_Stuck | kitBadTrain_BadText | kvBadTrain | mroBadTrain_YardError | x0xBadYard | x0nBadYard | x0kBadYard | kitBadYard_BadTrain | kitBadYard_BadMoves | kitBadYard_Stuck | kitBadYard_BadText | kvBadYard | mroBadYard_YardError | gMOST_TRACKS | gWORDS | glWORDS => first | k_is | kernel_rfl!)
    (case H1 | H2 | H3 | H4 | H5 | H6 | H7 | H8 | H9 | H10 | H11 | H12 | H13 | H14 | H16 | H20 | H21 | H22 | H23 | H24 | H29 | H30 | H31 | H32 | H33 | H34 | H35 | H36 | H37 => exact My.FF.of (by first | k_is | kernel_rfl!) (by first | k_is | kernel_rfl!) (by first | k_is | kernel_rfl!))


end
/-! sidings.checks: what each def promises where nothing is refused. -/
namespace My
open PySem L2
section
variable {P : Program} {w : World} {K : PySem.W.Frag} {mg : Str → Option Value} {base : Heap} {Z : Adr}


def sp_has_two_alike (K : PySem.W.Frag) : Sp := fun vs H Q _ => ∃ (a : Addr) (ns : List Int), vs = [.ref a] ∧ SqL K H a (ns.map V.int) ∧ ns.length < 64 ∧ ∀ H', Same H H' → Q (.bl (!decide ns.Nodup)) H'
theorem sc_has_two_alike : FnScope ["wagons", "in_order"] ["wagons"] (defScope s_has_two_alike) := ⟨rfl, rfl, rfl, by decide +kernel, rfl, by decide +kernel, by decide +kernel⟩
theorem C_has_two_alike (T : Tx K mg Z) : Ctr P w K mg base CX0 1 "has_two_alike" ["wagons"] (sp_has_two_alike K) := by
  refine ctr_of T.has_two_alike fun f fd F => F.ok sc_has_two_alike (fun vs H Q E h => ?_) (fun cdv A outer s H vs Q E hr h => ?_)
  · obtain ⟨a, ns, rfl, _⟩ := h
    rfl
  · obtain ⟨a, ns, rfl, hS, hz, k⟩ := h
    refine' ⟨_, ?hterm, ?_⟩
    case hterm =>
      refine' pss_cons ?q1 ?q2
      case q1 =>
        refine' ps_set (i := 1) sc_has_two_alike.nd rfl (Or.inl rfl) ?q3
        case q3 =>
          refine' pe_callB (callK_sorted (K := K) (by rfl)) (by rfl) T.n_sorted b_sorted ?q4
          case q4 =>
            refine' pa_cons ?q5 ?q6
            case q5 => exact pv 0
            case q6 => exact pa_nil
      case q2 =>
        refine' pss_one ?q7
        case q7 =>
          refine' ps_ret ?q8
          case q8 =>
            refine' pe_callB (callK_any (K := K) (by rfl) (by rfl)) (by rfl) T.n_any b_any ?q9
            case q9 =>
              refine' pa_cons ?q10 ?q11
              case q10 =>
                refine' pe_comp rfl (csc_of (sc := defScope s_has_two_alike) (N := ["wagons", "in_order"]) (cap := [none, none]) (N' := ["less", "greater"]) rfl rfl ⟨ rfl, by decide +kernel, by decide +kernel, by decide +kernel, rfl, by decide +kernel ⟩) ?q12 (fun _ _ _ _ => ?q13) (fun _ _ _ _ => ?q14) (fun _ _ _ _ => ?q15)
                case q12 =>
                  refine' pi_zipK (K := K) (by rfl) rfl T.n_zip ?q16
                  case q16 =>
                    refine' pa_cons ?q17 ?q18
                    case q17 => exact pv 1
                    case q18 =>
                      refine' pa_cons ?q19 ?q20
                      case q19 =>
                        refine' pe_slice (sl_K (K := K) (by rfl)) ?q21 ?q22 ?q23
                        case q21 => exact pv 1
                        case q22 =>
                          refine' po_some ?q24
                          case q24 => exact pe_int
                        case q23 => exact po_none
                      case q20 => exact pa_nil
                case q13 =>
                  refine' pg_tupK (K := K) (n := 2) (by rfl) rfl ?q25
                  case q25 =>
                    refine' pgs_cons ?q26 ?q27
                    case q26 => exact pg_name (i := 0) (show List.Nodup (["less", "greater"] : List Str) from by decide +kernel) (by rfl) (by exact Or.inl rfl)
                    case q27 =>
                      refine' pgs_cons ?q28 ?q29
                      case q28 => exact pg_name (i := 1) (show List.Nodup (["less", "greater"] : List Str) from by decide +kernel) (by rfl) (by exact Or.inl rfl)
                      case q29 => exact pgs_nil
                case q14 => exact pif_nil
                case q15 =>
                  refine' pe_cmpR (op_eqK (K := K) (by rfl) (by exact hr.units)) ?q30 ?q31 (nomark _)
                  case q30 => exact pv 0
                  case q31 => exact pv 1
              case q11 => exact pa_nil
    -- in_order = sorted(wagons)
    refine ⟨_, rfl, a, ns, rfl, hS, hz, fun l ns' hl hp hs => ?_⟩
    -- zip(in_order, in_order[1:])
    refine ⟨_, rfl, _, rfl, _, rfl, l, _, rfl, SqL.of upd_same, fun q hq => ?_⟩
    have elq : l ≠ q := ne_of_none upd_same hq
    have ecut : cutV (ns'.map V.int) (some 1) none = (ns'.drop 1).map V.int := by rw [show (1 : Int) = ((1 : Nat) : Int) from rfl, cutV_from, List.map_drop]
    rw [ecut]
    refine ⟨l, q, rfl, ⟨_, SqL.of (upd_get upd_same hq)⟩, ⟨_, SqL.of upd_same⟩, fun p hp' => ?_⟩
    have s0 : Same H (upd (upd (upd H l (.lst (ns'.map V.int))) q (.lst ((ns'.drop 1).map V.int))) p (.lst [])) := (Same.upd hl).trans ((Same.upd hq).trans (Same.upd hp'))
    have elp : l ≠ p := ne_of_none (upd_get upd_same hq) hp'
    have eqp : q ≠ p := ne_of_none upd_same hp'
    have hH1 : H p = none := ((Same.upd (o := .lst (ns'.map V.int)) hl).trans (Same.upd (o := .lst ((ns'.drop 1).map V.int)) hq)).free hp'
    refine turns_zip (K := K) (xs := ns'.map V.int) (ys := (ns'.drop 1).map V.int)
      (fun i σ H2 => (∃ a b, σ = [a, b]) ∧ Same H H2 ∧ H2 l = some (.lst (ns'.map V.int)) ∧ H2 q = some (.lst ((ns'.drop 1).map V.int)) ∧ H2 p = some (.lst (((adj ns').take i).map V.bl)))
      ⟨⟨_, _, rfl⟩, s0, by rw [upd_ne elp, upd_ne elq, upd_same], by rw [upd_ne eqp, upd_same], upd_same⟩ (fun i σ H2 h => ⟨SqL.of h.2.2.1, SqL.of h.2.2.2.1⟩) ?_ ?_
    · rintro i x y t σ H2 hx hy ⟨⟨a1, b1, rfl⟩, s2, h1, h2, h3⟩ ht
      obtain ⟨z, ez, rfl⟩ := getMap hx
      obtain ⟨z', ez', rfl⟩ := getMap hy
      refine ⟨t, _, rfl, SqT.of upd_same, rfl, _, _, rfl, _, _, rfl, rfl, ?_⟩
      refine ⟨_, rfl, _, rfl, .inl ⟨rfl, ?_⟩⟩
      have e3 : upd H2 t (.tup [.int z, .int z']) p = some (.lst (((adj ns').take i).map V.bl)) := upd_get h3 ht
      refine ⟨_, e3, ?_, ⟨_, _, rfl⟩, ?_, ?_, ?_, ?_⟩
      · rw [List.length_map]
        have := adj_len ns'
        have h64 : ns'.length < 64 := by rw [hp.length_eq]; exact hz
        have := List.length_take (i := i) (l := adj ns')
        exact small1000 (by omega)
      · intro b o e
        have : b ≠ p := ne_of_none e hH1
        rw [upd_ne this, upd_get (s2 b o e) ht]
      · rw [upd_ne elp]; exact upd_get h1 ht
      · rw [upd_ne eqp]; exact upd_get h2 ht
      · rw [upd_same, adj_take ez ez', List.map_append, decV]
        rfl
    · rintro σ H2 ⟨_, s2, _, _, h3⟩
      refine ⟨p, adj ns', rfl, SqL.of ?_, ?_⟩
      · rw [h3, List.take_of_length_le]
        rw [adj_len, List.length_map, List.length_map, List.length_drop]
        exact Nat.le_refl _
      · rw [adj_nodup hs, show decide ns'.Nodup = decide ns.Nodup from decide_eq_decide.mpr hp.nodup_iff]
        exact k H2 s2

end
end My
/-! sidings.checks, where something is refused: kinds of things, numbers. -/
namespace My.No
open PySem L2
section
variable {P : Program} {w : World} {K : PySem.W.Frag} {mg : Str → Option Value} {base : Heap} {Z : Adr}
/-- what isinstance says of a thing: int, bool, list, tuple, str -/
def Kd (K : PySem.W.Frag) (H : Hp) (x : V) (bi bb bl bt bs : Bool) : Prop := ∃ ty, TyOf K H x ty ∧ PySem.W.kitOne K ty (.type "int") = some bi ∧ PySem.W.kitOne K ty (.type "bool") = some bb ∧ PySem.W.kitOne K ty (.type "list") = some bl ∧
  PySem.W.kitOne K ty (.type "tuple") = some bt ∧ PySem.W.kitOne K ty (.type "str") = some bs
theorem kd_non {H : Hp} : Kd K H .non false false false false false := ⟨_, .non, by kernel_rfl, by kernel_rfl, by kernel_rfl, by kernel_rfl, by kernel_rfl⟩
theorem kd_bl {H : Hp} (b : Bool) : Kd K H (.bl b) true true false false false := ⟨_, .bl b, by kernel_rfl, by kernel_rfl, by kernel_rfl, by kernel_rfl, by kernel_rfl⟩
theorem kd_int {H : Hp} (i : Int) : Kd K H (.int i) true false false false false := ⟨_, .int i, by kernel_rfl, by kernel_rfl, by kernel_rfl, by kernel_rfl, by kernel_rfl⟩
theorem kd_str {H : Hp} (t : Str) : Kd K H (.str t) false false false false true := ⟨_, .str t, by kernel_rfl, by kernel_rfl, by kernel_rfl, by kernel_rfl, by kernel_rfl⟩
theorem kd_lst {H : Hp} {a : Addr} {xs : List V} (e : H a = some (.lst xs)) : Kd K H (.ref a) false false true false false := ⟨_, .lst e, by kernel_rfl, by kernel_rfl, by kernel_rfl, by kernel_rfl, by kernel_rfl⟩
theorem kd_tup {H : Hp} {a : Addr} {xs : List V} (e : H a = some (.tup xs)) : Kd K H (.ref a) false false false true false := ⟨_, .tup e, by kernel_rfl, by kernel_rfl, by kernel_rfl, by kernel_rfl, by kernel_rfl⟩
theorem kd_dict {H : Hp} {a : Addr} {kvs : List (Key × V)} (e : H a = some (.dK kvs)) : Kd K H (.ref a) false false false false false := ⟨_, .dK e, by kernel_rfl, by kernel_rfl, by kernel_rfl, by kernel_rfl, by kernel_rfl⟩
def sp_is_number (K : PySem.W.Frag) : Sp := fun vs H Q _ => ∃ (x : V) (bi bb bl bt bs : Bool), vs = [x] ∧ Kd K H x bi bb bl bt bs ∧ Q (.bl (bi && !bb)) H
theorem sc_is_number : FnScope ["value"] ["value"] (defScope s_is_number) := ⟨rfl, rfl, rfl, by decide +kernel, rfl, by decide +kernel, by decide +kernel⟩
theorem C_is_number (T : Tx K mg Z) : Ctr P w K mg base CX0 1 "is_number" ["value"] (sp_is_number K) := by
  refine ctr_of T.is_number fun f fd F => F.ok sc_is_number (fun vs H Q E h => ?_) (fun cdv A outer s H vs Q E hr h => ?_)
  · obtain ⟨x, bi, bb, bl, bt, bs, rfl, _⟩ := h
    rfl
  · obtain ⟨x, bi, bb, bl, bt, bs, rfl, ⟨ty, h1, h2, h3, _⟩, q⟩ := h
    refine' ⟨_, ?hterm, ?_⟩
    case hterm =>
      refine' pss_one ?q1
      case q1 =>
        refine' ps_ret ?q2
        case q2 =>
          refine' pe_and ?q3 ?q4
          case q3 =>
            refine' pe_callB (callK_isinstance (K := K) (by rfl)) (by rfl) T.n_isinstance b_isinstance ?q5
            case q5 =>
              refine' pa_cons ?q6 ?q7
              case q6 => exact pv 0
              case q7 =>
                refine' pa_cons ?q8 ?q9
                case q8 => exact pe_tyN rfl T.n_int b_int
                case q9 => exact pa_nil
          case q4 =>
            refine' pe_one ?q10
            case q10 =>
              refine' pe_not ?q11
              case q11 =>
                refine' pe_callB (callK_isinstance (K := K) (by rfl)) (by rfl) T.n_isinstance b_isinstance ?q12
                case q12 =>
                  refine' pa_cons ?q13 ?q14
                  case q13 => exact pv 0
                  case q14 =>
                    refine' pa_cons ?q15 ?q16
                    case q15 => exact pe_tyN rfl T.n_bool b_bool
                    case q16 => exact pa_nil
    refine ⟨_, rfl, _, _, _, _, _, rfl, rfl, ty_inj, h1, h2, _, rfl, ?_⟩
    cases bi
    · exact iteF q
    · exact iteT ⟨_, rfl, _, _, _, _, _, rfl, rfl, ty_inj, h1, h3, _, rfl, q⟩
end
end My.No
/-! sidings.checks, where something is refused: trains. -/
namespace My.No
open PySem L2
section
variable {P : Program} {w : World} {K : PySem.W.Frag} {mg : Str → Option Value} {base : Heap} {Z : Adr}
theorem Kd.same {H H' : Hp} {x : V} {bi bb bl bt bs : Bool} (s : Same H H') (h : Kd K H x bi bb bl bt bs) : Kd K H' x bi bb bl bt bs := by
  obtain ⟨ty, h1, h2⟩ := h
  refine ⟨ty, ?_, h2⟩
  cases h1 with
  | non => exact .non
  | bl x => exact .bl x
  | int i => exact .int i
  | str x => exact .str x
  | flt x => exact .flt x
  | lst e => exact .lst (s _ _ e)
  | frz e => exact .frz (s _ _ e)
  | tup e => exact .tup (s _ _ e)
  | dK e => exact .dK (s _ _ e)
  | dT e => exact .dT (s _ _ e)
  | ins e cl ha hn htk hm => exact .ins (s _ _ e) cl ha hn htk hm
def NoNum (K : PySem.W.Frag) (H : Hp) (x : V) : Prop := ∃ bi bb bl bt bs, Kd K H x bi bb bl bt bs ∧ (bi && !bb) = false
theorem NoNum.same {H H' : Hp} {x : V} (s : Same H H') (h : NoNum K H x) : NoNum K H' x := by
  obtain ⟨bi, bb, bl, bt, bs, h1, h2⟩ := h
  exact ⟨bi, bb, bl, bt, bs, h1.same s, h2⟩
/-- no train -/
def BadT (K : PySem.W.Frag) (H : Hp) (x : V) : Prop := (∃ bi bb bt bs, Kd K H x bi bb false bt bs) ∨
  (∃ (a : Addr) (pre : List Int) (y : V) (post : List V), x = .ref a ∧ H a = some (.lst (pre.map V.int ++ y :: post)) ∧ pre.length + post.length ≤ 900 ∧ NoNum K H y) ∨
  ∃ (a : Addr) (ns : List Int), x = .ref a ∧ H a = some (.lst (ns.map V.int)) ∧ ns.length < 64 ∧ ¬ ns.Nodup
def sp_checked_train (K : PySem.W.Frag) (Z : Adr) : Sp := fun vs H Q E => (∃ (a : Addr) (ns : List Int), vs = [.ref a] ∧ H a = some (.lst (ns.map V.int)) ∧ ns.length < 64 ∧ ns.Nodup ∧ ∀ p H', Same H H' → H p = none → H' p = some (.lst (ns.map V.int)) → Q (.ref p) H')
  ∨ ∃ x, vs = [x] ∧ BadT K H x ∧ ∀ H', Same H H' → E (.ref Z.cBadTrain) none H'
theorem sc_checked_train : FnScope ["train", "held", "wagon", "wagons"] ["train"] (defScope s_checked_train) := ⟨rfl, rfl, rfl, by decide +kernel, rfl, by decide +kernel, by decide +kernel⟩
theorem C_checked_train (T : Tx K mg Z) : Ctr P w K mg base (CXe P w) 3 "checked_train" ["train"] (sp_checked_train K Z) := by
  refine ctr_of T.checked_train fun f fd F => F.okE sc_checked_train (fun vs H Q E h => ?_) (fun cdv A outer s H vs Q E hr h => ?_)
  · rcases h with ⟨a, ns, rfl, _⟩ | ⟨x, rfl, _⟩ <;> rfl
  · have hc : (∃ (x : V) (bi bb bt bs : Bool), vs = [x] ∧ Kd K H x bi bb false bt bs ∧ ∀ H', Same H H' → E (.ref Z.cBadTrain) none H') ∨
        ∃ (a : Addr) (pre : List Int) (post : List V), vs = [.ref a] ∧ H a = some (.lst (pre.map V.int ++ post)) ∧ pre.length + post.length ≤ 1000 ∧ (∀ y r, post = y :: r → NoNum K H y ∧ ∀ H', Same H H' → E (.ref Z.cBadTrain) none H') ∧
        (post = [] → pre.length < 64 ∧ (pre.Nodup → ∀ p H', Same H H' → H p = none → H' p = some (.lst (pre.map V.int)) → Q (.ref p) H') ∧ (¬ pre.Nodup → ∀ H', Same H H' → E (.ref Z.cBadTrain) none H')) := by
      rcases h with ⟨a, ns, rfl, ha, hz, hnd, k⟩ | ⟨x, rfl, hb, k⟩
      · exact .inr ⟨a, ns, [], rfl, by rw [List.append_nil]; exact ha, by simp; omega, (fun y r z => by cases z), fun _ => ⟨hz, fun _ => k, fun z => absurd hnd z⟩⟩
      rcases hb with ⟨bi, bb, bt, bs, hk⟩ | ⟨a, pre, y, post, rfl, ha, hl, hy⟩ | ⟨a, ns, rfl, ha, hz, hnd⟩
      · exact .inl ⟨x, bi, bb, bt, bs, rfl, hk, k⟩
      · exact .inr ⟨a, pre, y :: post, rfl, ha, by simp; omega, fun y' r z => by cases z; exact ⟨hy, k⟩, fun z => by cases z⟩
      · exact .inr ⟨a, ns, [], rfl, by rw [List.append_nil]; exact ha, by simp; omega, (fun y r z => by cases z), fun _ => ⟨hz, fun z => absurd z hnd, fun _ => k⟩⟩
    clear h
    refine' ⟨_, ?hterm, ?_⟩
    case hterm =>
      refine' pss_cons ?q1 ?q2
      case q1 =>
        refine' ps_if ?q3 ?q4 ?q5
        case q3 =>
          refine' pt_not ?q6
          case q6 =>
            refine' pt_truK (K := K) (by rfl) ?q7 (fun _ => rfl)
            case q7 =>
              refine' pe_callB (callK_isinstance (K := K) (by rfl)) (by rfl) T.n_isinstance b_isinstance ?q8
              case q8 =>
                refine' pa_cons ?q9 ?q10
                case q9 => exact pv 0
                case q10 =>
                  refine' pa_cons ?q11 ?q12
                  case q11 => exact pe_tyN rfl T.n_list b_list
                  case q12 => exact pa_nil
        case q4 =>
          refine' pss_one ?q13
          case q13 =>
            refine' ps_raise0 (k := 0) T.x0_BadTrain (hr.mono (by decide)) T.c_BadTrain rfl raisesE ?q14
            case q14 =>
              refine' pa_cons ?q15 ?q16
              case q15 => exact pe_str
              case q16 => exact pa_nil
        case q5 => exact pss_nil
      case q2 =>
        refine' pss_cons ?q17 ?q18
        case q17 =>
          refine' ps_set (i := 1) sc_checked_train.nd rfl (Or.inl rfl) ?q19
          case q19 =>
            refine' pe_op (op_addK (K := K) (by rfl)) ?q20 ?q21
            case q20 =>
              refine' pe_lst ?q22
              case q22 => exact pa_nil
            case q21 => exact pv 0
        case q18 =>
          refine' pss_cons ?q23 ?q24
          case q23 =>
            refine' ps_for PassesOwn.leaving rfl ?q25 ?q26 ?q27
            case q25 =>
              refine' pi_listK (K := K) (by rfl) ?q28
              case q28 => exact pv 1
            case q26 => exact pg_name (i := 2) sc_checked_train.nd (by rfl) (by exact Or.inl rfl)
            case q27 =>
              refine' pss_one ?q29
              case q29 =>
                refine' ps_if ?q30 ?q31 ?q32
                case q30 =>
                  refine' pt_not ?q33
                  case q33 =>
                    refine' pt_truK (K := K) (by rfl) ?q34 (fun _ => rfl)
                    case q34 =>
                      refine' pe_callC (C_is_number T) (hr.mono (by decide)) rfl ?q35
                      case q35 =>
                        refine' pa_cons ?q36 ?q37
                        case q36 => exact pv 2
                        case q37 => exact pa_nil
                case q31 =>
                  refine' pss_one ?q38
                  case q38 =>
                    refine' ps_raise0 (k := 0) T.x0_BadTrain (hr.mono (by decide)) T.c_BadTrain rfl raisesE ?q39
                    case q39 =>
                      refine' pa_cons ?q40 ?q41
                      case q40 => exact pe_str
                      case q41 => exact pa_nil
                case q32 => exact pss_nil
          case q24 =>
            refine' pss_cons ?q42 ?q43
            case q42 =>
              refine' ps_setComp (i := 3) sc_checked_train.nd rfl rfl rfl (csc_of (sc := defScope s_checked_train) (N := ["train", "held", "wagon", "wagons"]) (cap := [none]) (N' := ["wagon"]) rfl rfl ⟨ rfl, by decide +kernel, by decide +kernel, by decide +kernel, rfl, by decide +kernel ⟩) ?q44 (fun _ _ _ _ => ?q45) (fun _ _ _ _ => ?q46) (fun _ _ _ _ => ?q47)
              case q44 =>
                refine' pi_listK (K := K) (by rfl) ?q48
                case q48 => exact pv 1
              case q45 => exact pg_name (i := 0) (show List.Nodup (["wagon"] : List Str) from by decide +kernel) (by rfl) (by exact Or.inl rfl)
              case q46 => exact pif_nil
              case q47 =>
                refine' pe_callTy call_int1 (by rfl) T.n_int b_int ?q49
                case q49 =>
                  refine' pa_cons ?q50 ?q51
                  case q50 => exact pv 0
                  case q51 => exact pa_nil
            case q43 =>
              refine' pss_cons ?q52 ?q53
              case q52 =>
                refine' ps_if ?q54 ?q55 ?q56
                case q54 =>
                  refine' pt_truK (K := K) (by rfl) ?q57 (fun _ => rfl)
                  case q57 =>
                    refine' pe_callC (C_has_two_alike T) (hr.mono (by decide)) rfl ?q58
                    case q58 =>
                      refine' pa_cons ?q59 ?q60
                      case q59 => exact pv 3
                      case q60 => exact pa_nil
                case q55 =>
                  refine' pss_one ?q61
                  case q61 =>
                    refine' ps_raise0 (k := 0) T.x0_BadTrain (hr.mono (by decide)) T.c_BadTrain rfl raisesE ?q62
                    case q62 =>
                      refine' pa_cons ?q63 ?q64
                      case q63 => exact pe_str
                      case q64 => exact pa_nil
                case q56 => exact pss_nil
              case q53 =>
                refine' pss_one ?q65
                case q65 =>
                  refine' ps_ret ?q66
                  case q66 => exact pv 3
    rcases hc with ⟨x, bi, bb, bt, bs, rfl, ⟨ty, h1, h2, h3, h4, h5⟩, k⟩ | ⟨a, pre, post, rfl, ha, hl, hp, hn⟩
    · refine ⟨_, rfl, _, _, _, _, _, rfl, rfl, ty_inj, h1, h4, _, rfl, iteT ?_⟩
      exact ⟨(by show 1 ≤ 1000; decide), k _ (Same.refl _)⟩
    refine ⟨_, rfl, _, _, _, _, _, rfl, rfl, ty_inj, .lst ha, kit_same, _, rfl, iteF ?_⟩
    have hlen : (pre.map V.int ++ post).length ≤ 1000 := by rw [List.length_append, List.length_map]; exact hl
    -- held = [] + train
    refine ⟨Nat.zero_le _, fun e he => ⟨_, rfl, .inr (.inl ⟨e, a, [], _, rfl, rfl, upd_same, upd_get ha he, ?_, fun h hh => ?_⟩)⟩⟩
    · rw [List.length_nil, Nat.zero_add]
      exact Nat.le_of_lt (small1000 hlen)
    have sh : Same H (upd (upd H e (.lst [])) h (.lst (pre.map V.int ++ post))) := (Same.upd he).trans (Same.upd hh)
    have hh' : upd (upd H e (.lst [])) h (.lst (pre.map V.int ++ post)) h = some (.lst (pre.map V.int ++ post)) := upd_same
    rw [List.nil_append]
    generalize upd (upd H e (.lst [])) h (.lst (pre.map V.int ++ post)) = HB at sh hh' ⊢
    -- for wagon in held
    refine ⟨_, rfl, h, rfl, ⟨_, SqL.of hh'⟩, for_list (K := K) (a := h) (xs := pre.map V.int ++ post) (fun i σ H2 => (∃ v, σ = [some (.ref a), some (.ref h), v, none]) ∧ H2 = HB ∧ i ≤ pre.length)
      ⟨⟨_, rfl⟩, rfl, Nat.zero_le _⟩ (fun i σ H2 _ ⟨_, z, _⟩ => by rw [z]; exact SqL.of hh') ?_ ?_⟩
    · rintro i x σ H2 hx ⟨⟨v, rfl⟩, eH, hi⟩
      rw [eH]
      by_cases hlt : i < pre.length
      · rw [List.getElem?_append_left (by rw [List.length_map]; exact hlt)] at hx
        obtain ⟨z, _, rfl⟩ := getMap hx
        refine ⟨_, rfl, _, _, _, _, _, _, rfl, kd_int z, _, rfl, iteF ?_⟩
        exact ⟨⟨_, rfl⟩, rfl, hlt⟩
      · have ei : i = pre.length := by omega
        subst ei
        rw [List.getElem?_append_right (by rw [List.length_map]; exact Nat.le_refl _), List.length_map, Nat.sub_self] at hx
        cases post with
        | nil => cases hx
        | cons y r =>
          cases hx
          obtain ⟨⟨bi, bb, bl, bt, bs, hk, hb⟩, k⟩ := hp _ _ rfl
          refine ⟨_, rfl, _, _, _, _, _, _, rfl, hk.same sh, _, rfl, ?_⟩
          rw [hb]
          exact iteT ⟨(by show 1 ≤ 1000; decide), k _ sh⟩
    rintro σ H2 ⟨⟨v, rfl⟩, eH, hi⟩
    rw [eH]
    have hpost : post = [] := by
      rw [List.length_append, List.length_map] at hi
      exact List.length_eq_zero_iff.mp (by omega)
    subst hpost
    rw [List.append_nil] at hh'
    obtain ⟨hz, k1, k2⟩ := hn rfl
    -- wagons = [int(wagon) for wagon in held]
    refine ⟨_, rfl, h, rfl, ⟨_, SqL.of hh'⟩, fun p hp' => ?_⟩
    have hHp : H p = none := sh.free hp'
    refine turns_list (K := K) (a := h) (xs := pre.map V.int) (fun i σ H2 => (∃ v, σ = [v]) ∧ Same HB H2 ∧ H2 p = some (.lst ((pre.take i).map V.int)))
      ⟨⟨_, rfl⟩, Same.upd hp', upd_same⟩ (fun i σ H2 _ h => SqL.of (h.2.1 _ _ hh')) ?_ ?_
    · rintro i x σ H2 hx ⟨⟨v, rfl⟩, s2, h2⟩
      obtain ⟨z, ez, rfl⟩ := getMap hx
      refine ⟨_, rfl, .inl ⟨z, rfl, _, h2, ?_, ⟨_, rfl⟩, Same.updN s2 hp', ?_⟩⟩
      · rw [List.length_map, List.length_take]
        exact small1000 (by omega)
      · rw [upd_same, take_snoc ez, List.map_append]
        rfl
    rintro σ H3 ⟨_, s2, h2⟩
    rw [List.length_map, List.take_length] at h2
    refine ⟨_, rfl, p, pre, rfl, SqL.of h2, hz, fun H4 s3 => ⟨_, rfl, ?_⟩⟩
    by_cases hnd : pre.Nodup
    · rw [decide_eq_true hnd]
      exact iteF ⟨_, rfl, k1 hnd p H4 ((sh.trans s2).trans s3) hHp (s3 _ _ h2)⟩
    · rw [decide_eq_false hnd]
      exact iteT ⟨(by show 1 ≤ 1000; decide), k2 hnd _ ((sh.trans s2).trans s3)⟩
end
end My.No
/-! sidings.checks, where something is refused: yards and moves. -/
namespace My.No
open PySem L2
section
variable {P : Program} {w : World} {K : PySem.W.Frag} {mg : Str → Option Value} {base : Heap} {Z : Adr}
def sp_checked_blind (Z : Adr) : Sp := fun vs H Q E => (∃ b, vs = [.bl b] ∧ Q (.bl b) H) ∨ ∃ x, vs = [x] ∧ x ≠ .bl true ∧ x ≠ .bl false ∧ E (.ref Z.cBadYard) none H
theorem sc_checked_blind : FnScope ["blind"] ["blind"] (defScope s_checked_blind) := ⟨rfl, rfl, rfl, by decide +kernel, rfl, by decide +kernel, by decide +kernel⟩
theorem C_checked_blind (T : Tx K mg Z) : Ctr P w K mg base (CXe P w) 2 "checked_blind" ["blind"] (sp_checked_blind Z) := by
  refine ctr_of T.checked_blind fun f fd F => F.okE sc_checked_blind (fun vs H Q E h => ?_) (fun cdv A outer s H vs Q E hr h => ?_)
  · rcases h with ⟨b, rfl, _⟩ | ⟨x, rfl, _⟩ <;> rfl
  · refine' ⟨_, ?hterm, ?_⟩
    case hterm =>
      refine' pss_cons ?q1 ?q2
      case q1 =>
        refine' ps_if ?q3 ?q4 ?q5
        case q3 =>
          refine' PW.pt ?q6
          case q6 =>
            refine' pw_and ?q7 ?q8
            case q7 =>
              refine' pt_cmpR op_notC ?q9 ?q10 (nomark _)
              case q9 => exact pv 0
              case q10 => exact pe_bl
            case q8 =>
              refine' pw_and1 ?q11
              case q11 =>
                refine' pt_cmpR op_notC ?q12 ?q13 (nomark _)
                case q12 => exact pv 0
                case q13 => exact pe_bl
        case q4 =>
          refine' pss_one ?q14
          case q14 =>
            refine' ps_raise0 (k := 0) T.x0_BadYard (hr.mono (by decide)) T.c_BadYard rfl raisesE ?q15
            case q15 =>
              refine' pa_cons ?q16 ?q17
              case q16 => exact pe_str
              case q17 => exact pa_nil
        case q5 => exact pss_nil
      case q2 =>
        refine' pss_one ?q18
        case q18 =>
          refine' ps_ret ?q19
          case q19 => exact pv 0
    rcases h with ⟨b, rfl, q⟩ | ⟨x, rfl, h1, h2, q⟩
    · refine ⟨_, rfl, true, rfl, _, rfl, ?_⟩
      cases b
      · exact iteT ⟨_, rfl, false, rfl, _, rfl, iteF ⟨_, rfl, q⟩⟩
      · exact iteF ⟨_, rfl, q⟩
    · refine ⟨_, rfl, true, rfl, _, rfl, ?_⟩
      rw [decide_eq_false h1]
      refine iteT ⟨_, rfl, false, rfl, _, rfl, ?_⟩
      rw [decide_eq_false h2]
      exact iteT ⟨(by show 1 ≤ 1000; decide), q⟩
/-- no count of tracks -/
def BadC (K : PySem.W.Frag) (H : Hp) (x : V) : Prop := NoNum K H x ∨ ∃ n : Int, x = .int n ∧ n < 1
def sp_checked_count (K : PySem.W.Frag) (Z : Adr) : Sp := fun vs H Q E => (∃ n : Int, vs = [.int n] ∧ 1 ≤ n ∧ Q (.int n) H) ∨ ∃ x, vs = [x] ∧ BadC K H x ∧ E (.ref Z.cBadYard) none H
theorem sc_checked_count : FnScope ["many", "count"] ["many"] (defScope s_checked_count) := ⟨rfl, rfl, rfl, by decide +kernel, rfl, by decide +kernel, by decide +kernel⟩
theorem C_checked_count (T : Tx K mg Z) : Ctr P w K mg base (CXe P w) 2 "checked_count" ["many"] (sp_checked_count K Z) := by
  refine ctr_of T.checked_count fun f fd F => F.okE sc_checked_count (fun vs H Q E h => ?_) (fun cdv A outer s H vs Q E hr h => ?_)
  · rcases h with ⟨b, rfl, _⟩ | ⟨x, rfl, _⟩ <;> rfl
  · refine' ⟨_, ?hterm, ?_⟩
    case hterm =>
      refine' pss_cons ?q1 ?q2
      case q1 =>
        refine' ps_if ?q3 ?q4 ?q5
        case q3 =>
          refine' pt_not ?q6
          case q6 =>
            refine' pt_truK (K := K) (by rfl) ?q7 (fun _ => rfl)
            case q7 =>
              refine' pe_callC (C_is_number T) (hr.mono (by decide)) rfl ?q8
              case q8 =>
                refine' pa_cons ?q9 ?q10
                case q9 => exact pv 0
                case q10 => exact pa_nil
        case q4 =>
          refine' pss_one ?q11
          case q11 =>
            refine' ps_raise0 (k := 0) T.x0_BadYard (hr.mono (by decide)) T.c_BadYard rfl raisesE ?q12
            case q12 =>
              refine' pa_cons ?q13 ?q14
              case q13 => exact pe_str
              case q14 => exact pa_nil
        case q5 => exact pss_nil
      case q2 =>
        refine' pss_cons ?q15 ?q16
        case q15 =>
          refine' ps_set (i := 1) sc_checked_count.nd rfl (Or.inl rfl) ?q17
          case q17 =>
            refine' pe_callTy call_int1 (by rfl) T.n_int b_int ?q18
            case q18 =>
              refine' pa_cons ?q19 ?q20
              case q19 => exact pv 0
              case q20 => exact pa_nil
        case q16 =>
          refine' pss_cons ?q21 ?q22
          case q21 =>
            refine' ps_if ?q23 ?q24 ?q25
            case q23 =>
              refine' pt_cmpR op_lt ?q26 ?q27 (nomark _)
              case q26 => exact pv 1
              case q27 => exact pe_int
            case q24 =>
              refine' pss_one ?q28
              case q28 =>
                refine' ps_raise0 (k := 0) T.x0_BadYard (hr.mono (by decide)) T.c_BadYard rfl raisesE ?q29
                case q29 =>
                  refine' pa_cons ?q30 ?q31
                  case q30 => exact pe_str
                  case q31 => exact pa_nil
            case q25 => exact pss_nil
          case q22 =>
            refine' pss_one ?q32
            case q32 =>
              refine' ps_ret ?q33
              case q33 => exact pv 1
    rcases h with ⟨n, rfl, h1, q⟩ | ⟨x, rfl, ⟨bi, bb, bl, bt, bs, hk, hb⟩ | ⟨n, rfl, h1⟩, q⟩
    · refine ⟨_, rfl, _, _, _, _, _, _, rfl, kd_int n, _, rfl, iteF ?_⟩
      refine ⟨_, rfl, .inl ⟨n, rfl, ?_⟩⟩
      refine ⟨_, rfl, n, 1, rfl, rfl, _, rfl, ?_⟩
      rw [decide_eq_false (show ¬ n < 1 by omega)]
      exact iteF ⟨_, rfl, q⟩
    · refine ⟨_, rfl, _, _, _, _, _, _, rfl, hk, _, rfl, ?_⟩
      rw [hb]
      exact iteT ⟨(by show 1 ≤ 1000; decide), q⟩
    · refine ⟨_, rfl, _, _, _, _, _, _, rfl, kd_int n, _, rfl, iteF ?_⟩
      refine ⟨_, rfl, .inl ⟨n, rfl, ?_⟩⟩
      refine ⟨_, rfl, n, 1, rfl, rfl, _, rfl, ?_⟩
      rw [decide_eq_true h1]
      exact iteT ⟨(by show 1 ≤ 1000; decide), q⟩
def sp_checked_many (K : PySem.W.Frag) (Z : Adr) : Sp := fun vs H Q E => (∃ n : Int, vs = [.int n] ∧ 1 ≤ n ∧ n ≤ 100000 ∧ Q (.int n) H) ∨ (∃ x, vs = [x] ∧ BadC K H x ∧ E (.ref Z.cBadYard) none H) ∨ ∃ n : Int, vs = [.int n] ∧ 100000 < n ∧ E (.ref Z.cBadYard) none H
theorem sc_checked_many : FnScope ["many", "count"] ["many"] (defScope s_checked_many) := ⟨rfl, rfl, rfl, by decide +kernel, rfl, by decide +kernel, by decide +kernel⟩
theorem C_checked_many (T : Tx K mg Z) : Ctr P w K mg base (CXe P w) 3 "checked_many" ["many"] (sp_checked_many K Z) := by
  refine ctr_of T.checked_many fun f fd F => F.okE sc_checked_many (fun vs H Q E h => ?_) (fun cdv A outer s H vs Q E hr h => ?_)
  · rcases h with ⟨b, rfl, _⟩ | ⟨x, rfl, _⟩ | ⟨n, rfl, _⟩ <;> rfl
  · refine' ⟨_, ?hterm, ?_⟩
    case hterm =>
      refine' pss_cons ?q1 ?q2
      case q1 =>
        refine' ps_set (i := 1) sc_checked_many.nd rfl (Or.inl rfl) ?q3
        case q3 =>
          refine' pe_callCE (C_checked_count T) (hr.mono (by decide)) rfl ?q4 (passE (fun _ _ _ z => z))
          case q4 =>
            refine' pa_cons ?q5 ?q6
            case q5 => exact pv 0
            case q6 => exact pa_nil
      case q2 =>
        refine' pss_cons ?q7 ?q8
        case q7 =>
          refine' ps_if ?q9 ?q10 ?q11
          case q9 =>
            refine' pt_cmpR op_gt ?q12 ?q13 (nomark _)
            case q12 => exact pv 1
            case q13 => exact pe_gint (by rfl) T.g_MOST_TRACKS
          case q10 =>
            refine' pss_one ?q14
            case q14 =>
              refine' ps_raise0 (k := 0) T.x0_BadYard (hr.mono (by decide)) T.c_BadYard rfl raisesE ?q15
              case q15 =>
                refine' pa_cons ?q16 ?q17
                case q16 => exact pe_str
                case q17 => exact pa_nil
          case q11 => exact pss_nil
        case q8 =>
          refine' pss_one ?q18
          case q18 =>
            refine' ps_ret ?q19
            case q19 => exact pv 1
    rcases h with ⟨n, rfl, h1, h2, q⟩ | ⟨x, rfl, hb, q⟩ | ⟨n, rfl, h1, q⟩
    · refine ⟨_, rfl, .inl ⟨n, rfl, h1, ?_⟩⟩
      refine ⟨_, rfl, n, 100000, rfl, rfl, _, rfl, ?_⟩
      rw [decide_eq_false (show ¬ (100000 : Int) < n by omega)]
      exact iteF ⟨_, rfl, q⟩
    · exact ⟨_, rfl, .inr ⟨x, rfl, hb, q⟩⟩
    · refine ⟨_, rfl, .inl ⟨n, rfl, by omega, ?_⟩⟩
      refine ⟨_, rfl, n, 100000, rfl, rfl, _, rfl, ?_⟩
      rw [decide_eq_true h1]
      exact iteT ⟨(by show 1 ≤ 1000; decide), q⟩
end
end My.No
/-! sidings.checks, where something is refused: moves. -/
namespace My.No
open PySem L2
section
variable {P : Program} {w : World} {K : PySem.W.Frag} {mg : Str → Option Value} {base : Heap} {Z : Adr}
theorem join_text (t : Str) : Txt.join ("" : Str) [t] = t := by
  show Builtin.Str.glued _ _ = t
  rw [StrLaws.glued_eq_join]; rfl
theorem deed_inV (b : Bool) : inV (.str (deed b)) [.str "in", .str "out"] = true := by cases b <;> decide +kernel
/-- no word of a move -/
def BadW (K : PySem.W.Frag) (H : Hp) (x : V) : Prop := (∃ bi bb bl bt, Kd K H x bi bb bl bt false) ∨ ∃ t : Str, x = .str t ∧ t.length ≤ 1000 ∧ inV (.str t) [.str "in", .str "out"] = false
def sp_checked_word (K : PySem.W.Frag) (Z : Adr) : Sp := fun vs H Q E => (∃ b, vs = [.str (deed b)] ∧ ∀ H', Same H H' → Q (.str (deed b)) H') ∨ ∃ x, vs = [x] ∧ BadW K H x ∧ ∀ H', Same H H' → E (.ref Z.cBadMoves) none H'
theorem sc_checked_word : FnScope ["word", "plain"] ["word"] (defScope s_checked_word) := ⟨rfl, rfl, rfl, by decide +kernel, rfl, by decide +kernel, by decide +kernel⟩
theorem C_checked_word (T : Tx K mg Z) : Ctr P w K mg base (CXe P w) 2 "checked_word" ["word"] (sp_checked_word K Z) := by
  refine ctr_of T.checked_word fun f fd F => F.okE sc_checked_word (fun vs H Q E h => ?_) (fun cdv A outer s H vs Q E hr h => ?_)
  · rcases h with ⟨b, rfl, _⟩ | ⟨x, rfl, _⟩ <;> rfl
  · have hc : (∃ (x : V) (bi bb bl bt : Bool), vs = [x] ∧ Kd K H x bi bb bl bt false ∧ ∀ H', Same H H' → E (.ref Z.cBadMoves) none H') ∨ ∃ t : Str, vs = [.str t] ∧ t.length ≤ 1000 ∧ (inV (.str t) [.str "in", .str "out"] = true → ∀ H', Same H H' → Q (.str t) H') ∧
        (inV (.str t) [.str "in", .str "out"] = false → ∀ H', Same H H' → E (.ref Z.cBadMoves) none H') := by
      rcases h with ⟨b, rfl, k⟩ | ⟨x, rfl, ⟨bi, bb, bl, bt, hk⟩ | ⟨t, rfl, hl, hi⟩, k⟩
      · exact .inr ⟨deed b, rfl, by cases b <;> decide, fun _ => k, fun z => absurd ((deed_inV b).symm.trans z) (by decide)⟩
      · exact .inl ⟨x, bi, bb, bl, bt, rfl, hk, k⟩
      · exact .inr ⟨t, rfl, hl, fun z => absurd (hi.symm.trans z) (by decide), fun _ => k⟩
    clear h
    refine' ⟨_, ?hterm, ?_⟩
    case hterm =>
      refine' pss_cons ?q1 ?q2
      case q1 =>
        refine' ps_if ?q3 ?q4 ?q5
        case q3 =>
          refine' pt_not ?q6
          case q6 =>
            refine' pt_truK (K := K) (by rfl) ?q7 (fun _ => rfl)
            case q7 =>
              refine' pe_callB (callK_isinstance (K := K) (by rfl)) (by rfl) T.n_isinstance b_isinstance ?q8
              case q8 =>
                refine' pa_cons ?q9 ?q10
                case q9 => exact pv 0
                case q10 =>
                  refine' pa_cons ?q11 ?q12
                  case q11 => exact pe_tyN rfl T.n_str b_str
                  case q12 => exact pa_nil
        case q4 =>
          refine' pss_one ?q13
          case q13 =>
            refine' ps_raise0 (k := 0) T.x0_BadMoves (hr.mono (by decide)) T.c_BadMoves rfl raisesE ?q14
            case q14 =>
              refine' pa_cons ?q15 ?q16
              case q15 => exact pe_str
              case q16 => exact pa_nil
        case q5 => exact pss_nil
      case q2 =>
        refine' pss_cons ?q17 ?q18
        case q17 =>
          refine' ps_set (i := 1) sc_checked_word.nd rfl (Or.inl rfl) ?q19
          case q19 =>
            refine' pe_bmK (K := K) (by rfl) PySem.F.plainAttrs_str PySem.F.slot_str_join PySem.F.type_str_join (mt_joinK (K := K) (by rfl)) ?q20 ?q21
            case q20 => exact pe_str
            case q21 =>
              refine' pa_cons ?q22 ?q23
              case q22 =>
                refine' pe_lst ?q24
                case q24 =>
                  refine' pa_cons ?q25 ?q26
                  case q25 => exact pv 0
                  case q26 => exact pa_nil
              case q23 => exact pa_nil
        case q18 =>
          refine' pss_cons ?q27 ?q28
          case q27 =>
            refine' ps_if ?q29 ?q30 ?q31
            case q29 =>
              refine' pt_cmpR (op_notInK (K := K) (by rfl)) ?q32 ?q33 (by with_unfolding_all rfl)
              case q32 => exact pv 1
              case q33 => exact pe_clsN (by rfl) T.g_WORDS.1
            case q30 =>
              refine' pss_one ?q34
              case q34 =>
                refine' ps_raise0 (k := 0) T.x0_BadMoves (hr.mono (by decide)) T.c_BadMoves rfl raisesE ?q35
                case q35 =>
                  refine' pa_cons ?q36 ?q37
                  case q36 => exact pe_str
                  case q37 => exact pa_nil
            case q31 => exact pss_nil
          case q28 =>
            refine' pss_one ?q38
            case q38 =>
              refine' ps_ret ?q39
              case q39 => exact pv 1
    rcases hc with ⟨x, bi, bb, bl, bt, rfl, ⟨ty, h1, h2, h3, h4, h5, h6⟩, k⟩ | ⟨t, rfl, hl, k1, k2⟩
    · refine ⟨_, rfl, _, _, _, _, _, rfl, rfl, ty_inj, h1, h6, _, rfl, iteT ?_⟩
      exact ⟨(by show 1 ≤ 1000; decide), k _ (Same.refl _)⟩
    refine ⟨_, rfl, _, _, _, _, _, rfl, rfl, ty_inj, .str _, kit_same, _, rfl, iteF ?_⟩
    refine ⟨rfl, _, rfl, (by show 1 ≤ sizeLine; decide), fun l hl' => ⟨_, l, [t], rfl, rfl, SqL.of upd_same, ?_, ?_⟩⟩
    · show (t.length + 0) + 1 * 0 ≤ 16777216
      omega
    rw [join_text]
    refine ⟨_, rfl, Z.gWORDS, _, rfl, .inr (T.g_WORDS.2 _), rfl, rfl, _, rfl, ?_⟩
    rw [if_pos rfl]
    cases hi : inV (.str t) [.str "in", .str "out"]
    · exact iteT ⟨(by show 1 ≤ 1000; decide), k2 hi _ (Same.upd hl')⟩
    · exact iteF ⟨_, rfl, k1 hi _ (Same.upd hl')⟩
/-- no track -/
def BadTr (K : PySem.W.Frag) (H : Hp) (x : V) (n : Int) : Prop := NoNum K H x ∨ ∃ t : Int, x = .int t ∧ (t < 0 ∨ n ≤ t)
def sp_checked_track (K : PySem.W.Frag) (Z : Adr) : Sp := fun vs H Q E => ∃ (x : V) (n : Int), vs = [x, .int n] ∧ ((∃ t, x = .int t ∧ 0 ≤ t ∧ t < n ∧ Q (.int t) H) ∨ (BadTr K H x n ∧ E (.ref Z.cBadMoves) none H))
theorem sc_checked_track : FnScope ["track", "many", "place"] ["track", "many"] (defScope s_checked_track) := ⟨rfl, rfl, rfl, by decide +kernel, rfl, by decide +kernel, by decide +kernel⟩
theorem C_checked_track (T : Tx K mg Z) : Ctr P w K mg base (CXe P w) 2 "checked_track" ["track", "many"] (sp_checked_track K Z) := by
  refine ctr_of T.checked_track fun f fd F => F.okE sc_checked_track (fun vs H Q E h => ?_) (fun cdv A outer s H vs Q E hr h => ?_)
  · obtain ⟨x, n, rfl, _⟩ := h
    rfl
  · obtain ⟨x, n, rfl, h⟩ := h
    refine' ⟨_, ?hterm, ?_⟩
    case hterm =>
      refine' pss_cons ?q1 ?q2
      case q1 =>
        refine' ps_if ?q3 ?q4 ?q5
        case q3 =>
          refine' pt_not ?q6
          case q6 =>
            refine' pt_truK (K := K) (by rfl) ?q7 (fun _ => rfl)
            case q7 =>
              refine' pe_callC (C_is_number T) (hr.mono (by decide)) rfl ?q8
              case q8 =>
                refine' pa_cons ?q9 ?q10
                case q9 => exact pv 0
                case q10 => exact pa_nil
        case q4 =>
          refine' pss_one ?q11
          case q11 =>
            refine' ps_raise0 (k := 0) T.x0_BadMoves (hr.mono (by decide)) T.c_BadMoves rfl raisesE ?q12
            case q12 =>
              refine' pa_cons ?q13 ?q14
              case q13 => exact pe_str
              case q14 => exact pa_nil
        case q5 => exact pss_nil
      case q2 =>
        refine' pss_cons ?q15 ?q16
        case q15 =>
          refine' ps_set (i := 2) sc_checked_track.nd rfl (Or.inl rfl) ?q17
          case q17 =>
            refine' pe_callTy call_int1 (by rfl) T.n_int b_int ?q18
            case q18 =>
              refine' pa_cons ?q19 ?q20
              case q19 => exact pv 0
              case q20 => exact pa_nil
        case q16 =>
          refine' pss_cons ?q21 ?q22
          case q21 =>
            refine' ps_if ?q23 ?q24 ?q25
            case q23 =>
              refine' PW.pt ?q26
              case q26 =>
                refine' pw_or ?q27 ?q28
                case q27 =>
                  refine' pt_cmpR op_lt ?q29 ?q30 (nomark _)
                  case q29 => exact pv 2
                  case q30 => exact pe_int
                case q28 =>
                  refine' pw_or1 ?q31
                  case q31 =>
                    refine' pt_cmpR op_ge ?q32 ?q33 (nomark _)
                    case q32 => exact pv 2
                    case q33 => exact pv 1
            case q24 =>
              refine' pss_one ?q34
              case q34 =>
                refine' ps_raise0 (k := 0) T.x0_BadMoves (hr.mono (by decide)) T.c_BadMoves rfl raisesE ?q35
                case q35 =>
                  refine' pa_cons ?q36 ?q37
                  case q36 => exact pe_str
                  case q37 => exact pa_nil
            case q25 => exact pss_nil
          case q22 =>
            refine' pss_one ?q38
            case q38 =>
              refine' ps_ret ?q39
              case q39 => exact pv 2
    rcases h with ⟨t, rfl, h1, h2, q⟩ | ⟨⟨bi, bb, bl, bt, bs, hk, hb⟩ | ⟨t, rfl, ht⟩, q⟩
    · refine ⟨_, rfl, _, _, _, _, _, _, rfl, kd_int t, _, rfl, iteF ?_⟩
      refine ⟨_, rfl, .inl ⟨t, rfl, ?_⟩⟩
      refine ⟨_, rfl, t, 0, rfl, rfl, _, rfl, ?_⟩
      rw [decide_eq_false (show ¬ t < 0 by omega)]
      refine iteF ⟨_, rfl, _, rfl, t, n, rfl, rfl, _, rfl, ?_⟩
      rw [decide_eq_false (show ¬ n ≤ t by omega)]
      exact iteF ⟨_, rfl, q⟩
    · refine ⟨_, rfl, _, _, _, _, _, _, rfl, hk, _, rfl, ?_⟩
      rw [hb]
      exact iteT ⟨(by show 1 ≤ 1000; decide), q⟩
    · refine ⟨_, rfl, _, _, _, _, _, _, rfl, kd_int t, _, rfl, iteF ?_⟩
      refine ⟨_, rfl, .inl ⟨t, rfl, ?_⟩⟩
      refine ⟨_, rfl, t, 0, rfl, rfl, _, rfl, ?_⟩
      by_cases h0 : t < 0
      · rw [decide_eq_true h0]
        exact iteT ⟨(by show 1 ≤ 1000; decide), q⟩
      · rw [decide_eq_false h0]
        refine iteF ⟨_, rfl, _, rfl, t, n, rfl, rfl, _, rfl, ?_⟩
        rw [decide_eq_true (show n ≤ t by omega)]
        exact iteT ⟨(by show 1 ≤ 1000; decide), q⟩
end
end My.No
/-! sidings.checks, where something is refused: a move, moves, an order. -/
namespace My.No
open PySem L2
section
variable {P : Program} {w : World} {K : PySem.W.Frag} {mg : Str → Option Value} {base : Heap} {Z : Adr}
theorem BadW.same {H H' : Hp} {x : V} (s : Same H H') (h : BadW K H x) : BadW K H' x := by
  rcases h with ⟨bi, bb, bl, bt, h⟩ | h
  · exact .inl ⟨bi, bb, bl, bt, h.same s⟩
  · exact .inr h
theorem BadTr.same {H H' : Hp} {x : V} {n : Int} (s : Same H H') (h : BadTr K H x n) : BadTr K H' x n := h.imp (fun h => h.same s) id
/-- no move -/
def BadM (K : PySem.W.Frag) (H : Hp) (x : V) (n : Int) : Prop := (∃ bi bb bl bs, Kd K H x bi bb bl false bs) ∨ (∃ (a : Addr) (xs : List V), x = .ref a ∧ H a = some (.tup xs) ∧ xs.length ≠ 2 ∧ xs.length ≤ 1000) ∨
  ∃ (a : Addr) (u v : V), x = .ref a ∧ H a = some (.tup [u, v]) ∧ (BadW K H u ∨ ∃ b, u = .str (deed b) ∧ BadTr K H v n)
theorem BadM.same {H H' : Hp} {x : V} {n : Int} (s : Same H H') (h : BadM K H x n) : BadM K H' x n := by
  rcases h with ⟨bi, bb, bl, bs, h⟩ | ⟨a, xs, e, h, r⟩ | ⟨a, u, v, e, h, r⟩
  · exact .inl ⟨bi, bb, bl, bs, h.same s⟩
  · exact .inr (.inl ⟨a, xs, e, s _ _ h, r⟩)
  · exact .inr (.inr ⟨a, u, v, e, s _ _ h, r.imp (fun z => z.same s) fun ⟨b, e, z⟩ => ⟨b, e, z.same s⟩⟩)
def OkM (H : Hp) (x : V) (n : Int) : Prop := ∃ (a : Addr) (b : Bool) (t : Int), x = .ref a ∧ H a = some (.tup [.str (deed b), .int t]) ∧ 0 ≤ t ∧ t < n
def sp_checked_move (K : PySem.W.Frag) (Z : Adr) : Sp := fun vs H Q E => ∃ (x : V) (n : Int), vs = [x, .int n] ∧ ((OkM H x n ∧ ∀ p H', Same H H' → Q (.ref p) H') ∨ (BadM K H x n ∧ ∀ H', Same H H' → E (.ref Z.cBadMoves) none H'))
theorem sc_checked_move : FnScope ["move", "many", "pair"] ["move", "many"] (defScope s_checked_move) := ⟨rfl, rfl, rfl, by decide +kernel, rfl, by decide +kernel, by decide +kernel⟩
theorem C_checked_move (T : Tx K mg Z) : Ctr P w K mg base (CXe P w) 3 "checked_move" ["move", "many"] (sp_checked_move K Z) := by
  refine ctr_of T.checked_move fun f fd F => F.okE sc_checked_move (fun vs H Q E h => ?_) (fun cdv A outer s H vs Q E hr h => ?_)
  · obtain ⟨x, n, rfl, _⟩ := h
    rfl
  · obtain ⟨x, n, rfl, h⟩ := h
    have hc : (∃ bi bb bl bs, Kd K H x bi bb bl false bs ∧ ∀ H', Same H H' → E (.ref Z.cBadMoves) none H') ∨ ∃ (a : Addr) (xs : List V), x = .ref a ∧ H a = some (.tup xs) ∧ xs.length ≤ 1000 ∧ ((xs.length ≠ 2 ∧ ∀ H', Same H H' → E (.ref Z.cBadMoves) none H') ∨
        ∃ u v, xs = [u, v] ∧ ((BadW K H u ∧ ∀ H', Same H H' → E (.ref Z.cBadMoves) none H') ∨ ∃ b, u = .str (deed b) ∧ ((BadTr K H v n ∧ ∀ H', Same H H' → E (.ref Z.cBadMoves) none H') ∨ ∃ t, v = .int t ∧ 0 ≤ t ∧ t < n ∧ ∀ p H', Same H H' → Q (.ref p) H'))) := by
      rcases h with ⟨⟨a, b, t, e, h, h1, h2⟩, k⟩ | ⟨⟨bi, bb, bl, bs, h⟩ | ⟨a, xs, e, h, h1, h2⟩ | ⟨a, u, v, e, h, r⟩, k⟩
      · exact .inr ⟨a, _, e, h, (by show 2 ≤ 1000; decide), .inr ⟨_, _, rfl, .inr ⟨b, rfl, .inr ⟨t, rfl, h1, h2, k⟩⟩⟩⟩
      · exact .inl ⟨bi, bb, bl, bs, h, k⟩
      · exact .inr ⟨a, xs, e, h, h2, .inl ⟨h1, k⟩⟩
      · refine .inr ⟨a, _, e, h, (by show 2 ≤ 1000; decide), .inr ⟨u, v, rfl, ?_⟩⟩
        rcases r with r | ⟨b, eb, r⟩
        · exact .inl ⟨r, k⟩
        · exact .inr ⟨b, eb, .inl ⟨r, k⟩⟩
    clear h
    refine' ⟨_, ?hterm, ?_⟩
    case hterm =>
      refine' pss_cons ?q1 ?q2
      case q1 =>
        refine' ps_if ?q3 ?q4 ?q5
        case q3 =>
          refine' pt_not ?q6
          case q6 =>
            refine' pt_truK (K := K) (by rfl) ?q7 (fun _ => rfl)
            case q7 =>
              refine' pe_callB (callK_isinstance (K := K) (by rfl)) (by rfl) T.n_isinstance b_isinstance ?q8
              case q8 =>
                refine' pa_cons ?q9 ?q10
                case q9 => exact pv 0
                case q10 =>
                  refine' pa_cons ?q11 ?q12
                  case q11 => exact pe_tyN rfl T.n_tuple b_tuple
                  case q12 => exact pa_nil
        case q4 =>
          refine' pss_one ?q13
          case q13 =>
            refine' ps_raise0 (k := 0) T.x0_BadMoves (hr.mono (by decide)) T.c_BadMoves rfl raisesE ?q14
            case q14 =>
              refine' pa_cons ?q15 ?q16
              case q15 => exact pe_str
              case q16 => exact pa_nil
        case q5 => exact pss_nil
      case q2 =>
        refine' pss_cons ?q17 ?q18
        case q17 =>
          refine' ps_set (i := 2) sc_checked_move.nd rfl (Or.inl rfl) ?q19
          case q19 =>
            refine' pe_op (op_addK (K := K) (by rfl)) ?q20 ?q21
            case q20 =>
              refine' pe_tup ?q22
              case q22 => exact pa_nil
            case q21 => exact pv 0
        case q18 =>
          refine' pss_cons ?q23 ?q24
          case q23 =>
            refine' ps_if ?q25 ?q26 ?q27
            case q25 =>
              refine' pt_cmpR (op_neK (K := K) (by rfl) (by exact hr.units)) ?q28 ?q29 (nomark _)
              case q28 =>
                refine' pe_callB (callK_len (K := K) (by rfl)) (by rfl) T.n_len b_len ?q30
                case q30 =>
                  refine' pa_cons ?q31 ?q32
                  case q31 => exact pv 2
                  case q32 => exact pa_nil
              case q29 => exact pe_int
            case q26 =>
              refine' pss_one ?q33
              case q33 =>
                refine' ps_raise0 (k := 0) T.x0_BadMoves (hr.mono (by decide)) T.c_BadMoves rfl raisesE ?q34
                case q34 =>
                  refine' pa_cons ?q35 ?q36
                  case q35 => exact pe_str
                  case q36 => exact pa_nil
            case q27 => exact pss_nil
          case q24 =>
            refine' pss_one ?q37
            case q37 =>
              refine' ps_ret ?q38
              case q38 =>
                refine' pe_tup ?q39
                case q39 =>
                  refine' pa_cons ?q40 ?q41
                  case q40 =>
                    refine' pe_callCE (C_checked_word T) (hr.mono (by decide)) rfl ?q42 (passE (fun _ _ _ z => z))
                    case q42 =>
                      refine' pa_cons ?q43 ?q44
                      case q43 =>
                        refine' pe_ix (ix_K (K := K) (by rfl)) ?q45 ?q46 (fun _ _ => rfl)
                        case q45 => exact pv 2
                        case q46 => exact pe_int
                      case q44 => exact pa_nil
                  case q41 =>
                    refine' pa_cons ?q47 ?q48
                    case q47 =>
                      refine' pe_callCE (C_checked_track T) (hr.mono (by decide)) rfl ?q49 (passE (fun _ _ _ z => z))
                      case q49 =>
                        refine' pa_cons ?q50 ?q51
                        case q50 =>
                          refine' pe_ix (ix_K (K := K) (by rfl)) ?q52 ?q53 (fun _ _ => rfl)
                          case q52 => exact pv 2
                          case q53 => exact pe_int
                        case q51 =>
                          refine' pa_cons ?q54 ?q55
                          case q54 => exact pv 1
                          case q55 => exact pa_nil
                    case q48 => exact pa_nil
    rcases hc with ⟨bi, bb, bl, bs, ⟨ty, h1, h2, h3, h4, h5, h6⟩, k⟩ | ⟨a, xs, rfl, hm, hl, hx⟩
    · refine ⟨_, rfl, _, _, _, _, _, rfl, rfl, ty_inj, h1, h5, _, rfl, iteT ?_⟩
      exact ⟨(by show 1 ≤ 1000; decide), k _ (Same.refl _)⟩
    refine ⟨_, rfl, _, _, _, _, _, rfl, rfl, ty_inj, .tup hm, kit_same, _, rfl, iteF ?_⟩
    refine ⟨Nat.zero_le _, fun e he => ⟨_, rfl, .inr (.inr (.inl ⟨e, a, [], _, rfl, rfl, SqT.of upd_same, SqT.of (upd_get hm he), (by rw [List.length_nil, Nat.zero_add]; exact Nat.le_of_lt (small1000 hl)), fun _ => ?_, fun z => absurd rfl z, fun z => absurd rfl z⟩))⟩⟩
    have hm1 : upd H e (.tup []) a = some (.tup xs) := upd_get hm he
    have se := Same.upd (o := .tup []) he
    refine ⟨_, rfl, _, _, rfl, .inr ⟨_, SqT.of hm1, rfl⟩, .inl ⟨rfl, _, rfl, ?_⟩⟩
    rcases hx with ⟨hne, k⟩ | ⟨u, v, rfl, hx⟩
    · refine iteNB (fun _ => ⟨(by show 1 ≤ 1000; decide), k _ se⟩) (fun z => ?_)
      have := V.int.inj z
      omega
    refine iteNS rfl ?_
    refine ⟨_, rfl, .inr ⟨a, _, 0, _, rfl, rfl, SqT.of hm1, rfl, ?_⟩⟩
    rcases hx with ⟨hb, k⟩ | ⟨b, rfl, hx⟩
    · exact .inr ⟨u, rfl, hb.same se, fun H' s' => k H' (se.trans s')⟩
    refine .inl ⟨b, rfl, fun H2 s2 => ?_⟩
    refine ⟨_, rfl, .inr ⟨a, _, 1, _, rfl, rfl, SqT.of (s2 _ _ hm1), rfl, _, rfl, v, n, rfl, ?_⟩⟩
    rcases hx with ⟨hb, k⟩ | ⟨t, rfl, h1, h2, k⟩
    · exact .inr ⟨hb.same (se.trans s2), k _ (se.trans s2)⟩
    · exact .inl ⟨t, rfl, h1, h2, (by show 2 ≤ sizeLine; decide), fun p hp => k p _ ((se.trans s2).trans (Same.upd hp))⟩
/-- no moves -/
def BadMs (K : PySem.W.Frag) (H : Hp) (x : V) (n : Int) : Prop := (∃ bi bb bt bs, Kd K H x bi bb false bt bs) ∨
  ∃ (a : Addr) (pre : List V) (y : V) (post : List V), x = .ref a ∧ H a = some (.lst (pre ++ y :: post)) ∧ (pre ++ y :: post).length ≤ 900 ∧ (∀ z ∈ pre, OkM H z n) ∧ BadM K H y n
theorem OkM.same {H H' : Hp} {x : V} {n : Int} (s : Same H H') (h : OkM H x n) : OkM H' x n := by
  obtain ⟨a, b, t, e, h, r⟩ := h
  exact ⟨a, b, t, e, s _ _ h, r⟩
def sp_checked_moves (K : PySem.W.Frag) (Z : Adr) : Sp := fun vs H _ E => ∃ (x : V) (n : Int), vs = [x, .int n] ∧ BadMs K H x n ∧ ∀ H', Same H H' → E (.ref Z.cBadMoves) none H'
theorem sc_checked_moves : FnScope ["moves", "many"] ["moves", "many"] (defScope s_checked_moves) := ⟨rfl, rfl, rfl, by decide +kernel, rfl, by decide +kernel, by decide +kernel⟩
theorem C_checked_moves (T : Tx K mg Z) : Ctr P w K mg base (CXe P w) 4 "checked_moves" ["moves", "many"] (sp_checked_moves K Z) := by
  refine ctr_of T.checked_moves fun f fd F => F.okE sc_checked_moves (fun vs H Q E h => ?_) (fun cdv A outer s H vs Q E hr h => ?_)
  · obtain ⟨x, n, rfl, _⟩ := h
    rfl
  · obtain ⟨x, n, rfl, h, k⟩ := h
    refine' ⟨_, ?hterm, ?_⟩
    case hterm =>
      refine' pss_cons ?q1 ?q2
      case q1 =>
        refine' ps_if ?q3 ?q4 ?q5
        case q3 =>
          refine' pt_not ?q6
          case q6 =>
            refine' pt_truK (K := K) (by rfl) ?q7 (fun _ => rfl)
            case q7 =>
              refine' pe_callB (callK_isinstance (K := K) (by rfl)) (by rfl) T.n_isinstance b_isinstance ?q8
              case q8 =>
                refine' pa_cons ?q9 ?q10
                case q9 => exact pv 0
                case q10 =>
                  refine' pa_cons ?q11 ?q12
                  case q11 => exact pe_tyN rfl T.n_list b_list
                  case q12 => exact pa_nil
        case q4 =>
          refine' pss_one ?q13
          case q13 =>
            refine' ps_raise0 (k := 0) T.x0_BadMoves (hr.mono (by decide)) T.c_BadMoves rfl raisesE ?q14
            case q14 =>
              refine' pa_cons ?q15 ?q16
              case q15 => exact pe_str
              case q16 => exact pa_nil
        case q5 => exact pss_nil
      case q2 =>
        refine' pss_one ?q17
        case q17 =>
          refine' ps_ret ?q18
          case q18 =>
            refine' pe_compE rfl rfl rfl raisesF (csc_of (sc := defScope s_checked_moves) (N := ["moves", "many"]) (cap := [none, some 1]) (N' := ["move", "many"]) rfl rfl ⟨ rfl, by decide +kernel, by decide +kernel, by decide +kernel, rfl, by decide +kernel ⟩) ?q19 (fun _ _ _ _ => ?q20) (fun _ _ _ _ => ?q21) (fun _ _ _ _ => ?q22)
            case q19 =>
              refine' pi_listK (K := K) (by rfl) ?q23
              case q23 =>
                refine' pe_op (op_addK (K := K) (by rfl)) ?q24 ?q25
                case q24 =>
                  refine' pe_lst ?q26
                  case q26 => exact pa_nil
                case q25 => exact pv 0
            case q20 => exact pg_name (i := 0) (show List.Nodup (["move", "many"] : List Str) from by decide +kernel) (by rfl) (by exact Or.inl rfl)
            case q21 => exact pif_nil
            case q22 =>
              refine' pe_callCE (C_checked_move T) (hr.mono (by decide)) rfl ?q27 passC
              case q27 =>
                refine' pa_cons ?q28 ?q29
                case q28 => exact pv 0
                case q29 =>
                  refine' pa_cons ?q30 ?q31
                  case q30 => exact pv 1
                  case q31 => exact pa_nil
    rcases h with ⟨bi, bb, bt, bs, ty, h1, h2, h3, h4, h5⟩ | ⟨a, pre, y, post, rfl, ha, hl, hpre, hy⟩
    · refine ⟨_, rfl, _, _, _, _, _, rfl, rfl, ty_inj, h1, h4, _, rfl, iteT ?_⟩
      exact ⟨(by show 1 ≤ 1000; decide), k _ (Same.refl _)⟩
    refine ⟨_, rfl, _, _, _, _, _, rfl, rfl, ty_inj, .lst ha, kit_same, _, rfl, iteF ?_⟩
    refine ⟨Nat.zero_le _, fun e he => ⟨_, rfl, .inr (.inl ⟨e, a, [], _, rfl, rfl, upd_same, upd_get ha he, ?_, fun u hu => ?_⟩)⟩⟩
    · rw [List.length_nil, Nat.zero_add]
      exact Nat.le_of_lt (small1000 (by omega))
    rw [List.nil_append]
    have s1 : Same H (upd (upd H e (.lst [])) u (.lst (pre ++ y :: post))) := (Same.upd he).trans (Same.upd hu)
    refine ⟨u, rfl, ⟨_, SqL.of upd_same⟩, fun p hp => ?_⟩
    have hu' : upd (upd H e (.lst [])) u (.lst (pre ++ y :: post)) u = some (.lst (pre ++ y :: post)) := upd_same
    have hHp := s1.free hp
    refine turns_list (K := K) (a := u) (xs := pre ++ y :: post) (fun i σ H2 => (∃ v, σ = [v, some (.int n)]) ∧ Same H H2 ∧ H2 u = some (.lst (pre ++ y :: post)) ∧ (∃ ys : List V, ys.length = i ∧ H2 p = some (.lst ys)) ∧ i ≤ pre.length)
      ⟨⟨_, rfl⟩, s1.trans (Same.upd hp), upd_get hu' hp, ⟨[], rfl, upd_same⟩, Nat.zero_le _⟩ (fun i σ H2 _ h => SqL.of h.2.2.1) ?_ ?_
    · rintro i x σ H2 hx ⟨⟨v, rfl⟩, s2, h3, ⟨ys, hys, h4⟩, hi⟩
      refine ⟨_, rfl, _, rfl, x, n, rfl, ?_⟩
      by_cases hlt : i < pre.length
      · rw [List.getElem?_append_left hlt] at hx
        refine .inl ⟨(hpre x (List.mem_of_getElem? hx)).same s2, fun q H3 s3 => ⟨ys, s3 _ _ h4, ?_, ⟨_, rfl⟩, Same.updN (s2.trans s3) hHp, ?_, ⟨_, ?_, upd_same⟩, hlt⟩⟩
        · rw [hys]
          rw [List.length_append] at hl
          exact small1000 (by omega)
        · rw [upd_ne (ne_of_none hu' hp)]
          exact s3 _ _ h3
        · rw [List.length_append, hys]
          rfl
      · have ei : i = pre.length := by omega
        subst ei
        rw [List.getElem?_append_right (Nat.le_refl _), Nat.sub_self] at hx
        cases hx
        exact .inr ⟨hy.same s2, fun H' s' => k H' (s2.trans s')⟩
    · rintro σ H2 ⟨_, _, _, _, hi⟩
      rw [List.length_append, List.length_cons] at hi
      omega
end
end My.No
/-! sidings.yards.places_in_order. -/
namespace My
open PySem L2
section
variable {P : Program} {w : World} {K : PySem.W.Frag} {mg : Str → Option Value} {base : Heap} {Z : Adr}
/-- the table of the lambda's code stands -/
def TabH (Z : Adr) (H : Hp) : Prop := H Z.lt_places_in_order = some (.tbl lp_places_in_order lq_places_in_order)
theorem TabH.of {H : Hp} (T : Tx K mg Z) (h : TabsIn K lams H) : TabH Z H := h _ _ (tabs_one T.lo_places_in_order)
theorem TabH.same {H H' : Hp} (h : TabH Z H) (s : Same H H') : TabH Z H' := s _ _ h
def sp_places (Z : Adr) : Sp := fun vs H Q _ => ∃ (a : Addr) (T : List Int), vs = [.ref a] ∧ H a = some (.lst (T.map V.int)) ∧ T.length ≤ 63 ∧ TabH Z H ∧ ∀ (l : Addr) (H' : Hp) (ord : List Nat), Same H H' → H l = none → Rank T ord → H' l = some (.lst (ordV ord)) → Q (.ref l) H'
theorem sc_places_in_order : FnScope ["wagons"] ["wagons"] (defScope s_places_in_order) := ⟨rfl, rfl, rfl, by decide +kernel, rfl, by decide +kernel, by decide +kernel⟩
theorem C_places_in_order (T : Tx K mg Z) : Ctr P w K mg base CX0 3 "places_in_order" ["wagons"] (sp_places Z) := by
  refine ctr_ofC T.lm_places_in_order fun f fd F hc => F.okC hc sc_places_in_order (fun vs H Q E h => ?_) (fun A outer s H vs Q E hr h => ?_)
  · obtain ⟨a, T, rfl, _⟩ := h
    rfl
  · obtain ⟨a, tr, rfl, ha, hz, hP, k⟩ := h
    refine' ⟨_, ?hterm, ?_⟩
    case hterm =>
      refine' pss_one ?q1
      case q1 =>
        refine' ps_ret ?q2
        case q2 =>
          refine' pe_key (k := 0) (P := Z.lt_places_in_order) (c := Z.lc_places_in_order) (x := "place") (y := "wagons") (j := 0) sortTo63 (by decide) ?q3 (hr.mono (by decide)) rfl (fun kin => PySem.W.codeHd_of_K kin T.lm_places_in_order.hd)
            (csc_of (sc := defScope s_places_in_order) (N := ["wagons"]) (cap := [none, some 0]) (N' := ["place", "wagons"]) rfl rfl ⟨rfl, by decide +kernel, by decide +kernel, by decide +kernel, rfl, by decide +kernel⟩) rfl rfl rfl rfl (by rfl) T.n_sorted rfl (fun _ _ _ _ _ => rfl)
          case q3 =>
            refine' pe_callTy call_rangeV (by rfl) T.n_range b_range ?q4
            case q4 =>
              refine' pa_cons ?q5 pa_nil
              case q5 =>
                refine' pe_callB (callK_len (K := K) (by rfl)) (by rfl) T.n_len b_len ?q6
                case q6 => exact pa_cons (pv 0) pa_nil
    refine ⟨_, rfl, _, _, rfl, .inl ⟨_, SqL.of ha, rfl⟩, 0, _, .inl ⟨rfl, rfl⟩, fun r hr' => ⟨r, a, tr, rfl, ?_, rfl, upd_get ha hr', hz, upd_get hP hr', fun l H' ord s1 hl hord hl' => k l H' ord ((Same.upd hr').trans s1) ((Same.upd hr').free hl) hord hl'⟩⟩
    rw [upd_same, List.length_map]
end
end My
/-! Orders that are refused; the doors of a train alone. -/
namespace My.No
open PySem L2
section
variable {P : Program} {w : World} {K : PySem.W.Frag} {mg : Str → Option Value} {base : Heap} {Z : Adr}
theorem named_of {x : Str} {st : Stmt} {ps : List Str} (F : FnT K mg x st ps) : Named K mg x := by
  obtain ⟨f, fd, F, e, b⟩ := F.ex
  exact ⟨f, e, F.kp⟩
theorem named_lm {x : Str} {st : Stmt} {ps : List Str} {c Pt : Addr} (F : LmT K mg x st ps c Pt) : Named K mg x := by
  obtain ⟨f, fd, F, e, b⟩ := F.ex
  exact ⟨f, e, F.kp⟩
theorem BadT.same {H H' : Hp} {x : V} (s : Same H H') (h : BadT K H x) : BadT K H' x := by
  rcases h with ⟨bi, bb, bt, bs, h⟩ | ⟨a, pre, y, post, e, h, r, n⟩ | ⟨a, ns, e, h, r⟩
  · exact .inl ⟨bi, bb, bt, bs, h.same s⟩
  · exact .inr (.inl ⟨a, pre, y, post, e, s _ _ h, r, n.same s⟩)
  · exact .inr (.inr ⟨a, ns, e, s _ _ h, r⟩)
theorem BadC.same {H H' : Hp} {x : V} (s : Same H H') (h : BadC K H x) : BadC K H' x := h.imp (fun h => h.same s) id
theorem BadMs.same {H H' : Hp} {x : V} {n : Int} (s : Same H H') (h : BadMs K H x n) : BadMs K H' x n := by
  rcases h with ⟨bi, bb, bt, bs, h⟩ | ⟨a, pre, y, post, e, h, r, o, n⟩
  · exact .inl ⟨bi, bb, bt, bs, h.same s⟩
  · exact .inr ⟨a, pre, y, post, e, s _ _ h, r, fun z hz => (o z hz).same s, n.same s⟩
/-- no order -/
def BadO (K : PySem.W.Frag) (H : Hp) (x : V) : Prop := BadT K H x ∨ ∃ (a : Addr) (ns : List Int), x = .ref a ∧ H a = some (.lst (ns.map V.int)) ∧ ns.length < 64 ∧ ns.Nodup ∧ ¬ ns.Perm (Yd.R ns.length)
theorem BadO.same {H H' : Hp} {x : V} (s : Same H H') (h : BadO K H x) : BadO K H' x := by
  rcases h with h | ⟨a, ns, e, h, r⟩
  · exact .inl (h.same s)
  · exact .inr ⟨a, ns, e, s _ _ h, r⟩
def spO (K : PySem.W.Frag) (Z : Adr) : Sp := fun vs H _ E => ∃ x, vs = [x] ∧ BadO K H x ∧ ∀ H', Same H H' → E (.ref Z.cBadTrain) none H'
def spT (K : PySem.W.Frag) (Z : Adr) : Sp := fun vs H _ E => ∃ x, vs = [x] ∧ BadT K H x ∧ ∀ H', Same H H' → E (.ref Z.cBadTrain) none H'
theorem sc_checked_order : FnScope ["order", "wagons"] ["order"] (defScope s_checked_order) := ⟨rfl, rfl, rfl, by decide +kernel, rfl, by decide +kernel, by decide +kernel⟩
theorem C_checked_order (T : Tx K mg Z) : Ctr P w K mg base (CXe P w) 4 "checked_order" ["order"] (spO K Z) := by
  refine ctr_of T.checked_order fun f fd F => F.okE sc_checked_order (fun vs H Q E h => ?_) (fun cdv A outer s H vs Q E hr h => ?_)
  · obtain ⟨x, rfl, _⟩ := h
    rfl
  · obtain ⟨x, rfl, h, k⟩ := h
    refine' ⟨_, ?hterm, ?_⟩
    case hterm =>
      refine' pss_cons ?q1 ?q2
      case q1 =>
        refine' ps_set (i := 1) sc_checked_order.nd rfl (Or.inl rfl) ?q3
        case q3 =>
          refine' pe_callCE (C_checked_train T) (hr.mono (by decide)) rfl ?q4 (passE (fun _ _ _ z => z))
          case q4 =>
            refine' pa_cons ?q5 ?q6
            case q5 => exact pv 0
            case q6 => exact pa_nil
      case q2 =>
        refine' pss_cons ?q7 ?q8
        case q7 =>
          refine' ps_if ?q9 ?q10 ?q11
          case q9 =>
            refine' pt_cmpR (op_neK (K := K) (by rfl) (by exact hr.units)) ?q12 ?q13 (nomark _)
            case q12 =>
              refine' pe_callB (callK_sorted (K := K) (by rfl)) (by rfl) T.n_sorted b_sorted ?q14
              case q14 =>
                refine' pa_cons ?q15 ?q16
                case q15 => exact pv 1
                case q16 => exact pa_nil
            case q13 =>
              refine' pe_callTy (callK_listU (K := K) (by rfl) (by rfl)) (by rfl) T.n_list b_list ?q17
              case q17 =>
                refine' pa_cons ?q18 ?q19
                case q18 =>
                  refine' pe_callTy call_rangeV (by rfl) T.n_range b_range ?q20
                  case q20 =>
                    refine' pa_cons ?q21 ?q22
                    case q21 =>
                      refine' pe_callB (callK_len (K := K) (by rfl)) (by rfl) T.n_len b_len ?q23
                      case q23 =>
                        refine' pa_cons ?q24 ?q25
                        case q24 => exact pv 1
                        case q25 => exact pa_nil
                    case q22 => exact pa_nil
                case q19 => exact pa_nil
          case q10 =>
            refine' pss_one ?q26
            case q26 =>
              refine' ps_raise0 (k := 0) T.x0_BadTrain (hr.mono (by decide)) T.c_BadTrain rfl raisesE ?q27
              case q27 =>
                refine' pa_cons ?q28 ?q29
                case q28 => exact pe_str
                case q29 => exact pa_nil
          case q11 => exact pss_nil
        case q8 =>
          refine' pss_one ?q30
          case q30 =>
            refine' ps_ret ?q31
            case q31 => exact pv 1
    rcases h with h | ⟨a, ns, rfl, ha, hz, hnd, hp⟩
    · exact ⟨_, rfl, .inr ⟨x, rfl, h, k⟩⟩
    refine ⟨_, rfl, .inl ⟨a, ns, rfl, ha, hz, hnd, fun wA H1 s1 f1 h1 => ?_⟩⟩
    refine ⟨_, rfl, wA, ns, rfl, SqL.of h1, hz, fun l ls hl hpn hs => ?_⟩
    have s2 := Same.upd (o := .lst (ls.map V.int)) hl
    refine ⟨_, rfl, _, _, rfl, .inl ⟨_, SqL.of (s2 _ _ h1), rfl⟩, 0, _, .inl ⟨rfl, rfl⟩, fun rA hrA => .inr ⟨rA, 0, _, rfl, upd_same, by decide, by decide, ?_, ?_, fun l2 hl2 => ?_⟩⟩
    · rw [List.length_map]; omega
    · rw [List.length_map]; omega
    rw [List.length_map, rngV_R]
    have s3 := (Same.upd (o := .rng 0 ((ns.map V.int).length : Int)) hrA)
    rw [List.length_map] at s3 hl2
    have s4 := s3.trans (Same.upd (o := .lst ((Yd.R ns.length).map V.int)) hl2)
    refine .inr ⟨dI ls, dI (Yd.R ns.length), .ints (SqL.of (s4 _ _ upd_same)), .ints (SqL.of upd_same), ok_ints _ _, ok_ints _ _, _, rfl, iteNT (fun z => ?_) ?_⟩
    · have e : ls = Yd.R ns.length := dI_inj z
      rw [e] at hpn
      exact hp hpn.symm
    · exact ⟨(by show 1 ≤ 1000; decide), k _ (s1.trans (s2.trans s4))⟩
theorem sc_one_blind : FnScope ["train"] ["train"] (defScope s_one_blind) := ⟨rfl, rfl, rfl, by decide +kernel, rfl, by decide +kernel, by decide +kernel⟩
theorem C_one_blind (T : Tx K mg Z) : Ctr P w K mg base (CXe P w) 4 "one_blind" ["train"] (spT K Z) := by
  refine ctr_of T.one_blind fun f fd F => F.okE sc_one_blind (fun vs H Q E h => ?_) (fun cdv A outer s H vs Q E hr h => ?_)
  · obtain ⟨x, rfl, _⟩ := h
    rfl
  · obtain ⟨x, rfl, h, k⟩ := h
    refine' ⟨_, ?hterm, ?_⟩
    case hterm =>
      refine' pss_one ?q1
      case q1 =>
        refine' ps_ret ?q2
        case q2 =>
          refine' pe_callStop (named_of T.through_one_blind) rfl ?q3
          case q3 =>
            refine' pa_cons ?q4 ?q5
            case q4 =>
              refine' pe_callCE (C_checked_train T) (hr.mono (by decide)) rfl ?q6 (passE (fun _ _ _ z => z))
              case q6 =>
                refine' pa_cons ?q7 ?q8
                case q7 => exact pv 0
                case q8 => exact pa_nil
            case q5 => exact pa_nil
    exact ⟨_, rfl, .inr ⟨x, rfl, h, k⟩⟩
theorem sc_two_blind : FnScope ["train", "wagons", "leaving", "forest", "shunting", "ring", "lasts"] ["train"] (defScope s_two_blind) := ⟨rfl, rfl, rfl, by decide +kernel, rfl, by decide +kernel, by decide +kernel⟩
theorem C_two_blind (T : Tx K mg Z) : Ctr P w K mg base (CXe P w) 4 "two_blind" ["train"] (spT K Z) := by
  refine ctr_of T.two_blind fun f fd F => F.okE sc_two_blind (fun vs H Q E h => ?_) (fun cdv A outer s H vs Q E hr h => ?_)
  · obtain ⟨x, rfl, _⟩ := h
    rfl
  · obtain ⟨x, rfl, h, k⟩ := h
    refine' ⟨_, ?hterm, ?_⟩
    case hterm =>
      refine' pss_stop ?q1
      case q1 =>
        refine' ps_set (i := 1) sc_two_blind.nd rfl (Or.inl rfl) ?q2
        case q2 =>
          refine' pe_callCE (C_checked_train T) (hr.mono (by decide)) rfl ?q3 (passE (fun _ _ _ z => z))
          case q3 =>
            refine' pa_cons ?q4 ?q5
            case q4 => exact pv 0
            case q5 => exact pa_nil
    exact ⟨_, rfl, .inr ⟨x, rfl, h, k⟩⟩
theorem sc_fewest : FnScope ["train", "wagons", "tracks"] ["train"] (defScope s_fewest) := ⟨rfl, rfl, rfl, by decide +kernel, rfl, by decide +kernel, by decide +kernel⟩
theorem C_fewest (T : Tx K mg Z) : Ctr P w K mg base (CXe P w) 4 "fewest" ["train"] (spT K Z) := by
  refine ctr_of T.fewest fun f fd F => F.okE sc_fewest (fun vs H Q E h => ?_) (fun cdv A outer s H vs Q E hr h => ?_)
  · obtain ⟨x, rfl, _⟩ := h
    rfl
  · obtain ⟨x, rfl, h, k⟩ := h
    refine' ⟨_, ?hterm, ?_⟩
    case hterm =>
      refine' pss_stop ?q1
      case q1 =>
        refine' ps_set (i := 1) sc_fewest.nd rfl (Or.inl rfl) ?q2
        case q2 =>
          refine' pe_callCE (C_checked_train T) (hr.mono (by decide)) rfl ?q3 (passE (fun _ _ _ z => z))
          case q3 =>
            refine' pa_cons ?q4 ?q5
            case q4 => exact pv 0
            case q5 => exact pa_nil
    exact ⟨_, rfl, .inr ⟨x, rfl, h, k⟩⟩
theorem sc_written : FnScope ["train", "wagons", "wagon"] ["train"] (defScope s_written) := ⟨rfl, rfl, rfl, by decide +kernel, rfl, by decide +kernel, by decide +kernel⟩
theorem C_written (T : Tx K mg Z) : Ctr P w K mg base (CXe P w) 4 "written" ["train"] (spT K Z) := by
  refine ctr_of T.written fun f fd F => F.okE sc_written (fun vs H Q E h => ?_) (fun cdv A outer s H vs Q E hr h => ?_)
  · obtain ⟨x, rfl, _⟩ := h
    rfl
  · obtain ⟨x, rfl, h, k⟩ := h
    refine' ⟨_, ?hterm, ?_⟩
    case hterm =>
      refine' pss_stop ?q1
      case q1 =>
        refine' ps_set (i := 1) sc_written.nd rfl (Or.inl rfl) ?q2
        case q2 =>
          refine' pe_callCE (C_checked_train T) (hr.mono (by decide)) rfl ?q3 (passE (fun _ _ _ z => z))
          case q3 =>
            refine' pa_cons ?q4 ?q5
            case q4 => exact pv 0
            case q5 => exact pa_nil
    exact ⟨_, rfl, .inr ⟨x, rfl, h, k⟩⟩
theorem sc_arranged : FnScope ["order", "turns", "answer"] ["order"] (defScope s_arranged) := ⟨rfl, rfl, rfl, by decide +kernel, rfl, by decide +kernel, by decide +kernel⟩
theorem C_arranged (T : Tx K mg Z) : Ctr P w K mg base (CXe P w) 5 "arranged" ["order"] (spO K Z) := by
  refine ctr_of T.arranged fun f fd F => F.okE sc_arranged (fun vs H Q E h => ?_) (fun cdv A outer s H vs Q E hr h => ?_)
  · obtain ⟨x, rfl, _⟩ := h
    rfl
  · obtain ⟨x, rfl, h, k⟩ := h
    refine' ⟨_, ?hterm, ?_⟩
    case hterm =>
      refine' pss_stop ?q1
      case q1 =>
        refine' ps_set (i := 1) sc_arranged.nd rfl (Or.inl rfl) ?q2
        case q2 =>
          refine' pe_callStop (named_lm T.lm_places_in_order) rfl ?q3
          case q3 =>
            refine' pa_cons ?q4 ?q5
            case q4 =>
              refine' pe_callCE (C_checked_order T) (hr.mono (by decide)) rfl ?q6 (passE (fun _ _ _ z => z))
              case q6 =>
                refine' pa_cons ?q7 ?q8
                case q7 => exact pv 0
                case q8 => exact pa_nil
            case q5 => exact pa_nil
    exact ⟨_, rfl, x, rfl, h, k⟩
end
end My.No
/-! The doors of more than a train. -/
namespace My.No
open PySem L2
section
variable {P : Program} {w : World} {K : PySem.W.Frag} {mg : Str → Option Value} {base : Heap} {Z : Adr}
theorem reps0 (n : Nat) (z : Int) : (List.replicate n [V.int z]).flatten = (List.replicate n z).map V.int := by
  induction n with
  | zero => rfl
  | succ n ih => rw [List.replicate_succ, List.flatten_cons, ih]; rfl
def sp_ranks (Z : Adr) : Sp := fun vs H Q _ => ∃ (a : Addr) (T : List Int), vs = [.ref a] ∧ H a = some (.lst (T.map V.int)) ∧ T.length < 64 ∧ TabH Z H ∧ ∀ (l : Addr) (H' : Hp), Same H H' → Q (.ref l) H'
theorem sc_ranks : FnScope ["wagons", "ranked", "rank", "place"] ["wagons"] (defScope s_ranks) := ⟨rfl, rfl, rfl, by decide +kernel, rfl, by decide +kernel, by decide +kernel⟩
theorem C_ranks (T : Tx K mg Z) : Ctr P w K mg base CX0 4 "ranks" ["wagons"] (sp_ranks Z) := by
  refine ctr_of T.ranks fun f fd F => F.ok sc_ranks (fun vs H Q E h => ?_) (fun cdv A outer s H vs Q E hr h => ?_)
  · obtain ⟨a, T, rfl, _⟩ := h
    rfl
  · obtain ⟨a, tr, rfl, ha, hz, hTab, kQ⟩ := h
    refine' ⟨_, ?hterm, ?_⟩
    case hterm =>
      refine' pss_cons ?q1 ?q2
      case q1 =>
        refine' ps_set (i := 1) sc_ranks.nd rfl (Or.inl rfl) ?q3
        case q3 =>
          refine' pe_op op_mulU ?q4 ?q5
          case q4 =>
            refine' pe_lst ?q6
            case q6 =>
              refine' pa_cons ?q7 ?q8
              case q7 => exact pe_int
              case q8 => exact pa_nil
          case q5 =>
            refine' pe_callB (callK_len (K := K) (by rfl)) (by rfl) T.n_len b_len ?q9
            case q9 =>
              refine' pa_cons ?q10 ?q11
              case q10 => exact pv 0
              case q11 => exact pa_nil
      case q2 =>
        refine' pss_cons ?q12 ?q13
        case q12 =>
          refine' ps_for HP rfl ?q14 ?q15 ?q16
          case q14 =>
            refine' pi_enumK (K := K) (by rfl) rfl T.n_enumerate ?q17
            case q17 =>
              refine' pa_cons ?q18 ?q19
              case q18 =>
                refine' pe_callC (C_places_in_order T) (hr.mono (by decide)) rfl ?q20
                case q20 =>
                  refine' pa_cons ?q21 ?q22
                  case q21 => exact pv 0
                  case q22 => exact pa_nil
              case q19 => exact pa_nil
          case q15 =>
            refine' pg_tupK (K := K) (n := 2) (by rfl) rfl ?q23
            case q23 =>
              refine' pgs_cons ?q24 ?q25
              case q24 => exact pg_name (i := 2) sc_ranks.nd (by rfl) (by exact Or.inl rfl)
              case q25 =>
                refine' pgs_cons ?q26 ?q27
                case q26 => exact pg_name (i := 3) sc_ranks.nd (by rfl) (by exact Or.inl rfl)
                case q27 => exact pgs_nil
          case q16 =>
            refine' pss_one ?q28
            case q28 =>
              refine' ps_asg ?q29 ?q30
              case q29 => exact pv 2
              case q30 =>
                refine' pg_sub ?q31 ?q32 set_list
                case q31 => exact pv 1
                case q32 => exact pv 3
        case q13 =>
          refine' pss_one ?q33
          case q33 =>
            refine' ps_ret ?q34
            case q34 => exact pv 1
    refine ⟨(by show 1 ≤ sizeLine; decide), fun e he => ?_⟩
    refine ⟨_, rfl, _, _, rfl, .inl ⟨_, SqL.of (upd_get ha he), rfl⟩, .inr ⟨e, _, _, rfl, rfl, upd_same, by omega, by rw [List.length_map]; omega, ?_, fun l hl => ?_⟩⟩
    · rw [List.length_map]
      exact Nat.le_of_lt (small1000' (by show 1 * _ ≤ _; omega))
    have hnat : ((tr.map V.int).length : Int).toNat = tr.length := by rw [List.length_map]; exact Int.toNat_natCast _
    rw [hnat, reps0]
    have s1 := (Same.upd (o := .lst [.int 0]) he).trans (Same.upd (o := .lst ((List.replicate tr.length (0 : Int)).map V.int)) hl)
    have hHl : H l = none := (Same.upd (o := .lst [.int 0]) he).free hl
    have hl1 : upd (upd H e (.lst [.int 0])) l (.lst ((List.replicate tr.length (0 : Int)).map V.int)) l = some (.lst ((List.replicate tr.length (0 : Int)).map V.int)) := upd_same
    generalize hH1 : upd (upd H e (.lst [.int 0])) l (.lst ((List.replicate tr.length (0 : Int)).map V.int)) = H1 at s1 hl1
    refine ⟨_, rfl, a, tr, rfl, s1 _ _ ha, by omega, hTab.same s1, fun lv H2 ord s2 f2 hR h2 => ?_⟩
    have s12 := s1.trans s2
    have hO := hR.ord
    refine ⟨lv, rfl, ⟨_, SqL.of h2⟩, ?_⟩
    refine for_enum (K := K) (a := lv) (xs := ordV ord) (fun i σ H3 => ∃ (L : List Int) (v2 v3 : Option V), σ = [some (.ref a), some (.ref l), v2, v3] ∧ Same H H3 ∧ H3 lv = some (.lst (ordV ord)) ∧ H3 l = some (.lst (L.map V.int)) ∧ L.length = tr.length)
      ⟨_, none, none, rfl, s12, h2, s2 _ _ hl1, List.length_replicate⟩ (fun i σ H3 _ ⟨L, v2, v3, z1, z2, z3, _⟩ => SqL.of z3) ?_ ?_
    · rintro i x t σ H3 hx ⟨L, v2, v3, rfl, s3, h3, h4, hL⟩ ht
      obtain ⟨p, ep, rfl⟩ := getMap hx
      have hp := hO.lt ep
      have st := Same.upd (o := .tup [.int (i : Int), .int (p : Int)]) ht
      have nll : lv ≠ l := fun z => by
        rw [z] at f2
        rw [f2] at hl1
        cases hl1
      refine ⟨t, _, rfl, SqT.of upd_same, rfl, _, _, rfl, _, _, rfl, rfl, ?_⟩
      refine ⟨_, rfl, _, rfl, _, rfl, l, _, (p : Int), p, rfl, rfl, st _ _ h4, ixN_nat (by rw [List.length_map, hL]; exact hp), ?_⟩
      exact ⟨L.set p (i : Int), _, _, rfl, Same.updN (s3.trans st) hHl, by rw [upd_ne nll]; exact st _ _ h3, by rw [upd_same, List.map_set], by rw [List.length_set]; exact hL⟩
    · rintro σ H3 ⟨L, v2, v3, rfl, s3, h3, h4, hL⟩
      exact ⟨_, rfl, kQ l H3 s3⟩
/-- a train -/
def OkT (H : Hp) (x : V) : Prop := ∃ (a : Addr) (ns : List Int), x = .ref a ∧ H a = some (.lst (ns.map V.int)) ∧ ns.length < 64 ∧ ns.Nodup
def sp_through (K : PySem.W.Frag) (Z : Adr) : Sp := fun vs H _ E => ∃ x y, vs = [x, y] ∧ ((BadT K H x ∧ ∀ H', Same H H' → E (.ref Z.cBadTrain) none H') ∨ (OkT H x ∧ BadC K H y ∧ ∀ H', Same H H' → E (.ref Z.cBadYard) none H'))
theorem sc_through : FnScope ["train", "many", "wagons", "count", "tracks"] ["train", "many"] (defScope s_through) := ⟨rfl, rfl, rfl, by decide +kernel, rfl, by decide +kernel, by decide +kernel⟩
theorem C_through (T : Tx K mg Z) : Ctr P w K mg base (CXe P w) 4 "through" ["train", "many"] (sp_through K Z) := by
  refine ctr_of T.through fun f fd F => F.okE sc_through (fun vs H Q E h => ?_) (fun cdv A outer s H vs Q E hr h => ?_)
  · obtain ⟨x, y, rfl, _⟩ := h
    rfl
  · obtain ⟨x, y, rfl, h⟩ := h
    refine' ⟨_, ?hterm, ?_⟩
    case hterm =>
      refine' pss_cons ?q1 ?q2
      case q1 =>
        refine' ps_set (i := 2) sc_through.nd rfl (Or.inl rfl) ?q3
        case q3 =>
          refine' pe_callCE (C_checked_train T) (hr.mono (by decide)) rfl ?q4 (passE (fun _ _ _ z => z))
          case q4 =>
            refine' pa_cons ?q5 ?q6
            case q5 => exact pv 0
            case q6 => exact pa_nil
      case q2 =>
        refine' pss_stop ?q7
        case q7 =>
          refine' ps_set (i := 3) sc_through.nd rfl (Or.inl rfl) ?q8
          case q8 =>
            refine' pe_callCE (C_checked_count T) (hr.mono (by decide)) rfl ?q9 (passE (fun _ _ _ z => z))
            case q9 =>
              refine' pa_cons ?q10 ?q11
              case q10 => exact pv 1
              case q11 => exact pa_nil
    rcases h with ⟨h, k⟩ | ⟨⟨a, ns, rfl, ha, hz, hn⟩, h, k⟩
    · exact ⟨_, rfl, .inr ⟨x, rfl, h, k⟩⟩
    · exact ⟨_, rfl, .inl ⟨a, ns, rfl, ha, hz, hn, fun p H1 s1 f1 h1 => ⟨_, rfl, .inr ⟨y, rfl, h.same s1, k _ s1⟩⟩⟩⟩
def sp_behind (K : PySem.W.Frag) (Z : Adr) : Sp := fun vs H _ E => ∃ x y, vs = [x, y] ∧ (BadT K H x ∨ (OkT H x ∧ BadT K H y ∧ TabH Z H)) ∧ ∀ H', Same H H' → E (.ref Z.cBadTrain) none H'
theorem sc_behind : FnScope ["one", "other", "ahead"] ["one", "other"] (defScope s_behind) := ⟨rfl, rfl, rfl, by decide +kernel, rfl, by decide +kernel, by decide +kernel⟩
theorem C_behind (T : Tx K mg Z) : Ctr P w K mg base (CXe P w) 5 "behind" ["one", "other"] (sp_behind K Z) := by
  refine ctr_of T.behind fun f fd F => F.okE sc_behind (fun vs H Q E h => ?_) (fun cdv A outer s H vs Q E hr h => ?_)
  · obtain ⟨x, y, rfl, _⟩ := h
    rfl
  · obtain ⟨x, y, rfl, h, k⟩ := h
    refine' ⟨_, ?hterm, ?_⟩
    case hterm =>
      refine' pss_cons ?q1 ?q2
      case q1 =>
        refine' ps_set (i := 2) sc_behind.nd rfl (Or.inr rfl) ?q3
        case q3 =>
          refine' pe_callC (C_ranks T) (hr.mono (by decide)) rfl ?q4
          case q4 =>
            refine' pa_cons ?q5 ?q6
            case q5 =>
              refine' pe_callCE (C_checked_train T) (hr.mono (by decide)) rfl ?q7 (passE (fun _ _ _ z => z))
              case q7 =>
                refine' pa_cons ?q8 ?q9
                case q8 => exact pv 0
                case q9 => exact pa_nil
            case q6 => exact pa_nil
      case q2 =>
        refine' pss_one ?q10
        case q10 =>
          refine' ps_ret ?q11
          case q11 =>
            refine' pe_op (op_addK (K := K) (by rfl)) ?q12 ?q13
            case q12 => exact pv 2
            case q13 =>
              refine' pe_comp rfl (csc_of (sc := defScope s_behind) (N := ["one", "other", "ahead"]) (cap := [none, some 2]) (N' := ["rank", "ahead"]) rfl rfl ⟨ rfl, by decide +kernel, by decide +kernel, by decide +kernel, rfl, by decide +kernel ⟩) ?q14 (fun _ _ _ _ => ?q15) (fun _ _ _ _ => ?q16) (fun _ _ _ _ => ?q17)
              case q14 =>
                refine' pi_listK (K := K) (by rfl) ?q18
                case q18 =>
                  refine' pe_callC (C_ranks T) (hr.mono (by decide)) rfl ?q19
                  case q19 =>
                    refine' pa_cons ?q20 ?q21
                    case q20 =>
                      refine' pe_callCE (C_checked_train T) (hr.mono (by decide)) rfl ?q22 (passE (fun _ _ _ z => z))
                      case q22 =>
                        refine' pa_cons ?q23 ?q24
                        case q23 => exact pv 1
                        case q24 => exact pa_nil
                    case q21 => exact pa_nil
              case q15 => exact pg_name (i := 0) (show List.Nodup (["rank", "ahead"] : List Str) from by decide +kernel) (by rfl) (by exact Or.inl rfl)
              case q16 => exact pif_nil
              case q17 =>
                refine' pe_op (op_addK (K := K) (by rfl)) ?q25 ?q26
                case q25 => exact pv 0
                case q26 =>
                  refine' pe_callB (callK_len (K := K) (by rfl)) (by rfl) T.n_len b_len ?q27
                  case q27 =>
                    refine' pa_cons ?q28 ?q29
                    case q28 => exact pv 1
                    case q29 => exact pa_nil
    rcases h with h | ⟨⟨a, ns, rfl, ha, hz, hn⟩, h, hT⟩
    · exact ⟨_, rfl, .inr ⟨x, rfl, h, k⟩⟩
    · exact ⟨_, rfl, .inl ⟨a, ns, rfl, ha, hz, hn, fun p H1 s1 f1 h1 => ⟨p, ns, rfl, h1, hz, hT.same s1, fun l H2 s2 => ⟨_, rfl, _, rfl, .inr ⟨y, rfl, h.same (s1.trans s2), fun H3 s3 => k H3 ((s1.trans s2).trans s3)⟩⟩⟩⟩⟩
def sp_run (K : PySem.W.Frag) (Z : Adr) : Sp := fun vs H _ E => ∃ x b c m, vs = [x, b, c, m] ∧ ((BadT K H x ∧ ∀ H', Same H H' → E (.ref Z.cBadTrain) none H') ∨
  (OkT H x ∧ b ≠ .bl true ∧ b ≠ .bl false ∧ ∀ H', Same H H' → E (.ref Z.cBadYard) none H') ∨ (OkT H x ∧ ∃ bb, b = .bl bb ∧
   (((BadC K H c ∨ ∃ n : Int, c = .int n ∧ 100000 < n) ∧ ∀ H', Same H H' → E (.ref Z.cBadYard) none H') ∨ ∃ n : Int, c = .int n ∧ 1 ≤ n ∧ n ≤ 100000 ∧ BadMs K H m n ∧ ∀ H', Same H H' → E (.ref Z.cBadMoves) none H')))
theorem sc_run : FnScope ["train", "blind", "many", "moves", "wagons", "is_blind", "count", "steps", "yard"] ["train", "blind", "many", "moves"] (defScope s_run) := ⟨rfl, rfl, rfl, by decide +kernel, rfl, by decide +kernel, by decide +kernel⟩
theorem C_run (T : Tx K mg Z) : Ctr P w K mg base (CXe P w) 5 "run" ["train", "blind", "many", "moves"] (sp_run K Z) := by
  refine ctr_of T.run fun f fd F => F.okE sc_run (fun vs H Q E h => ?_) (fun cdv A outer s H vs Q E hr h => ?_)
  · obtain ⟨x, b, c, m, rfl, _⟩ := h
    rfl
  · obtain ⟨x, b, c, m, rfl, h⟩ := h
    refine' ⟨_, ?hterm, ?_⟩
    case hterm =>
      refine' pss_cons ?q1 ?q2
      case q1 =>
        refine' ps_set (i := 4) sc_run.nd rfl (Or.inl rfl) ?q3
        case q3 =>
          refine' pe_callCE (C_checked_train T) (hr.mono (by decide)) rfl ?q4 (passE (fun _ _ _ z => z))
          case q4 =>
            refine' pa_cons ?q5 ?q6
            case q5 => exact pv 0
            case q6 => exact pa_nil
      case q2 =>
        refine' pss_cons ?q7 ?q8
        case q7 =>
          refine' ps_set (i := 5) sc_run.nd rfl (Or.inl rfl) ?q9
          case q9 =>
            refine' pe_callCE (C_checked_blind T) (hr.mono (by decide)) rfl ?q10 (passE (fun _ _ _ z => z))
            case q10 =>
              refine' pa_cons ?q11 ?q12
              case q11 => exact pv 1
              case q12 => exact pa_nil
        case q8 =>
          refine' pss_cons ?q13 ?q14
          case q13 =>
            refine' ps_set (i := 6) sc_run.nd rfl (Or.inl rfl) ?q15
            case q15 =>
              refine' pe_callCE (C_checked_many T) (hr.mono (by decide)) rfl ?q16 (passE (fun _ _ _ z => z))
              case q16 =>
                refine' pa_cons ?q17 ?q18
                case q17 => exact pv 2
                case q18 => exact pa_nil
          case q14 =>
            refine' pss_stop ?q19
            case q19 =>
              refine' ps_set (i := 7) sc_run.nd rfl (Or.inl rfl) ?q20
              case q20 =>
                refine' pe_callCE (C_checked_moves T) (hr.mono (by decide)) rfl ?q21 (passE (fun _ _ _ z => z))
                case q21 =>
                  refine' pa_cons ?q22 ?q23
                  case q22 => exact pv 3
                  case q23 =>
                    refine' pa_cons ?q24 ?q25
                    case q24 => exact pv 6
                    case q25 => exact pa_nil
    rcases h with ⟨h, k⟩ | ⟨⟨a, ns, rfl, ha, hz, hn⟩, h1, h2, k⟩ | ⟨⟨a, ns, rfl, ha, hz, hn⟩, bb, rfl, ⟨hc, k⟩ | ⟨n, rfl, h1, h2, hm, k⟩⟩
    · exact ⟨_, rfl, .inr ⟨x, rfl, h, k⟩⟩
    · exact ⟨_, rfl, .inl ⟨a, ns, rfl, ha, hz, hn, fun p H1 s1 f1 e1 => ⟨_, rfl, .inr ⟨b, rfl, h1, h2, k _ s1⟩⟩⟩⟩
    · refine ⟨_, rfl, .inl ⟨a, ns, rfl, ha, hz, hn, fun p H1 s1 f1 e1 => ⟨_, rfl, .inl ⟨bb, rfl, _, rfl, ?_⟩⟩⟩⟩
      rcases hc with hc | ⟨n, rfl, hn⟩
      · exact .inr (.inl ⟨c, rfl, hc.same s1, k _ s1⟩)
      · exact .inr (.inr ⟨n, rfl, hn, k _ s1⟩)
    · exact ⟨_, rfl, .inl ⟨a, ns, rfl, ha, hz, hn, fun p H1 s1 f1 e1 => ⟨_, rfl, .inl ⟨bb, rfl, _, rfl, .inl ⟨n, rfl, h1, h2, _, rfl, _, rfl, m, n, rfl, hm.same s1, fun H2 s2 => k H2 (s1.trans s2)⟩⟩⟩⟩⟩
end
end My.No
/-! The law's own: kinds, ask, due. -/
namespace My.No
open PySem L2
section
variable {P : Program} {w : World} {K : PySem.W.Frag} {mg : Str → Option Value} {base : Heap} {Z : Adr}
theorem b_ValueError : bootBuiltins ("ValueError" : Str) = some (.type "ValueError") := by decide +kernel
def clsK (Z : Adr) (k : Nat) : Addr := match k with | 0 => Z.cBadTrain | 1 => Z.cBadYard | _ => Z.cBadMoves
def kinds (k : Nat) : List Bool := [k == 0, k == 1, k == 2, false, false, true]
theorem kit_k (T : Tx K mg Z) {k : Nat} (hk : k < 3) : Xc.XC K (clsK Z k) ∧ PySem.W.kitOne K (.ref (clsK Z k)) (.ref Z.cBadTrain) = some (k == 0) ∧ PySem.W.kitOne K (.ref (clsK Z k)) (.ref Z.cBadYard) = some (k == 1) ∧ PySem.W.kitOne K (.ref (clsK Z k)) (.ref Z.cBadMoves) = some (k == 2) ∧
    PySem.W.kitOne K (.ref (clsK Z k)) (.ref Z.cStuck) = some false ∧ PySem.W.kitOne K (.ref (clsK Z k)) (.ref Z.cBadText) = some false ∧ PySem.W.kitOne K (.ref (clsK Z k)) (.type "ValueError") = some true ∧ PySem.W.mroIn K (clsK Z k) (.ref Z.cYardError) = some true := by
  match k, hk with
  | 0, _ => exact ⟨T.xc_BadTrain, kit_same, T.kit_BadTrain_BadYard, T.kit_BadTrain_BadMoves, T.kit_BadTrain_Stuck, T.kit_BadTrain_BadText, T.kv_BadTrain, T.mro_BadTrain_YardError⟩
  | 1, _ => exact ⟨T.xc_BadYard, T.kit_BadYard_BadTrain, kit_same, T.kit_BadYard_BadMoves, T.kit_BadYard_Stuck, T.kit_BadYard_BadText, T.kv_BadYard, T.mro_BadYard_YardError⟩
  | 2, _ => exact ⟨T.xc_BadMoves, T.kit_BadMoves_BadTrain, T.kit_BadMoves_BadYard, kit_same, T.kit_BadMoves_Stuck, T.kit_BadMoves_BadText, T.kv_BadMoves, T.mro_BadMoves_YardError⟩
theorem sz {n : Nat} (h : Nat.ble n 1000 = true) : n ≤ sizeLine := Nat.le_of_lt (small1000 (Nat.le_of_ble_eq_true h))
theorem fr {H : Hp} {a : Addr} (o : HO) (g : H a = none) : Same H (upd H a o) ∧ upd H a o a = some o := ⟨Same.upd g, upd_same⟩
theorem noD {H : Hp} : ∀ d : Addr, (none : Option Addr) = some d → ∃ u, H d = some u := fun _ z => by cases z
def sp_kinds (Z : Adr) : Sp := fun vs H Q _ => ∃ (ea : Addr) (k : Nat), vs = [.ref ea] ∧ k < 3 ∧ H ea = some (XH ea (clsK Z k) none) ∧ ∀ l H', Same H H' → H' l = some (.lst ((kinds k).map V.bl)) → Q (.ref l) H'
theorem sc__law_kinds : FnScope ["_law_error", "_law_found"] ["_law_error"] (defScope s__law_kinds) := ⟨rfl, rfl, rfl, by decide +kernel, rfl, by decide +kernel, by decide +kernel⟩
theorem Q__law_kinds (T : Tx K mg Z) : CtrQ P w K mg base "_law_kinds" ["_law_error"] (sp_kinds Z) := by
  refine ctrQ_of T._law_kinds sc__law_kinds (fun vs H Q E h => ?_) (fun f cdv A outer s H vs Q E h => ?_)
  · obtain ⟨ea, k, rfl, _⟩ := h
    rfl
  · obtain ⟨ea, k, rfl, hk, hx, kQ⟩ := h
    obtain ⟨xc, k0, k1, k2, k3, k4, k5, _⟩ := kit_k T hk
    refine' ⟨_, ?hterm, ?_⟩
    case hterm =>
      refine' pss_cons ?q1 ?q2
      case q1 =>
        refine' ps_set (i := 1) sc__law_kinds.nd rfl (Or.inl rfl) ?q3
        case q3 =>
          refine' pe_lst ?q4
          case q4 =>
            refine' pa_cons ?q5 ?q6
            case q5 =>
              refine' pe_callB (callX_isinstance (K := K) (by rfl)) (by rfl) T.n_isinstance b_isinstance ?q7
              case q7 =>
                refine' pa_cons ?q8 ?q9
                case q8 => exact pv 0
                case q9 =>
                  refine' pa_cons ?q10 ?q11
                  case q10 => exact pe_clsN (by rfl) T.c_BadTrain
                  case q11 => exact pa_nil
            case q6 =>
              refine' pa_cons ?q12 ?q13
              case q12 =>
                refine' pe_callB (callX_isinstance (K := K) (by rfl)) (by rfl) T.n_isinstance b_isinstance ?q14
                case q14 =>
                  refine' pa_cons ?q15 ?q16
                  case q15 => exact pv 0
                  case q16 =>
                    refine' pa_cons ?q17 ?q18
                    case q17 => exact pe_clsN (by rfl) T.c_BadYard
                    case q18 => exact pa_nil
              case q13 =>
                refine' pa_cons ?q19 ?q20
                case q19 =>
                  refine' pe_callB (callX_isinstance (K := K) (by rfl)) (by rfl) T.n_isinstance b_isinstance ?q21
                  case q21 =>
                    refine' pa_cons ?q22 ?q23
                    case q22 => exact pv 0
                    case q23 =>
                      refine' pa_cons ?q24 ?q25
                      case q24 => exact pe_clsN (by rfl) T.c_BadMoves
                      case q25 => exact pa_nil
                case q20 => exact pa_nil
      case q2 =>
        refine' pss_one ?q26
        case q26 =>
          refine' ps_ret ?q27
          case q27 =>
            refine' pe_op (op_addK (K := K) (by rfl)) ?q28 ?q29
            case q28 => exact pv 1
            case q29 =>
              refine' pe_lst ?q30
              case q30 =>
                refine' pa_cons ?q31 ?q32
                case q31 =>
                  refine' pe_callB (callX_isinstance (K := K) (by rfl)) (by rfl) T.n_isinstance b_isinstance ?q33
                  case q33 =>
                    refine' pa_cons ?q34 ?q35
                    case q34 => exact pv 0
                    case q35 =>
                      refine' pa_cons ?q36 ?q37
                      case q36 => exact pe_clsN (by rfl) T.c_Stuck
                      case q37 => exact pa_nil
                case q32 =>
                  refine' pa_cons ?q38 ?q39
                  case q38 =>
                    refine' pe_callB (callX_isinstance (K := K) (by rfl)) (by rfl) T.n_isinstance b_isinstance ?q40
                    case q40 =>
                      refine' pa_cons ?q41 ?q42
                      case q41 => exact pv 0
                      case q42 =>
                        refine' pa_cons ?q43 ?q44
                        case q43 => exact pe_clsN (by rfl) T.c_BadText
                        case q44 => exact pa_nil
                  case q39 =>
                    refine' pa_cons ?q45 ?q46
                    case q45 =>
                      refine' pe_callB (callX_isT (K := K) (by rfl)) (by rfl) T.n_isinstance b_isinstance ?q47
                      case q47 =>
                        refine' pa_cons ?q48 ?q49
                        case q48 => exact pv 0
                        case q49 =>
                          refine' pa_cons ?q50 ?q51
                          case q50 => exact pe_tyN rfl T.n_ValueError b_ValueError
                          case q51 => exact pa_nil
                    case q46 => exact pa_nil
    refine ⟨_, rfl, ea, _, _, none, _, rfl, hx, noD, xc, k0, ?_⟩
    refine ⟨_, rfl, ea, _, _, none, _, rfl, hx, noD, xc, k1, ?_⟩
    refine ⟨_, rfl, ea, _, _, none, _, rfl, hx, noD, xc, k2, ?_⟩
    refine ⟨sz rfl, fun l g1 => ?_⟩
    obtain ⟨s1, h1⟩ := fr (.lst [.bl (k == 0), .bl (k == 1), .bl (k == 2)]) g1
    have hx := s1 _ _ hx
    refine ⟨_, rfl, _, rfl, ea, _, _, none, _, rfl, hx, noD, xc, k3, ?_⟩
    refine ⟨_, rfl, ea, _, _, none, _, rfl, hx, noD, xc, k4, ?_⟩
    refine ⟨_, rfl, ea, _, _, none, _, rfl, hx, noD, xc, k5, ?_⟩
    refine ⟨sz rfl, fun m g2 => ?_⟩
    obtain ⟨s2, h2⟩ := fr (.lst [.bl false, .bl false, .bl true]) g2
    refine .inr (.inl ⟨l, m, _, _, rfl, rfl, s2 _ _ h1, h2, (by show 3 + 3 ≤ sizeLine; decide), fun r hr => ?_⟩)
    exact kQ r _ ((s1.trans s2).trans (Same.upd hr)) upd_same
/-- what is refused at a door, and by which class -/
def Due (K : PySem.W.Frag) (H : Hp) (d : Int) (x : V) (k : Nat) : Prop :=
  (k = 0 ∧ (d = 0 ∨ d = 1 ∨ d = 2 ∨ d = 4 ∨ d = 6 ∨ d = 8 ∨ d = 9 ∨ d = 10) ∧ BadT K H x) ∨ (k = 0 ∧ (d = 3 ∨ d = 14) ∧ BadO K H x) ∨ (k = 1 ∧ (d = 7 ∨ d = 11) ∧ BadC K H x) ∨
  (k = 1 ∧ d = 11 ∧ ∃ n : Int, x = .int n ∧ 100000 < n) ∨ (k = 1 ∧ d = 12 ∧ x ≠ .bl true ∧ x ≠ .bl false) ∨ (k = 2 ∧ d = 13 ∧ BadMs K H x 2)
theorem Due.lt {H : Hp} {d : Int} {x : V} {k : Nat} (h : Due K H d x k) : k < 3 := by
  rcases h with ⟨rfl, _⟩ | ⟨rfl, _⟩ | ⟨rfl, _⟩ | ⟨rfl, _⟩ | ⟨rfl, _⟩ | ⟨rfl, _⟩ <;> decide
theorem ctrF {x : Str} {k : Nat} {ps : List Str} {sp : Sp} (c : Ctr P w K mg base (CXe P w) k x ps sp) (h : k ≤ 6) : ∃ f, mg x = some (.ref f) ∧ CtrF P w K mg base (CXe P w) 6 f ps sp := by
  obtain ⟨f, fd, F, hm, hk, hb⟩ := c.ex
  exact ⟨f, hm, fd, F.mono h, hk, hb⟩
end
end My.No
/-! The law's own: the rules of ask. -/
namespace My.No
open PySem L2
section
variable {P : Program} {w : World} {K : PySem.W.Frag} {mg : Str → Option Value} {base : Heap} {Z : Adr}
theorem sc__law_ask : FnScope ["_law_door", "_law_thing"] ["_law_door", "_law_thing"] (defScope s__law_ask) := ⟨rfl, rfl, rfl, by decide +kernel, rfl, by decide +kernel, by decide +kernel⟩
noncomputable def tmA (T : Tx K mg Z) {f f1 f2 f3 f4 f5 : Addr} {cdv : Value} {A : Around} {outer : List Env} {s : Shared} {H : Hp} {E : XK} (hr : Room 6 (A.deeper (PyProof.Rows.envOfC "_law_ask" (defScope s__law_ask) s.heap.objs.size f cdv)))
    (mf_one_blind : mg "one_blind" = some (.ref f1)) (mf_two_blind : mg "two_blind" = some (.ref f2)) (mf_fewest : mg "fewest" = some (.ref f3)) (mf_arranged : mg "arranged" = some (.ref f4)) (mf_written : mg "written" = some (.ref f5)) :
    {t : TS // PSs (cxOf (CXe P w) P w K mg base ["_law_door", "_law_thing"] "_law_ask" (defScope s__law_ask) f cdv A outer s H E) (defBody s__law_ask) t} := by
    refine' ⟨_, ?hterm⟩
    case hterm =>
      refine' pss_cons ?q1 ?q2
      case q1 =>
        refine' ps_if ?q3 ?q4 ?q5
        case q3 =>
          refine' pt_cmpR op_lt ?q6 ?q7 (nomark _)
          case q6 => exact pv 0
          case q7 => exact pe_int
        case q4 =>
          refine' pss_one ?q8
          case q8 =>
            refine' ps_ret ?q9
            case q9 =>
              refine' pe_callSub (k := 6) (CX := CXe P w) (E := E) ?q10 (hr.mono (by decide)) ?q11 (passE (fun _ _ _ z => z))
              case q10 =>
                refine' pe_ix (ix_K (K := K) (by rfl)) ?q12 ?q13 (fun _ _ => rfl)
                case q12 =>
                  refine' pe_lst ?q14
                  case q14 =>
                    refine' pa_cons ?q15 ?q16
                    case q15 => exact pe_clsN (by rfl) mf_one_blind
                    case q16 =>
                      refine' pa_cons ?q17 ?q18
                      case q17 => exact pe_clsN (by rfl) mf_two_blind
                      case q18 =>
                        refine' pa_cons ?q19 ?q20
                        case q19 => exact pe_clsN (by rfl) mf_fewest
                        case q20 =>
                          refine' pa_cons ?q21 ?q22
                          case q21 => exact pe_clsN (by rfl) mf_arranged
                          case q22 =>
                            refine' pa_cons ?q23 ?q24
                            case q23 => exact pe_clsN (by rfl) mf_written
                            case q24 =>
                              refine' pa_cons ?q25 ?q26
                              case q25 => exact pe_clsN (by rfl) mf_one_blind
                              case q26 => exact pa_nil
                case q13 => exact pv 0
              case q11 =>
                refine' pa_cons ?q27 ?q28
                case q27 => exact pv 1
                case q28 => exact pa_nil
        case q5 => exact pss_nil
      case q2 =>
        refine' pss_cons ?q29 ?q30
        case q29 =>
          refine' ps_if ?q31 ?q32 ?q33
          case q31 =>
            refine' pt_cmpR op_lt ?q34 ?q35 (nomark _)
            case q34 => exact pv 0
            case q35 => exact pe_int
          case q32 =>
            refine' pss_one ?q36
            case q36 =>
              refine' ps_ret ?q37
              case q37 =>
                refine' pe_ifExp ?q38 ?q39 ?q40
                case q38 =>
                  refine' pt_cmpR (op_eqK (K := K) (by rfl) (by exact hr.units)) ?q41 ?q42 (nomark _)
                  case q41 => exact pv 0
                  case q42 => exact pe_int
                case q39 =>
                  refine' pe_callCE (C_through T) (hr.mono (by decide)) rfl ?q43 (passE (fun _ _ _ z => z))
                  case q43 =>
                    refine' pa_cons ?q44 ?q45
                    case q44 => exact pv 1
                    case q45 =>
                      refine' pa_cons ?q46 ?q47
                      case q46 => exact pe_non
                      case q47 => exact pa_nil
                case q40 =>
                  refine' pe_callCE (C_through T) (hr.mono (by decide)) rfl ?q48 (passE (fun _ _ _ z => z))
                  case q48 =>
                    refine' pa_cons ?q49 ?q50
                    case q49 =>
                      refine' pe_lst ?q51
                      case q51 =>
                        refine' pa_cons ?q52 ?q53
                        case q52 => exact pe_int
                        case q53 =>
                          refine' pa_cons ?q54 ?q55
                          case q54 => exact pe_int
                          case q55 => exact pa_nil
                    case q50 =>
                      refine' pa_cons ?q56 ?q57
                      case q56 => exact pv 1
                      case q57 => exact pa_nil
          case q33 => exact pss_nil
        case q30 =>
          refine' pss_cons ?q58 ?q59
          case q58 =>
            refine' ps_if ?q60 ?q61 ?q62
            case q60 =>
              refine' pt_cmpR op_lt ?q63 ?q64 (nomark _)
              case q63 => exact pv 0
              case q64 => exact pe_int
            case q61 =>
              refine' pss_one ?q65
              case q65 =>
                refine' ps_ret ?q66
                case q66 =>
                  refine' pe_ifExp ?q67 ?q68 ?q69
                  case q67 =>
                    refine' pt_cmpR (op_eqK (K := K) (by rfl) (by exact hr.units)) ?q70 ?q71 (nomark _)
                    case q70 => exact pv 0
                    case q71 => exact pe_int
                  case q68 =>
                    refine' pe_callCE (C_behind T) (hr.mono (by decide)) rfl ?q72 (passE (fun _ _ _ z => z))
                    case q72 =>
                      refine' pa_cons ?q73 ?q74
                      case q73 => exact pv 1
                      case q74 =>
                        refine' pa_cons ?q75 ?q76
                        case q75 =>
                          refine' pe_lst ?q77
                          case q77 =>
                            refine' pa_cons ?q78 ?q79
                            case q78 => exact pe_int
                            case q79 => exact pa_nil
                        case q76 => exact pa_nil
                  case q69 =>
                    refine' pe_callCE (C_behind T) (hr.mono (by decide)) rfl ?q80 (passE (fun _ _ _ z => z))
                    case q80 =>
                      refine' pa_cons ?q81 ?q82
                      case q81 =>
                        refine' pe_lst ?q83
                        case q83 =>
                          refine' pa_cons ?q84 ?q85
                          case q84 => exact pe_int
                          case q85 => exact pa_nil
                      case q82 =>
                        refine' pa_cons ?q86 ?q87
                        case q86 => exact pv 1
                        case q87 => exact pa_nil
            case q62 => exact pss_nil
          case q59 =>
            refine' pss_cons ?q88 ?q89
            case q88 =>
              refine' ps_if ?q90 ?q91 ?q92
              case q90 =>
                refine' pt_cmpR (op_eqK (K := K) (by rfl) (by exact hr.units)) ?q93 ?q94 (nomark _)
                case q93 => exact pv 0
                case q94 => exact pe_int
              case q91 =>
                refine' pss_one ?q95
                case q95 =>
                  refine' ps_ret ?q96
                  case q96 =>
                    refine' pe_callCE (C_run T) (hr.mono (by decide)) rfl ?q97 (passE (fun _ _ _ z => z))
                    case q97 =>
                      refine' pa_cons ?q98 ?q99
                      case q98 => exact pv 1
                      case q99 =>
                        refine' pa_cons ?q100 ?q101
                        case q100 => exact pe_non
                        case q101 =>
                          refine' pa_cons ?q102 ?q103
                          case q102 => exact pe_non
                          case q103 =>
                            refine' pa_cons ?q104 ?q105
                            case q104 => exact pe_non
                            case q105 => exact pa_nil
              case q92 => exact pss_nil
            case q89 =>
              refine' pss_cons ?q106 ?q107
              case q106 =>
                refine' ps_if ?q108 ?q109 ?q110
                case q108 =>
                  refine' pt_cmpR op_lt ?q111 ?q112 (nomark _)
                  case q111 => exact pv 0
                  case q112 => exact pe_int
                case q109 =>
                  refine' pss_one ?q113
                  case q113 =>
                    refine' ps_ret ?q114
                    case q114 =>
                      refine' pe_ifExp ?q115 ?q116 ?q117
                      case q115 =>
                        refine' pt_cmpR (op_eqK (K := K) (by rfl) (by exact hr.units)) ?q118 ?q119 (nomark _)
                        case q118 => exact pv 0
                        case q119 => exact pe_int
                      case q116 =>
                        refine' pe_callCE (C_run T) (hr.mono (by decide)) rfl ?q120 (passE (fun _ _ _ z => z))
                        case q120 =>
                          refine' pa_cons ?q121 ?q122
                          case q121 =>
                            refine' pe_lst ?q123
                            case q123 =>
                              refine' pa_cons ?q124 ?q125
                              case q124 => exact pe_int
                              case q125 =>
                                refine' pa_cons ?q126 ?q127
                                case q126 => exact pe_int
                                case q127 => exact pa_nil
                          case q122 =>
                            refine' pa_cons ?q128 ?q129
                            case q128 => exact pe_bl
                            case q129 =>
                              refine' pa_cons ?q130 ?q131
                              case q130 => exact pv 1
                              case q131 =>
                                refine' pa_cons ?q132 ?q133
                                case q132 => exact pe_non
                                case q133 => exact pa_nil
                      case q117 =>
                        refine' pe_callCE (C_run T) (hr.mono (by decide)) rfl ?q134 (passE (fun _ _ _ z => z))
                        case q134 =>
                          refine' pa_cons ?q135 ?q136
                          case q135 =>
                            refine' pe_lst ?q137
                            case q137 =>
                              refine' pa_cons ?q138 ?q139
                              case q138 => exact pe_int
                              case q139 => exact pa_nil
                          case q136 =>
                            refine' pa_cons ?q140 ?q141
                            case q140 => exact pv 1
                            case q141 =>
                              refine' pa_cons ?q142 ?q143
                              case q142 => exact pe_int
                              case q143 =>
                                refine' pa_cons ?q144 ?q145
                                case q144 =>
                                  refine' pe_lst ?q146
                                  case q146 => exact pa_nil
                                case q145 => exact pa_nil
                case q110 => exact pss_nil
              case q107 =>
                refine' pss_one ?q147
                case q147 =>
                  refine' ps_ret ?q148
                  case q148 =>
                    refine' pe_ifExp ?q149 ?q150 ?q151
                    case q149 =>
                      refine' pt_cmpR (op_eqK (K := K) (by rfl) (by exact hr.units)) ?q152 ?q153 (nomark _)
                      case q152 => exact pv 0
                      case q153 => exact pe_int
                    case q150 =>
                      refine' pe_callCE (C_run T) (hr.mono (by decide)) rfl ?q154 (passE (fun _ _ _ z => z))
                      case q154 =>
                        refine' pa_cons ?q155 ?q156
                        case q155 =>
                          refine' pe_lst ?q157
                          case q157 =>
                            refine' pa_cons ?q158 ?q159
                            case q158 => exact pe_int
                            case q159 =>
                              refine' pa_cons ?q160 ?q161
                              case q160 => exact pe_int
                              case q161 => exact pa_nil
                        case q156 =>
                          refine' pa_cons ?q162 ?q163
                          case q162 => exact pe_bl
                          case q163 =>
                            refine' pa_cons ?q164 ?q165
                            case q164 => exact pe_int
                            case q165 =>
                              refine' pa_cons ?q166 ?q167
                              case q166 => exact pv 1
                              case q167 => exact pa_nil
                    case q151 =>
                      refine' pe_callCE (C_arranged T) (hr.mono (by decide)) rfl ?q168 (passE (fun _ _ _ z => z))
                      case q168 =>
                        refine' pa_cons ?q169 ?q170
                        case q169 => exact pv 1
                        case q170 => exact pa_nil
end
end My.No
/-! The law's own: ask, due. -/
namespace My.No
open PySem L2
section
variable {P : Program} {w : World} {K : PySem.W.Frag} {mg : Str → Option Value} {base : Heap} {Z : Adr}
def sp_ask (K : PySem.W.Frag) (Z : Adr) : Sp := fun vs H _ E => ∃ (d : Int) (x : V) (k : Nat), vs = [.int d, x] ∧ Due K H d x k ∧ TabH Z H ∧ ∀ H', Same H H' → E (.ref (clsK Z k)) none H'
theorem okT2 {H : Hp} {a : Addr} (h : H a = some (.lst [.int 2, .int 1])) : OkT H (.ref a) := ⟨a, [2, 1], rfl, h, by decide, by decide⟩
theorem okT1 {H : Hp} {a : Addr} {n : Int} (h : H a = some (.lst [.int n])) : OkT H (.ref a) := ⟨a, [n], rfl, h, by show 1 < 64; decide, by simp⟩
theorem C__law_ask (T : Tx K mg Z) : Ctr P w K mg base (CXe P w) 7 "_law_ask" ["_law_door", "_law_thing"] (sp_ask K Z) := by
  refine ctr_of T._law_ask fun f fd F => F.okE sc__law_ask (fun vs H Q E h => ?_) (fun cdv A outer s H vs Q E hr h => ?_)
  · obtain ⟨d, x, k, rfl, _⟩ := h
    rfl
  · obtain ⟨d, x, k, rfl, hD, hTab, kE⟩ := h
    obtain ⟨f1, m1, v1⟩ := ctrF (P := P) (w := w) (base := base) (C_one_blind T) (by decide)
    obtain ⟨f2, m2, v2⟩ := ctrF (P := P) (w := w) (base := base) (C_two_blind T) (by decide)
    obtain ⟨f3, m3, v3⟩ := ctrF (P := P) (w := w) (base := base) (C_fewest T) (by decide)
    obtain ⟨f4, m4, v4⟩ := ctrF (P := P) (w := w) (base := base) (C_arranged T) (by decide)
    obtain ⟨f5, m5, v5⟩ := ctrF (P := P) (w := w) (base := base) (C_written T) (by decide)
    refine ⟨(tmA (P := P) (w := w) (base := base) (outer := outer) (E := E) (H := H) T hr m1 m2 m3 m4 m5).1, (tmA T hr m1 m2 m3 m4 m5).2, ?_⟩
    dsimp only [tmA]
    rcases hD with ⟨rfl, hd, hb⟩ | ⟨rfl, hd, hb⟩ | ⟨rfl, hd, hb⟩ | ⟨rfl, rfl, n, rfl, hn⟩ | ⟨rfl, rfl, hb1, hb2⟩ | ⟨rfl, rfl, hb⟩
    · rcases hd with rfl | rfl | rfl | rfl | rfl | rfl | rfl | rfl
      · refine ⟨_, rfl, _, _, rfl, rfl, _, rfl, iteT ?_⟩
        refine ⟨sz rfl, fun l g1 => ?_⟩
        obtain ⟨s1, h1⟩ := fr (.lst [.ref f1, .ref f2, .ref f3, .ref f4, .ref f5, .ref f1]) g1
        exact ⟨_, rfl, .inl ⟨l, _, _, _, rfl, rfl, SqL.of h1, rfl, f1, _, _, rfl, v1, _, rfl, x, rfl, hb.same s1, fun H2 s2 => kE H2 (s1.trans s2)⟩⟩
      · refine ⟨_, rfl, _, _, rfl, rfl, _, rfl, iteT ?_⟩
        refine ⟨sz rfl, fun l g1 => ?_⟩
        obtain ⟨s1, h1⟩ := fr (.lst [.ref f1, .ref f2, .ref f3, .ref f4, .ref f5, .ref f1]) g1
        exact ⟨_, rfl, .inl ⟨l, _, _, _, rfl, rfl, SqL.of h1, rfl, f2, _, _, rfl, v2, _, rfl, x, rfl, hb.same s1, fun H2 s2 => kE H2 (s1.trans s2)⟩⟩
      · refine ⟨_, rfl, _, _, rfl, rfl, _, rfl, iteT ?_⟩
        refine ⟨sz rfl, fun l g1 => ?_⟩
        obtain ⟨s1, h1⟩ := fr (.lst [.ref f1, .ref f2, .ref f3, .ref f4, .ref f5, .ref f1]) g1
        exact ⟨_, rfl, .inl ⟨l, _, _, _, rfl, rfl, SqL.of h1, rfl, f3, _, _, rfl, v3, _, rfl, x, rfl, hb.same s1, fun H2 s2 => kE H2 (s1.trans s2)⟩⟩
      · refine ⟨_, rfl, _, _, rfl, rfl, _, rfl, iteT ?_⟩
        refine ⟨sz rfl, fun l g1 => ?_⟩
        obtain ⟨s1, h1⟩ := fr (.lst [.ref f1, .ref f2, .ref f3, .ref f4, .ref f5, .ref f1]) g1
        exact ⟨_, rfl, .inl ⟨l, _, _, _, rfl, rfl, SqL.of h1, rfl, f5, _, _, rfl, v5, _, rfl, x, rfl, hb.same s1, fun H2 s2 => kE H2 (s1.trans s2)⟩⟩
      · refine ⟨_, rfl, _, _, rfl, rfl, _, rfl, iteF ?_⟩
        refine ⟨_, rfl, _, _, rfl, rfl, _, rfl, iteT ?_⟩
        refine ⟨_, rfl, .inl ⟨rfl, _, rfl, iteDT rfl ?_⟩⟩
        exact ⟨_, rfl, x, _, rfl, .inl ⟨hb, kE⟩⟩
      · refine ⟨_, rfl, _, _, rfl, rfl, _, rfl, iteF ?_⟩
        refine ⟨_, rfl, _, _, rfl, rfl, _, rfl, iteF ?_⟩
        refine ⟨_, rfl, _, _, rfl, rfl, _, rfl, iteT ?_⟩
        refine ⟨_, rfl, .inl ⟨rfl, _, rfl, iteDT rfl ?_⟩⟩
        refine ⟨_, rfl, ⟨sz rfl, fun l g1 => ?_⟩⟩
        obtain ⟨s1, h1⟩ := fr (.lst [.int 1]) g1
        exact ⟨x, _, rfl, .inl (hb.same s1), fun H2 s2 => kE H2 (s1.trans s2)⟩
      · refine ⟨_, rfl, _, _, rfl, rfl, _, rfl, iteF ?_⟩
        refine ⟨_, rfl, _, _, rfl, rfl, _, rfl, iteF ?_⟩
        refine ⟨_, rfl, _, _, rfl, rfl, _, rfl, iteT ?_⟩
        refine ⟨_, rfl, .inl ⟨rfl, _, rfl, iteDF (fun z => absurd (V.int.inj z) (by decide)) ?_⟩⟩
        refine ⟨sz rfl, fun l g1 => ?_⟩
        obtain ⟨s1, h1⟩ := fr (.lst [.int 1]) g1
        exact ⟨_, rfl, _, x, rfl, .inr ⟨okT1 h1, hb.same s1, hTab.same s1⟩, fun H2 s2 => kE H2 (s1.trans s2)⟩
      · refine ⟨_, rfl, _, _, rfl, rfl, _, rfl, iteF ?_⟩
        refine ⟨_, rfl, _, _, rfl, rfl, _, rfl, iteF ?_⟩
        refine ⟨_, rfl, _, _, rfl, rfl, _, rfl, iteF ?_⟩
        refine ⟨_, rfl, .inl ⟨rfl, _, rfl, iteDT rfl ?_⟩⟩
        exact ⟨_, rfl, x, _, _, _, rfl, .inl ⟨hb, kE⟩⟩
    · rcases hd with rfl | rfl
      · refine ⟨_, rfl, _, _, rfl, rfl, _, rfl, iteT ?_⟩
        refine ⟨sz rfl, fun l g1 => ?_⟩
        obtain ⟨s1, h1⟩ := fr (.lst [.ref f1, .ref f2, .ref f3, .ref f4, .ref f5, .ref f1]) g1
        exact ⟨_, rfl, .inl ⟨l, _, _, _, rfl, rfl, SqL.of h1, rfl, f4, _, _, rfl, v4, _, rfl, x, rfl, hb.same s1, fun H2 s2 => kE H2 (s1.trans s2)⟩⟩
      · refine ⟨_, rfl, _, _, rfl, rfl, _, rfl, iteF ?_⟩
        refine ⟨_, rfl, _, _, rfl, rfl, _, rfl, iteF ?_⟩
        refine ⟨_, rfl, _, _, rfl, rfl, _, rfl, iteF ?_⟩
        refine ⟨_, rfl, .inl ⟨rfl, _, rfl, iteDF (fun z => absurd (V.int.inj z) (by decide)) ?_⟩⟩
        refine ⟨_, rfl, _, _, rfl, rfl, _, rfl, iteF ?_⟩
        refine ⟨_, rfl, .inl ⟨rfl, _, rfl, iteDF (fun z => absurd (V.int.inj z) (by decide)) ?_⟩⟩
        exact ⟨_, rfl, x, rfl, hb, kE⟩
    · rcases hd with rfl | rfl
      · refine ⟨_, rfl, _, _, rfl, rfl, _, rfl, iteF ?_⟩
        refine ⟨_, rfl, _, _, rfl, rfl, _, rfl, iteT ?_⟩
        refine ⟨_, rfl, .inl ⟨rfl, _, rfl, iteDF (fun z => absurd (V.int.inj z) (by decide)) ?_⟩⟩
        refine ⟨sz rfl, fun l g1 => ?_⟩
        obtain ⟨s1, h1⟩ := fr (.lst [.int 2, .int 1]) g1
        exact ⟨_, rfl, _, x, rfl, .inr ⟨okT2 h1, hb.same s1, fun H2 s2 => kE H2 (s1.trans s2)⟩⟩
      · refine ⟨_, rfl, _, _, rfl, rfl, _, rfl, iteF ?_⟩
        refine ⟨_, rfl, _, _, rfl, rfl, _, rfl, iteF ?_⟩
        refine ⟨_, rfl, _, _, rfl, rfl, _, rfl, iteF ?_⟩
        refine ⟨_, rfl, .inl ⟨rfl, _, rfl, iteDF (fun z => absurd (V.int.inj z) (by decide)) ?_⟩⟩
        refine ⟨_, rfl, _, _, rfl, rfl, _, rfl, iteT ?_⟩
        refine ⟨_, rfl, .inl ⟨rfl, _, rfl, iteDT rfl ?_⟩⟩
        refine ⟨sz rfl, fun l g1 => ?_⟩
        obtain ⟨s1, h1⟩ := fr (.lst [.int 2, .int 1]) g1
        exact ⟨_, rfl, _, _, x, _, rfl, .inr (.inr ⟨okT2 h1, true, rfl, .inl ⟨.inl (hb.same s1), fun H2 s2 => kE H2 (s1.trans s2)⟩⟩)⟩
    · refine ⟨_, rfl, _, _, rfl, rfl, _, rfl, iteF ?_⟩
      refine ⟨_, rfl, _, _, rfl, rfl, _, rfl, iteF ?_⟩
      refine ⟨_, rfl, _, _, rfl, rfl, _, rfl, iteF ?_⟩
      refine ⟨_, rfl, .inl ⟨rfl, _, rfl, iteDF (fun z => absurd (V.int.inj z) (by decide)) ?_⟩⟩
      refine ⟨_, rfl, _, _, rfl, rfl, _, rfl, iteT ?_⟩
      refine ⟨_, rfl, .inl ⟨rfl, _, rfl, iteDT rfl ?_⟩⟩
      refine ⟨sz rfl, fun l g1 => ?_⟩
      obtain ⟨s1, h1⟩ := fr (.lst [.int 2, .int 1]) g1
      exact ⟨_, rfl, _, _, _, _, rfl, .inr (.inr ⟨okT2 h1, true, rfl, .inl ⟨.inr ⟨n, rfl, hn⟩, fun H2 s2 => kE H2 (s1.trans s2)⟩⟩)⟩
    · refine ⟨_, rfl, _, _, rfl, rfl, _, rfl, iteF ?_⟩
      refine ⟨_, rfl, _, _, rfl, rfl, _, rfl, iteF ?_⟩
      refine ⟨_, rfl, _, _, rfl, rfl, _, rfl, iteF ?_⟩
      refine ⟨_, rfl, .inl ⟨rfl, _, rfl, iteDF (fun z => absurd (V.int.inj z) (by decide)) ?_⟩⟩
      refine ⟨_, rfl, _, _, rfl, rfl, _, rfl, iteT ?_⟩
      refine ⟨_, rfl, .inl ⟨rfl, _, rfl, iteDF (fun z => absurd (V.int.inj z) (by decide)) ?_⟩⟩
      refine ⟨sz rfl, fun l g1 => ?_⟩
      obtain ⟨s1, h1⟩ := fr (.lst [.int 2]) g1
      refine ⟨_, rfl, ⟨sz rfl, fun m g2 => ?_⟩⟩
      obtain ⟨s2, h2⟩ := fr (.lst []) g2
      exact ⟨_, _, _, _, rfl, .inr (.inl ⟨okT1 (s2 _ _ h1), hb1, hb2, fun H3 s3 => kE H3 ((s1.trans s2).trans s3)⟩)⟩
    · refine ⟨_, rfl, _, _, rfl, rfl, _, rfl, iteF ?_⟩
      refine ⟨_, rfl, _, _, rfl, rfl, _, rfl, iteF ?_⟩
      refine ⟨_, rfl, _, _, rfl, rfl, _, rfl, iteF ?_⟩
      refine ⟨_, rfl, .inl ⟨rfl, _, rfl, iteDF (fun z => absurd (V.int.inj z) (by decide)) ?_⟩⟩
      refine ⟨_, rfl, _, _, rfl, rfl, _, rfl, iteF ?_⟩
      refine ⟨_, rfl, .inl ⟨rfl, _, rfl, iteDT rfl ?_⟩⟩
      refine ⟨sz rfl, fun l g1 => ?_⟩
      obtain ⟨s1, h1⟩ := fr (.lst [.int 2, .int 1]) g1
      exact ⟨_, rfl, _, _, _, _, rfl, .inr (.inr ⟨okT2 h1, false, rfl, .inr ⟨2, rfl, by decide, by decide, hb.same s1, fun H2 s2 => kE H2 (s1.trans s2)⟩⟩)⟩
def sp_due (K : PySem.W.Frag) (Z : Adr) : Sp := fun vs H Q _ => ∃ (d : Int) (x : V) (k : Nat), vs = [.int d, x, .int (k : Int)] ∧ Due K H d x k ∧ TabH Z H ∧ ∀ H', Same H H' → Q (.bl true) H'
theorem sc__law_due : FnScope ["_law_door", "_law_thing", "_law_due_here", "_law_error"] ["_law_door", "_law_thing", "_law_due_here"] (defScope s__law_due) := ⟨rfl, rfl, rfl, by decide +kernel, rfl, by decide +kernel, by decide +kernel⟩
theorem C__law_due (T : Tx K mg Z) : Ctr P w K mg base CX0 8 "_law_due" ["_law_door", "_law_thing", "_law_due_here"] (sp_due K Z) := by
  refine ctr_of T._law_due fun f fd F => F.ok sc__law_due (fun vs H Q E h => ?_) (fun cdv A outer s H vs Q E hr h => ?_)
  · obtain ⟨d, x, k, rfl, _⟩ := h
    rfl
  · obtain ⟨d, x, k, rfl, hD, hTab, kQ⟩ := h
    have hk := hD.lt
    refine' ⟨_, ?hterm, ?_⟩
    case hterm =>
      refine' pss_cons ?q1 ?q2
      case q1 =>
        refine' ps_try (K := K) (i := 3) (by rfl) rfl rfl ?q3 rfl T.c_YardError T.xc_YardError T.xty_YardError sc__law_due.nd rfl rfl (fun ea => ?q4)
        case q3 =>
          refine' psx_expr ?q5
          case q5 =>
            refine' px_call (C__law_ask T) (hr.mono (by decide)) rfl ?q6
            case q6 =>
              refine' pa_cons ?q7 ?q8
              case q7 => exact pv 0
              case q8 =>
                refine' pa_cons ?q9 ?q10
                case q9 => exact pv 1
                case q10 => exact pa_nil
        case q4 =>
          refine' pss_one ?q11
          case q11 =>
            refine' ps_ret ?q12
            case q12 =>
              refine' pe_cmpR (op_eqBs (K := K) (by rfl) (by exact hr.units)) ?q13 ?q14 (nomark _)
              case q13 =>
                refine' pe_callQ (Q__law_kinds T) hr.depth rfl ?q15
                case q15 =>
                  refine' pa_cons ?q16 ?q17
                  case q16 => exact pv 3
                  case q17 => exact pa_nil
              case q14 =>
                refine' pe_op (op_addK (K := K) (by rfl)) ?q18 ?q19
                case q18 =>
                  refine' pe_compA (csc_of (sc := defScope s__law_due) (N := ["_law_door", "_law_thing", "_law_due_here", "_law_error"]) (cap := [none, some 2]) (N' := ["_law_k", "_law_due_here"]) rfl rfl ⟨ rfl, by decide +kernel, by decide +kernel, by decide +kernel, rfl, by decide +kernel ⟩) ?q20 (fun _ _ _ _ => ?q21) (fun _ _ _ _ => ?q22) (fun _ _ _ _ => ?q23)
                  case q20 =>
                    refine' pi_rangeH (ea := ea) rfl rfl T.n_range ?q24
                    case q24 =>
                      refine' pa_cons ?q25 ?q26
                      case q25 => exact pe_int
                      case q26 => exact pa_nil
                  case q21 => exact pg_name (i := 0) (show List.Nodup (["_law_k", "_law_due_here"] : List Str) from by decide +kernel) (by rfl) (by exact Or.inl rfl)
                  case q22 => exact pif_nil
                  case q23 =>
                    refine' pe_cmpR (op_eqK (K := K) (by rfl) (by exact hr.units)) ?q27 ?q28 (nomark _)
                    case q27 => exact pv 0
                    case q28 => exact pv 1
                case q19 =>
                  refine' pe_lst ?q29
                  case q29 =>
                    refine' pa_cons ?q30 ?q31
                    case q30 => exact pe_bl
                    case q31 => exact pa_nil
      case q2 =>
        refine' pss_one ?q32
        case q32 =>
          refine' ps_ret ?q33
          case q33 => exact pe_bl
    refine ⟨_, rfl, _, rfl, d, x, k, rfl, hD, hTab, fun H1 s1 => ?_⟩
    refine ⟨clsK Z k, rfl, noD, (kit_k T hk).2.2.2.2.2.2.2, fun ea hea => ?_⟩
    have s2 := Same.upd (o := XH ea (clsK Z k) none) hea
    refine ⟨_, rfl, ea, k, rfl, hk, upd_same, fun l H3 s3 h3 => ?_⟩
    have hx3 := s3 _ _ (upd_same (H := H1) (a := ea) (o := XH ea (clsK Z k) none))
    refine ⟨5, rfl, by decide, by decide, fun p hp => ?_⟩
    refine turns_rangeH (ea := ea) (lo := 0) (n := 5) (fun i σ H4 => (∃ v, σ = [v, some (.int (k : Int))]) ∧ Same H3 H4 ∧ H4 p = some (.lst (((List.range i).map fun (j : Nat) => decide ((j : Int) = (k : Int))).map V.bl)))
      ⟨⟨_, rfl⟩, Same.upd hp, upd_same⟩ ?_ (fun σ H4 h => ⟨_, _, h.2.1 _ _ hx3⟩) ?_
    · rintro i σ H4 hi ⟨⟨v, rfl⟩, s4, h4⟩
      refine ⟨_, rfl, _, rfl, .inl ⟨rfl, ?_⟩⟩
      refine ⟨_, h4, ?_, ⟨_, rfl⟩, Same.updN s4 hp, ?_⟩
      · rw [List.length_map, List.length_map, List.length_range]
        exact small1000 (by omega)
      · rw [upd_same, List.range_succ, List.map_append, List.map_append, decV, Int.zero_add]
        rfl
    rintro σ H4 ⟨_, s4, h4⟩
    refine ⟨sz rfl, fun t g5 => ?_⟩
    obtain ⟨s5, h5⟩ := fr (.lst [.bl true]) g5
    refine .inr (.inl ⟨p, t, _, _, rfl, rfl, s5 _ _ h4, h5, (by show 5 + 1 ≤ sizeLine; decide), fun r hr => ?_⟩)
    have s6 := s5.trans (Same.upd (o := .lst ((((List.range 5).map fun (j : Nat) => decide ((j : Int) = (k : Int))) ++ [true]).map V.bl)) hr)
    refine ⟨l, r, kinds k, ((List.range 5).map fun (j : Nat) => decide ((j : Int) = (k : Int))) ++ [true], rfl, rfl, SqL.of ((s4.trans s6) _ _ h3), SqL.of upd_same, ?_, ?_, ?_⟩
    · match k, hk with
      | 0, _ => rfl
      | 1, _ => rfl
      | 2, _ => rfl
    · match k, hk with
      | 0, _ => rfl
      | 1, _ => rfl
      | 2, _ => rfl
    have e : decide (kinds k = ((List.range 5).map fun (j : Nat) => decide ((j : Int) = (k : Int))) ++ [true]) = true := by
      match k, hk with
      | 0, _ => decide
      | 1, _ => decide
      | 2, _ => decide
    rw [e]
    exact kQ _ ((s1.trans s2).trans (s3.trans (s4.trans s6)))
end
end My.No
/-! The law's own: things that are no trains, counts, ways, orders. -/
namespace My.No
open PySem L2
section
variable {P : Program} {w : World} {K : PySem.W.Frag} {mg : Str → Option Value} {base : Heap} {Z : Adr}
theorem al0 {Pr : V → Prop} : ∀ x ∈ ([] : List V), Pr x := fun x h => by cases h
theorem al1 {Pr : V → Prop} {a : V} {l : List V} (h : Pr a) (t : ∀ x ∈ l, Pr x) : ∀ x ∈ a :: l, Pr x := fun x hx => by
  cases hx with
  | head => exact h
  | tail _ hx => exact t x hx
section
variable {H : Hp} {x : V} {a : Addr} {bi bb bl bt bs : Bool}
theorem nn (h : Kd K H x bi bb bl bt bs) (hb : (bi && !bb) = false := by rfl) : NoNum K H x := ⟨bi, bb, bl, bt, bs, h, hb⟩
theorem bt_kd (h : Kd K H x bi bb false bt bs) : BadT K H x := .inl ⟨bi, bb, bt, bs, h⟩
theorem bt_item (pre : List Int) (y : V) (post : List V) (e : H a = some (.lst (pre.map V.int ++ y :: post))) (hn : NoNum K H y) (hl : Nat.ble (pre.length + post.length) 900 = true := by rfl) : BadT K H (.ref a) := .inr (.inl ⟨a, pre, y, post, rfl, e, Nat.le_of_ble_eq_true hl, hn⟩)
theorem bt_dup (ns : List Int) (e : H a = some (.lst (ns.map V.int))) (hn : ¬ ns.Nodup) (hl : Nat.ble ns.length 63 = true := by rfl) : BadT K H (.ref a) := .inr (.inr ⟨a, ns, rfl, e, Nat.lt_succ_of_le (Nat.le_of_ble_eq_true hl), hn⟩)
theorem bo (ns : List Int) (n : Int) (e : H a = some (.lst (ns.map V.int))) (hm : n ∈ ns) (hb : n < 0 ∨ (ns.length : Int) ≤ n) (hn : ns.Nodup) (hl : Nat.ble ns.length 63 = true := by rfl) : BadO K H (.ref a) := by
  refine .inr ⟨a, ns, rfl, e, Nat.lt_succ_of_le (Nat.le_of_ble_eq_true hl), hn, fun p => ?_⟩
  have := Yd.R_mem (p.mem_iff.mp hm)
  omega
end
theorem Due.same {H H' : Hp} {d : Int} {x : V} {k : Nat} (s : Same H H') (h : Due K H d x k) : Due K H' d x k := by
  rcases h with ⟨h1, h2, h⟩ | ⟨h1, h2, h⟩ | ⟨h1, h2, h⟩ | h | h | ⟨h1, h2, h⟩
  · exact .inl ⟨h1, h2, h.same s⟩
  · exact .inr (.inl ⟨h1, h2, h.same s⟩)
  · exact .inr (.inr (.inl ⟨h1, h2, h.same s⟩))
  · exact .inr (.inr (.inr (.inl h)))
  · exact .inr (.inr (.inr (.inr (.inl h))))
  · exact .inr (.inr (.inr (.inr (.inr ⟨h1, h2, h.same s⟩))))
def sp_things (K : PySem.W.Frag) (ds : List Int) (k : Nat) : Sp := fun vs H Q _ => ∃ c : Int, vs = [.int c] ∧ ∀ (l : Addr) (H' : Hp) (xs : List V), Same H H' → H' l = some (.lst xs) → 0 < xs.length → xs.length ≤ 100 → (∀ x ∈ xs, ∀ d ∈ ds, Due K H' d x k) → Q (.ref l) H'
abbrev ds0 : List Int := [0, 1, 2, 3, 4, 6, 8, 9, 10]
theorem due_t {H : Hp} {x : V} (h : BadT K H x) : ∀ d ∈ ds0, Due K H d x 0 := by
  intro d hd
  by_cases e : d = 3
  · exact .inr (.inl ⟨rfl, .inl e, .inl h⟩)
  · refine .inl ⟨rfl, ?_, h⟩
    simp only [ds0, List.mem_cons, List.not_mem_nil, or_false] at hd
    omega
theorem due_c {H : Hp} {x : V} (h : BadC K H x) : ∀ d ∈ [(7 : Int), 11], Due K H d x 1 := by
  intro d hd
  refine .inr (.inr (.inl ⟨rfl, ?_, h⟩))
  simp only [List.mem_cons, List.not_mem_nil, or_false] at hd
  exact hd
theorem due_b {H : Hp} {x : V} (h1 : x ≠ .bl true) (h2 : x ≠ .bl false) : ∀ d ∈ [(12 : Int)], Due K H d x 1 := by
  intro d hd
  exact .inr (.inr (.inr (.inr (.inl ⟨rfl, List.mem_singleton.mp hd, h1, h2⟩))))
theorem due_o {H : Hp} {x : V} (h : BadO K H x) : ∀ d ∈ [(14 : Int)], Due K H d x 0 := by
  intro d hd
  exact .inr (.inl ⟨rfl, .inr (List.mem_singleton.mp hd), h⟩)
theorem sc__law_trains : FnScope ["_law_cell", "_law_some"] ["_law_cell"] (defScope s__law_trains) := ⟨rfl, rfl, rfl, by decide +kernel, rfl, by decide +kernel, by decide +kernel⟩
theorem C__law_trains (T : Tx K mg Z) : Ctr P w K mg base CX0 1 "_law_trains" ["_law_cell"] (sp_things K ds0 0) := by
  refine ctr_of T._law_trains fun f fd F => F.ok sc__law_trains (fun vs H Q E h => ?_) (fun cdv A outer s H vs Q E hr h => ?_)
  · obtain ⟨c, rfl, _⟩ := h
    rfl
  · obtain ⟨c, rfl, kQ⟩ := h
    refine' ⟨_, ?hterm, ?_⟩
    case hterm =>
      refine' pss_cons ?q1 ?q2
      case q1 =>
        refine' ps_set (i := 1) ?zA ?zB ?zC ?q3 ?zD ?zE
        case zA => exact sc__law_trains.nd
        case zB => rfl
        case zC => exact (Or.inl rfl)
        case zD => rfl
        case zE => exact .inr rfl
        case q3 =>
          refine' pe_lst ?q4
          case q4 =>
            refine' pa_cons ?q5 ?q6
            case q5 => exact pe_non
            case q6 =>
              refine' pa_cons ?q7 ?q8
              case q7 => exact pv 0
              case q8 =>
                refine' pa_cons ?q9 ?q10
                case q9 => exact pe_str
                case q10 =>
                  refine' pa_cons ?q11 ?q12
                  case q11 =>
                    refine' pe_tup ?q13
                    case q13 =>
                      refine' pa_cons ?q14 ?q15
                      case q14 => exact pe_int
                      case q15 =>
                        refine' pa_cons ?q16 ?q17
                        case q16 => exact pe_int
                        case q17 => exact pa_nil
                  case q12 =>
                    refine' pa_cons ?q18 ?q19
                    case q18 =>
                      refine' pe_lst ?q20
                      case q20 =>
                        refine' pa_cons ?q21 ?q22
                        case q21 => exact pe_int
                        case q22 =>
                          refine' pa_cons ?q23 ?q24
                          case q23 => exact pe_str
                          case q24 => exact pa_nil
                    case q19 =>
                      refine' pa_cons ?q25 ?q26
                      case q25 =>
                        refine' pe_lst ?q27
                        case q27 =>
                          refine' pa_cons ?q28 ?q29
                          case q28 => exact pe_non
                          case q29 => exact pa_nil
                      case q26 =>
                        refine' pa_cons ?q30 ?q31
                        case q30 =>
                          refine' pe_lst ?q32
                          case q32 =>
                            refine' pa_cons ?q33 ?q34
                            case q33 => exact pe_bl
                            case q34 => exact pa_nil
                        case q31 =>
                          refine' pa_cons ?q35 ?q36
                          case q35 =>
                            refine' pe_lst ?q37
                            case q37 =>
                              refine' pa_cons ?q38 ?q39
                              case q38 => exact pe_int
                              case q39 =>
                                refine' pa_cons ?q40 ?q41
                                case q40 => exact pe_int
                                case q41 =>
                                  refine' pa_cons ?q42 ?q43
                                  case q42 => exact pe_int
                                  case q43 => exact pa_nil
                          case q36 =>
                            refine' pa_cons ?q44 ?q45
                            case q44 =>
                              refine' pe_lst ?q46
                              case q46 =>
                                refine' pa_cons ?q47 ?q48
                                case q47 => exact pv 0
                                case q48 =>
                                  refine' pa_cons ?q49 ?q50
                                  case q49 => exact pv 0
                                  case q50 => exact pa_nil
                            case q45 =>
                              refine' pa_cons ?q51 ?q52
                              case q51 =>
                                refine' pe_lst ?q53
                                case q53 =>
                                  refine' pa_cons ?q54 ?q55
                                  case q54 => exact pe_int
                                  case q55 =>
                                    refine' pa_cons ?q56 ?q57
                                    case q56 => exact pe_bl
                                    case q57 => exact pa_nil
                              case q52 =>
                                refine' pa_cons ?q58 ?q59
                                case q58 => exact pe_dnewK
                                case q59 =>
                                  refine' pa_cons ?q60 ?q61
                                  case q60 =>
                                    refine' pe_lst ?q62
                                    case q62 =>
                                      refine' pa_cons ?q63 ?q64
                                      case q63 =>
                                        refine' pe_lst ?q65
                                        case q65 =>
                                          refine' pa_cons ?q66 ?q67
                                          case q66 => exact pe_int
                                          case q67 => exact pa_nil
                                      case q64 => exact pa_nil
                                  case q61 => exact pa_nil
      case q2 =>
        refine' pss_one ?q68
        case q68 =>
          refine' ps_ret ?q69
          case q69 =>
            refine' pe_op (op_addK (K := K) (by rfl)) ?q70 ?q71
            case q70 => exact pv 1
            case q71 =>
              refine' pe_lst ?q72
              case q72 =>
                refine' pa_cons ?q73 ?q74
                case q73 =>
                  refine' pe_lst ?q75
                  case q75 =>
                    refine' pa_cons ?q76 ?q77
                    case q76 => exact pv 0
                    case q77 =>
                      refine' pa_cons ?q78 ?q79
                      case q78 => exact pe_int
                      case q79 =>
                        refine' pa_cons ?q80 ?q81
                        case q80 => exact pv 0
                        case q81 => exact pa_nil
                case q74 =>
                  refine' pa_cons ?q82 ?q83
                  case q82 =>
                    refine' pe_lst ?q84
                    case q84 =>
                      refine' pa_cons ?q85 ?q86
                      case q85 => exact pv 0
                      case q86 =>
                        refine' pa_cons ?q87 ?q88
                        case q87 => exact pe_non
                        case q88 => exact pa_nil
                  case q83 => exact pa_nil
    refine ⟨_, rfl, ⟨sz rfl, fun a1 g1 => ?_⟩⟩
    obtain ⟨s1, e1⟩ := fr (.tup [.int 1, .int 2]) g1
    refine ⟨sz rfl, fun a2 g2 => ?_⟩
    obtain ⟨s2, e2⟩ := fr (.lst [.int 1, .str "2"]) g2
    refine ⟨sz rfl, fun a3 g3 => ?_⟩
    obtain ⟨s3, e3⟩ := fr (.lst [.non]) g3
    refine ⟨sz rfl, fun a4 g4 => ?_⟩
    obtain ⟨s4, e4⟩ := fr (.lst [.bl true]) g4
    refine ⟨sz rfl, fun a5 g5 => ?_⟩
    obtain ⟨s5, e5⟩ := fr (.lst [.int 1, .int 2, .int 1]) g5
    refine ⟨_, rfl, _, rfl, ⟨sz rfl, fun a6 g6 => ?_⟩⟩
    obtain ⟨s6, e6⟩ := fr (.lst [.int c, .int c]) g6
    refine ⟨sz rfl, fun a7 g7 => ?_⟩
    obtain ⟨s7, e7⟩ := fr (.lst [.int 0, .bl true]) g7
    refine fun a8 g8 => ?_
    obtain ⟨s8, e8⟩ := fr (.dK []) g8
    refine ⟨sz rfl, fun a9 g9 => ?_⟩
    obtain ⟨s9, e9⟩ := fr (.lst [.int 1]) g9
    refine ⟨sz rfl, fun a10 g10 => ?_⟩
    obtain ⟨s10, e10⟩ := fr (.lst [.ref a9]) g10
    refine ⟨sz rfl, fun a11 g11 => ?_⟩
    obtain ⟨s11, e11⟩ := fr (.lst [.non, .int c, .str "12", .ref a1, .ref a2, .ref a3, .ref a4, .ref a5, .ref a6, .ref a7, .ref a8, .ref a10]) g11
    refine ⟨_, rfl, _, rfl, _, rfl, ⟨sz rfl, fun a12 g12 => ?_⟩⟩
    obtain ⟨s12, e12⟩ := fr (.lst [.int c, .int 0, .int c]) g12
    refine ⟨_, rfl, ⟨sz rfl, fun a13 g13 => ?_⟩⟩
    obtain ⟨s13, e13⟩ := fr (.lst [.int c, .non]) g13
    refine ⟨sz rfl, fun a14 g14 => ?_⟩
    obtain ⟨s14, e14⟩ := fr (.lst [.ref a12, .ref a13]) g14
    refine .inr (.inl ⟨a11, a14, _, _, rfl, rfl, (s12.trans (s13.trans s14)) _ _ e11, e14, (by show 12 + 2 ≤ sizeLine; decide), fun r hr => ?_⟩)
    have t14 := Same.upd (o := .lst ([.non, .int c, .str "12", .ref a1, .ref a2, .ref a3, .ref a4, .ref a5, .ref a6, .ref a7, .ref a8, .ref a10] ++ [.ref a12, .ref a13])) hr
    have t13 := s14.trans t14
    have t12 := s13.trans t13
    have t11 := s12.trans t12
    have t10 := s11.trans t11
    have t9 := s10.trans t10
    have t8 := s9.trans t9
    have t7 := s8.trans t8
    have t6 := s7.trans t7
    have t5 := s6.trans t6
    have t4 := s5.trans t5
    have t3 := s4.trans t4
    have t2 := s3.trans t3
    have t1 := s2.trans t2
    refine kQ r _ _ (s1.trans t1) upd_same (by show 0 < 14; decide) (by show 14 ≤ 100; decide) ?_
    refine al1 (due_t (bt_kd kd_non)) (al1 (due_t (bt_kd (kd_int _))) (al1 (due_t (bt_kd (kd_str _))) (al1 (due_t (bt_kd (kd_tup (t1 _ _ e1)))) (al1 (due_t (bt_item [1] (.str "2") [] (t2 _ _ e2) (nn (kd_str _)))) (al1 (due_t (bt_item [] .non [] (t3 _ _ e3) (nn kd_non)))
      (al1 (due_t (bt_item [] (.bl true) [] (t4 _ _ e4) (nn (kd_bl _)))) (al1 (due_t (bt_dup [1, 2, 1] (t5 _ _ e5) (by decide))) (al1 (due_t (bt_dup [c, c] (t6 _ _ e6) (by simp))) (al1 (due_t (bt_item [0] (.bl true) [] (t7 _ _ e7) (nn (kd_bl _)))) (al1 (due_t (bt_kd (kd_dict (t8 _ _ e8))))
      (al1 (due_t (bt_item [] (.ref a9) [] (t10 _ _ e10) (nn (kd_lst (t9 _ _ e9))))) (al1 (due_t (bt_dup [c, 0, c] (t12 _ _ e12) (by simp))) (al1 (due_t (bt_item [c] .non [] (t13 _ _ e13) (nn kd_non))) al0)))))))))))))
theorem sc__law_counts : FnScope ["_law_cell"] ["_law_cell"] (defScope s__law_counts) := ⟨rfl, rfl, rfl, by decide +kernel, rfl, by decide +kernel, by decide +kernel⟩
theorem C__law_counts (T : Tx K mg Z) : Ctr P w K mg base CX0 1 "_law_counts" ["_law_cell"] (sp_things K [7, 11] 1) := by
  refine ctr_of T._law_counts fun f fd F => F.ok sc__law_counts (fun vs H Q E h => ?_) (fun cdv A outer s H vs Q E hr h => ?_)
  · obtain ⟨c, rfl, _⟩ := h
    rfl
  · obtain ⟨c, rfl, kQ⟩ := h
    refine' ⟨_, ?hterm, ?_⟩
    case hterm =>
      refine' pss_one ?q1
      case q1 =>
        refine' ps_ret ?q2
        case q2 =>
          refine' pe_lst ?q3
          case q3 =>
            refine' pa_cons ?q4 ?q5
            case q4 => exact pe_non
            case q5 =>
              refine' pa_cons ?q6 ?q7
              case q6 => exact pe_int
              case q7 =>
                refine' pa_cons ?q8 ?q9
                case q8 =>
                  refine' pe_un un_neg ?q10
                  case q10 => exact pe_int
                case q9 =>
                  refine' pa_cons ?q11 ?q12
                  case q11 =>
                    refine' pe_op op_sub ?q13 ?q14
                    case q13 =>
                      refine' pe_un un_neg ?q15
                      case q15 => exact pe_int
                    case q14 =>
                      refine' pe_op op_mod ?q16 ?q17
                      case q16 => exact pv 0
                      case q17 => exact pe_int
                  case q12 =>
                    refine' pa_cons ?q18 ?q19
                    case q18 => exact pe_bl
                    case q19 =>
                      refine' pa_cons ?q20 ?q21
                      case q20 => exact pe_str
                      case q21 =>
                        refine' pa_cons ?q22 ?q23
                        case q22 =>
                          refine' pe_lst ?q24
                          case q24 =>
                            refine' pa_cons ?q25 ?q26
                            case q25 => exact pe_int
                            case q26 => exact pa_nil
                        case q23 =>
                          refine' pa_cons ?q27 ?q28
                          case q27 =>
                            refine' pe_tup ?q29
                            case q29 =>
                              refine' pa_cons ?q30 ?q31
                              case q30 => exact pe_int
                              case q31 => exact pa_nil
                          case q28 => exact pa_nil
    have c0 := Int.emod_nonneg c (show (9 : Int) ≠ 0 by decide)
    refine ⟨_, rfl, _, rfl, _, rfl, _, _, rfl, rfl, (by show (0 : Int) < 9; decide), _, _, rfl, rfl, ⟨sz rfl, fun a1 g1 => ?_⟩⟩
    obtain ⟨s1, e1⟩ := fr (.lst [.int 1]) g1
    refine ⟨sz rfl, fun a2 g2 => ?_⟩
    obtain ⟨s2, e2⟩ := fr (.tup [.int 2]) g2
    refine ⟨sz rfl, fun r g3 => ?_⟩
    obtain ⟨s3, e3⟩ := fr (.lst [.non, .int 0, .int (-1), .int (-1 - c % 9), .bl true, .str "1", .ref a1, .ref a2]) g3
    have t2 := s3
    have t1 := s2.trans t2
    refine kQ r _ _ (s1.trans t1) e3 (by show 0 < 8; decide) (by show 8 ≤ 100; decide) ?_
    exact al1 (due_c (.inl (nn kd_non))) (al1 (due_c (.inr ⟨0, rfl, by decide⟩)) (al1 (due_c (.inr ⟨-1, rfl, by decide⟩)) (al1 (due_c (.inr ⟨_, rfl, by omega⟩)) (al1 (due_c (.inl (nn (kd_bl _)))) (al1 (due_c (.inl (nn (kd_str _))))
      (al1 (due_c (.inl (nn (kd_lst (t1 _ _ e1))))) (al1 (due_c (.inl (nn (kd_tup (t2 _ _ e2))))) al0)))))))
theorem sc__law_blinds : FnScope ["_law_cell"] ["_law_cell"] (defScope s__law_blinds) := ⟨rfl, rfl, rfl, by decide +kernel, rfl, by decide +kernel, by decide +kernel⟩
theorem C__law_blinds (T : Tx K mg Z) : Ctr P w K mg base CX0 1 "_law_blinds" ["_law_cell"] (sp_things K [12] 1) := by
  refine ctr_of T._law_blinds fun f fd F => F.ok sc__law_blinds (fun vs H Q E h => ?_) (fun cdv A outer s H vs Q E hr h => ?_)
  · obtain ⟨c, rfl, _⟩ := h
    rfl
  · obtain ⟨c, rfl, kQ⟩ := h
    refine' ⟨_, ?hterm, ?_⟩
    case hterm =>
      refine' pss_one ?q1
      case q1 =>
        refine' ps_ret ?q2
        case q2 =>
          refine' pe_lst ?q3
          case q3 =>
            refine' pa_cons ?q4 ?q5
            case q4 => exact pe_non
            case q5 =>
              refine' pa_cons ?q6 ?q7
              case q6 => exact pe_int
              case q7 =>
                refine' pa_cons ?q8 ?q9
                case q8 => exact pe_int
                case q9 =>
                  refine' pa_cons ?q10 ?q11
                  case q10 => exact pv 0
                  case q11 =>
                    refine' pa_cons ?q12 ?q13
                    case q12 => exact pe_str
                    case q13 =>
                      refine' pa_cons ?q14 ?q15
                      case q14 =>
                        refine' pe_lst ?q16
                        case q16 =>
                          refine' pa_cons ?q17 ?q18
                          case q17 => exact pe_bl
                          case q18 => exact pa_nil
                      case q15 => exact pa_nil
    refine ⟨_, rfl, ⟨sz rfl, fun a1 g1 => ?_⟩⟩
    obtain ⟨s1, e1⟩ := fr (.lst [.bl true]) g1
    refine ⟨sz rfl, fun r g2 => ?_⟩
    obtain ⟨s2, e2⟩ := fr (.lst [.non, .int 0, .int 1, .int c, .str "blind", .ref a1]) g2
    refine kQ r _ _ (s1.trans s2) e2 (by show 0 < 6; decide) (by show 6 ≤ 100; decide) ?_
    exact al1 (due_b (fun z => by cases z) (fun z => by cases z)) (al1 (due_b (fun z => by cases z) (fun z => by cases z)) (al1 (due_b (fun z => by cases z) (fun z => by cases z)) (al1 (due_b (fun z => by cases z) (fun z => by cases z)) (al1 (due_b (fun z => by cases z) (fun z => by cases z))
      (al1 (due_b (fun z => by cases z) (fun z => by cases z)) al0)))))
theorem sc__law_orders : FnScope ["_law_cell"] ["_law_cell"] (defScope s__law_orders) := ⟨rfl, rfl, rfl, by decide +kernel, rfl, by decide +kernel, by decide +kernel⟩
theorem C__law_orders (T : Tx K mg Z) : Ctr P w K mg base CX0 1 "_law_orders" ["_law_cell"] (sp_things K [14] 0) := by
  refine ctr_of T._law_orders fun f fd F => F.ok sc__law_orders (fun vs H Q E h => ?_) (fun cdv A outer s H vs Q E hr h => ?_)
  · obtain ⟨c, rfl, _⟩ := h
    rfl
  · obtain ⟨c, rfl, kQ⟩ := h
    refine' ⟨_, ?hterm, ?_⟩
    case hterm =>
      refine' pss_one ?q1
      case q1 =>
        refine' ps_ret ?q2
        case q2 =>
          refine' pe_lst ?q3
          case q3 =>
            refine' pa_cons ?q4 ?q5
            case q4 =>
              refine' pe_lst ?q6
              case q6 =>
                refine' pa_cons ?q7 ?q8
                case q7 => exact pe_int
                case q8 => exact pa_nil
            case q5 =>
              refine' pa_cons ?q9 ?q10
              case q9 =>
                refine' pe_lst ?q11
                case q11 =>
                  refine' pa_cons ?q12 ?q13
                  case q12 => exact pe_int
                  case q13 =>
                    refine' pa_cons ?q14 ?q15
                    case q14 => exact pe_int
                    case q15 => exact pa_nil
              case q10 =>
                refine' pa_cons ?q16 ?q17
                case q16 =>
                  refine' pe_lst ?q18
                  case q18 =>
                    refine' pa_cons ?q19 ?q20
                    case q19 =>
                      refine' pe_un un_neg ?q21
                      case q21 => exact pe_int
                    case q20 =>
                      refine' pa_cons ?q22 ?q23
                      case q22 => exact pe_int
                      case q23 => exact pa_nil
                case q17 =>
                  refine' pa_cons ?q24 ?q25
                  case q24 =>
                    refine' pe_lst ?q26
                    case q26 =>
                      refine' pa_cons ?q27 ?q28
                      case q27 => exact pe_int
                      case q28 =>
                        refine' pa_cons ?q29 ?q30
                        case q29 => exact pe_int
                        case q30 =>
                          refine' pa_cons ?q31 ?q32
                          case q31 => exact pe_int
                          case q32 => exact pa_nil
                  case q25 =>
                    refine' pa_cons ?q33 ?q34
                    case q33 =>
                      refine' pe_lst ?q35
                      case q35 =>
                        refine' pa_cons ?q36 ?q37
                        case q36 => exact pe_int
                        case q37 =>
                          refine' pa_cons ?q38 ?q39
                          case q38 => exact pe_int
                          case q39 =>
                            refine' pa_cons ?q40 ?q41
                            case q40 => exact pe_int
                            case q41 => exact pa_nil
                    case q34 =>
                      refine' pa_cons ?q42 ?q43
                      case q42 =>
                        refine' pe_lst ?q44
                        case q44 =>
                          refine' pa_cons ?q45 ?q46
                          case q45 =>
                            refine' pe_op (op_addK (K := K) (by rfl)) ?q47 ?q48
                            case q47 => exact pe_int
                            case q48 =>
                              refine' pe_op op_mod ?q49 ?q50
                              case q49 => exact pv 0
                              case q50 => exact pe_int
                          case q46 => exact pa_nil
                      case q43 =>
                        refine' pa_cons ?q51 ?q52
                        case q51 =>
                          refine' pe_lst ?q53
                          case q53 =>
                            refine' pa_cons ?q54 ?q55
                            case q54 => exact pe_int
                            case q55 =>
                              refine' pa_cons ?q56 ?q57
                              case q56 =>
                                refine' pe_op op_sub ?q58 ?q59
                                case q58 =>
                                  refine' pe_un un_neg ?q60
                                  case q60 => exact pe_int
                                case q59 =>
                                  refine' pe_op op_mod ?q61 ?q62
                                  case q61 => exact pv 0
                                  case q62 => exact pe_int
                              case q57 => exact pa_nil
                        case q52 => exact pa_nil
    have c0 := Int.emod_nonneg c (show (9 : Int) ≠ 0 by decide)
    refine ⟨sz rfl, fun a1 g1 => ?_⟩
    obtain ⟨s1, e1⟩ := fr (.lst [.int 1]) g1
    refine ⟨sz rfl, fun a2 g2 => ?_⟩
    obtain ⟨s2, e2⟩ := fr (.lst [.int 0, .int 2]) g2
    refine ⟨_, rfl, ⟨sz rfl, fun a3 g3 => ?_⟩⟩
    obtain ⟨s3, e3⟩ := fr (.lst [.int (-1), .int 0]) g3
    refine ⟨sz rfl, fun a4 g4 => ?_⟩
    obtain ⟨s4, e4⟩ := fr (.lst [.int 1, .int 2, .int 3]) g4
    refine ⟨sz rfl, fun a5 g5 => ?_⟩
    obtain ⟨s5, e5⟩ := fr (.lst [.int 0, .int 1, .int 3]) g5
    refine ⟨_, rfl, _, _, rfl, rfl, (by show (0 : Int) < 9; decide), .inl ⟨_, _, rfl, rfl, ⟨sz rfl, fun a6 g6 => ?_⟩⟩⟩
    obtain ⟨s6, e6⟩ := fr (.lst [.int (5 + c % 9)]) g6
    refine ⟨_, rfl, _, rfl, _, _, rfl, rfl, (by show (0 : Int) < 9; decide), _, _, rfl, rfl, ⟨sz rfl, fun a7 g7 => ?_⟩⟩
    obtain ⟨s7, e7⟩ := fr (.lst [.int 0, .int (-1 - c % 9)]) g7
    refine ⟨sz rfl, fun r g8 => ?_⟩
    obtain ⟨s8, e8⟩ := fr (.lst [.ref a1, .ref a2, .ref a3, .ref a4, .ref a5, .ref a6, .ref a7]) g8
    have t7 := s8
    have t6 := s7.trans t7
    have t5 := s6.trans t6
    have t4 := s5.trans t5
    have t3 := s4.trans t4
    have t2 := s3.trans t3
    have t1 := s2.trans t2
    refine kQ r _ _ (s1.trans t1) e8 (by show 0 < 7; decide) (by show 7 ≤ 100; decide) ?_
    refine al1 (due_o (bo [1] 1 (t1 _ _ e1) (by decide) (by decide) (by decide))) (al1 (due_o (bo [0, 2] 2 (t2 _ _ e2) (by decide) (by decide) (by decide))) (al1 (due_o (bo [-1, 0] (-1) (t3 _ _ e3) (by decide) (by decide) (by decide)))
      (al1 (due_o (bo [1, 2, 3] 3 (t4 _ _ e4) (by decide) (by decide) (by decide))) (al1 (due_o (bo [0, 1, 3] 3 (t5 _ _ e5) (by decide) (by decide) (by decide))) (al1 (due_o (bo [5 + c % 9] (5 + c % 9) (t6 _ _ e6) (by simp) (.inr ?_) (by simp)))
      (al1 (due_o (bo [0, -1 - c % 9] (-1 - c % 9) (t7 _ _ e7) (by simp) (.inl ?_) ?_)) al0))))))
    · show (1 : Int) ≤ _
      omega
    · omega
    · rw [List.nodup_cons]
      refine ⟨fun z => ?_, by simp⟩
      have := List.mem_singleton.mp z
      omega
end
end My.No
/-! The law's own: things that are no moves. -/
namespace My.No
open PySem L2
section
variable {P : Program} {w : World} {K : PySem.W.Frag} {mg : Str → Option Value} {base : Heap} {Z : Adr}
section
variable {H : Hp} {x y : V} {a b : Addr} {bi bb bl bt bs : Bool}
theorem due_m (h : BadMs K H x 2) : ∀ d ∈ [(13 : Int)], Due K H d x 2 := by
  intro d hd
  exact .inr (.inr (.inr (.inr (.inr ⟨rfl, List.mem_singleton.mp hd, h⟩))))
theorem bm_kd (h : Kd K H x bi bb false bt bs) : BadMs K H x 2 := .inl ⟨bi, bb, bt, bs, h⟩
theorem bm_one (e : H a = some (.lst [y])) (h : BadM K H y 2) : BadMs K H (.ref a) 2 := .inr ⟨a, [], y, [], rfl, e, by show 1 ≤ 900; decide, al0, h⟩
theorem bm_two {z : V} (e : H a = some (.lst [z, y])) (hz : OkM H z 2) (h : BadM K H y 2) : BadMs K H (.ref a) 2 := .inr ⟨a, [z], y, [], rfl, e, by show 2 ≤ 900; decide, al1 hz al0, h⟩
theorem mv_kd (h : Kd K H x bi bb bl false bs) : BadM K H x 2 := .inl ⟨bi, bb, bl, bs, h⟩
theorem mv_len {xs : List V} (e : H a = some (.tup xs)) (h : xs.length ≠ 2) (hl : xs.length ≤ 1000) : BadM K H (.ref a) 2 := .inr (.inl ⟨a, xs, rfl, e, h, hl⟩)
theorem mv_wd {u v : V} (e : H a = some (.tup [u, v])) (h : BadW K H u) : BadM K H (.ref a) 2 := .inr (.inr ⟨a, u, v, rfl, e, .inl h⟩)
theorem mv_tr (b : Bool) {v : V} (e : H a = some (.tup [.str (deed b), v])) (h : BadTr K H v 2) : BadM K H (.ref a) 2 := .inr (.inr ⟨a, _, v, rfl, e, .inr ⟨b, rfl, h⟩⟩)
theorem mv_ok (b : Bool) (e : H a = some (.tup [.str (deed b), .int 0])) : OkM H (.ref a) 2 := ⟨a, b, 0, rfl, e, by decide, by decide⟩
end
theorem sc__law_moves : FnScope ["_law_cell", "_law_some"] ["_law_cell"] (defScope s__law_moves) := ⟨rfl, rfl, rfl, by decide +kernel, rfl, by decide +kernel, by decide +kernel⟩
theorem C__law_moves (T : Tx K mg Z) : Ctr P w K mg base CX0 1 "_law_moves" ["_law_cell"] (sp_things K [13] 2) := by
  refine ctr_of T._law_moves fun f fd F => F.ok sc__law_moves (fun vs H Q E h => ?_) (fun cdv A outer s H vs Q E hr h => ?_)
  · obtain ⟨c, rfl, _⟩ := h
    rfl
  · obtain ⟨c, rfl, kQ⟩ := h
    refine' ⟨_, ?hterm, ?_⟩
    case hterm =>
      refine' pss_cons ?q1 ?q2
      case q1 =>
        refine' ps_set (i := 1) ?zA ?zB ?zC ?q3 ?zD ?zE
        case zA => exact sc__law_moves.nd
        case zB => rfl
        case zC => exact (Or.inl rfl)
        case zD => rfl
        case zE => exact .inr rfl
        case q3 =>
          refine' pe_lst ?q4
          case q4 =>
            refine' pa_cons ?q5 ?q6
            case q5 => exact pe_non
            case q6 =>
              refine' pa_cons ?q7 ?q8
              case q7 => exact pe_str
              case q8 =>
                refine' pa_cons ?q9 ?q10
                case q9 =>
                  refine' pe_tup ?q11
                  case q11 => exact pa_nil
                case q10 =>
                  refine' pa_cons ?q12 ?q13
                  case q12 =>
                    refine' pe_tup ?q14
                    case q14 =>
                      refine' pa_cons ?q15 ?q16
                      case q15 =>
                        refine' pe_tup ?q17
                        case q17 =>
                          refine' pa_cons ?q18 ?q19
                          case q18 => exact pe_str
                          case q19 =>
                            refine' pa_cons ?q20 ?q21
                            case q20 => exact pe_int
                            case q21 => exact pa_nil
                      case q16 => exact pa_nil
                  case q13 =>
                    refine' pa_cons ?q22 ?q23
                    case q22 =>
                      refine' pe_lst ?q24
                      case q24 =>
                        refine' pa_cons ?q25 ?q26
                        case q25 =>
                          refine' pe_tup ?q27
                          case q27 =>
                            refine' pa_cons ?q28 ?q29
                            case q28 => exact pe_str
                            case q29 => exact pa_nil
                        case q26 => exact pa_nil
                    case q23 =>
                      refine' pa_cons ?q30 ?q31
                      case q30 =>
                        refine' pe_lst ?q32
                        case q32 =>
                          refine' pa_cons ?q33 ?q34
                          case q33 =>
                            refine' pe_lst ?q35
                            case q35 =>
                              refine' pa_cons ?q36 ?q37
                              case q36 => exact pe_str
                              case q37 =>
                                refine' pa_cons ?q38 ?q39
                                case q38 => exact pe_int
                                case q39 => exact pa_nil
                          case q34 => exact pa_nil
                      case q31 =>
                        refine' pa_cons ?q40 ?q41
                        case q40 =>
                          refine' pe_lst ?q42
                          case q42 =>
                            refine' pa_cons ?q43 ?q44
                            case q43 =>
                              refine' pe_tup ?q45
                              case q45 =>
                                refine' pa_cons ?q46 ?q47
                                case q46 => exact pe_str
                                case q47 =>
                                  refine' pa_cons ?q48 ?q49
                                  case q48 => exact pe_int
                                  case q49 =>
                                    refine' pa_cons ?q50 ?q51
                                    case q50 => exact pe_int
                                    case q51 => exact pa_nil
                            case q44 => exact pa_nil
                        case q41 =>
                          refine' pa_cons ?q52 ?q53
                          case q52 =>
                            refine' pe_lst ?q54
                            case q54 =>
                              refine' pa_cons ?q55 ?q56
                              case q55 =>
                                refine' pe_tup ?q57
                                case q57 =>
                                  refine' pa_cons ?q58 ?q59
                                  case q58 => exact pe_str
                                  case q59 =>
                                    refine' pa_cons ?q60 ?q61
                                    case q60 => exact pe_int
                                    case q61 => exact pa_nil
                              case q56 => exact pa_nil
                          case q53 =>
                            refine' pa_cons ?q62 ?q63
                            case q62 =>
                              refine' pe_lst ?q64
                              case q64 =>
                                refine' pa_cons ?q65 ?q66
                                case q65 =>
                                  refine' pe_tup ?q67
                                  case q67 =>
                                    refine' pa_cons ?q68 ?q69
                                    case q68 => exact pe_str
                                    case q69 =>
                                      refine' pa_cons ?q70 ?q71
                                      case q70 => exact pe_int
                                      case q71 => exact pa_nil
                                case q66 => exact pa_nil
                            case q63 => exact pa_nil
      case q2 =>
        refine' pss_cons ?q72 ?q73
        case q72 =>
          refine' ps_set (i := 1) ?zA ?zB ?zC ?q74 ?zD ?zE
          case zA => exact sc__law_moves.nd
          case zB => rfl
          case zC => exact (Or.inl rfl)
          case zD => rfl
          case zE => exact .inr rfl
          case q74 =>
            refine' pe_op (op_addK (K := K) (by rfl)) ?q75 ?q76
            case q75 => exact pv 1
            case q76 =>
              refine' pe_lst ?q77
              case q77 =>
                refine' pa_cons ?q78 ?q79
                case q78 =>
                  refine' pe_lst ?q80
                  case q80 =>
                    refine' pa_cons ?q81 ?q82
                    case q81 =>
                      refine' pe_tup ?q83
                      case q83 =>
                        refine' pa_cons ?q84 ?q85
                        case q84 => exact pe_str
                        case q85 =>
                          refine' pa_cons ?q86 ?q87
                          case q86 =>
                            refine' pe_un un_neg ?q88
                            case q88 => exact pe_int
                          case q87 => exact pa_nil
                    case q82 => exact pa_nil
                case q79 =>
                  refine' pa_cons ?q89 ?q90
                  case q89 =>
                    refine' pe_lst ?q91
                    case q91 =>
                      refine' pa_cons ?q92 ?q93
                      case q92 =>
                        refine' pe_tup ?q94
                        case q94 =>
                          refine' pa_cons ?q95 ?q96
                          case q95 => exact pe_str
                          case q96 =>
                            refine' pa_cons ?q97 ?q98
                            case q97 => exact pe_bl
                            case q98 => exact pa_nil
                      case q93 => exact pa_nil
                  case q90 =>
                    refine' pa_cons ?q99 ?q100
                    case q99 =>
                      refine' pe_lst ?q101
                      case q101 =>
                        refine' pa_cons ?q102 ?q103
                        case q102 =>
                          refine' pe_tup ?q104
                          case q104 =>
                            refine' pa_cons ?q105 ?q106
                            case q105 => exact pe_str
                            case q106 =>
                              refine' pa_cons ?q107 ?q108
                              case q107 => exact pe_non
                              case q108 => exact pa_nil
                        case q103 => exact pa_nil
                    case q100 =>
                      refine' pa_cons ?q109 ?q110
                      case q109 =>
                        refine' pe_lst ?q111
                        case q111 =>
                          refine' pa_cons ?q112 ?q113
                          case q112 =>
                            refine' pe_tup ?q114
                            case q114 =>
                              refine' pa_cons ?q115 ?q116
                              case q115 => exact pe_int
                              case q116 =>
                                refine' pa_cons ?q117 ?q118
                                case q117 => exact pe_int
                                case q118 => exact pa_nil
                          case q113 => exact pa_nil
                      case q110 =>
                        refine' pa_cons ?q119 ?q120
                        case q119 =>
                          refine' pe_lst ?q121
                          case q121 =>
                            refine' pa_cons ?q122 ?q123
                            case q122 => exact pe_non
                            case q123 => exact pa_nil
                        case q120 =>
                          refine' pa_cons ?q124 ?q125
                          case q124 =>
                            refine' pe_lst ?q126
                            case q126 =>
                              refine' pa_cons ?q127 ?q128
                              case q127 => exact pe_int
                              case q128 => exact pa_nil
                          case q125 =>
                            refine' pa_cons ?q129 ?q130
                            case q129 => exact pe_dnewK
                            case q130 =>
                              refine' pa_cons ?q131 ?q132
                              case q131 => exact pv 0
                              case q132 => exact pa_nil
        case q73 =>
          refine' pss_cons ?q133 ?q134
          case q133 =>
            refine' ps_set (i := 1) sc__law_moves.nd rfl (Or.inl rfl) ?q135
            case q135 =>
              refine' pe_op (op_addK (K := K) (by rfl)) ?q136 ?q137
              case q136 => exact pv 1
              case q137 =>
                refine' pe_lst ?q138
                case q138 =>
                  refine' pa_cons ?q139 ?q140
                  case q139 =>
                    refine' pe_lst ?q141
                    case q141 =>
                      refine' pa_cons ?q142 ?q143
                      case q142 =>
                        refine' pe_tup ?q144
                        case q144 =>
                          refine' pa_cons ?q145 ?q146
                          case q145 =>
                            refine' pe_lst ?q147
                            case q147 => exact pa_nil
                          case q146 =>
                            refine' pa_cons ?q148 ?q149
                            case q148 => exact pe_int
                            case q149 => exact pa_nil
                      case q143 => exact pa_nil
                  case q140 =>
                    refine' pa_cons ?q150 ?q151
                    case q150 =>
                      refine' pe_lst ?q152
                      case q152 =>
                        refine' pa_cons ?q153 ?q154
                        case q153 =>
                          refine' pe_tup ?q155
                          case q155 =>
                            refine' pa_cons ?q156 ?q157
                            case q156 => exact pe_dnewK
                            case q157 =>
                              refine' pa_cons ?q158 ?q159
                              case q158 => exact pe_int
                              case q159 => exact pa_nil
                        case q154 => exact pa_nil
                    case q151 =>
                      refine' pa_cons ?q160 ?q161
                      case q160 =>
                        refine' pe_lst ?q162
                        case q162 =>
                          refine' pa_cons ?q163 ?q164
                          case q163 =>
                            refine' pe_tup ?q165
                            case q165 =>
                              refine' pa_cons ?q166 ?q167
                              case q166 => exact pe_str
                              case q167 =>
                                refine' pa_cons ?q168 ?q169
                                case q168 =>
                                  refine' pe_lst ?q170
                                  case q170 =>
                                    refine' pa_cons ?q171 ?q172
                                    case q171 => exact pe_int
                                    case q172 => exact pa_nil
                                case q169 => exact pa_nil
                          case q164 => exact pa_nil
                      case q161 => exact pa_nil
          case q134 =>
            refine' pss_one ?q173
            case q173 =>
              refine' ps_ret ?q174
              case q174 =>
                refine' pe_op (op_addK (K := K) (by rfl)) ?q175 ?q176
                case q175 => exact pv 1
                case q176 =>
                  refine' pe_lst ?q177
                  case q177 =>
                    refine' pa_cons ?q178 ?q179
                    case q178 =>
                      refine' pe_lst ?q180
                      case q180 =>
                        refine' pa_cons ?q181 ?q182
                        case q181 =>
                          refine' pe_tup ?q183
                          case q183 =>
                            refine' pa_cons ?q184 ?q185
                            case q184 => exact pe_str
                            case q185 =>
                              refine' pa_cons ?q186 ?q187
                              case q186 => exact pe_int
                              case q187 => exact pa_nil
                        case q182 =>
                          refine' pa_cons ?q188 ?q189
                          case q188 =>
                            refine' pe_tup ?q190
                            case q190 =>
                              refine' pa_cons ?q191 ?q192
                              case q191 => exact pe_str
                              case q192 =>
                                refine' pa_cons ?q193 ?q194
                                case q193 =>
                                  refine' pe_op (op_addK (K := K) (by rfl)) ?q195 ?q196
                                  case q195 => exact pe_int
                                  case q196 =>
                                    refine' pe_op op_mod ?q197 ?q198
                                    case q197 => exact pv 0
                                    case q198 => exact pe_int
                                case q194 => exact pa_nil
                          case q189 => exact pa_nil
                    case q179 =>
                      refine' pa_cons ?q199 ?q200
                      case q199 =>
                        refine' pe_lst ?q201
                        case q201 =>
                          refine' pa_cons ?q202 ?q203
                          case q202 =>
                            refine' pe_tup ?q204
                            case q204 =>
                              refine' pa_cons ?q205 ?q206
                              case q205 => exact pe_str
                              case q206 =>
                                refine' pa_cons ?q207 ?q208
                                case q207 => exact pe_int
                                case q208 => exact pa_nil
                          case q203 =>
                            refine' pa_cons ?q209 ?q210
                            case q209 =>
                              refine' pe_tup ?q211
                              case q211 =>
                                refine' pa_cons ?q212 ?q213
                                case q212 => exact pe_str
                                case q213 =>
                                  refine' pa_cons ?q214 ?q215
                                  case q214 => exact pe_str
                                  case q215 => exact pa_nil
                            case q210 => exact pa_nil
                      case q200 =>
                        refine' pa_cons ?q216 ?q217
                        case q216 =>
                          refine' pe_lst ?q218
                          case q218 =>
                            refine' pa_cons ?q219 ?q220
                            case q219 =>
                              refine' pe_tup ?q221
                              case q221 =>
                                refine' pa_cons ?q222 ?q223
                                case q222 => exact pe_str
                                case q223 =>
                                  refine' pa_cons ?q224 ?q225
                                  case q224 =>
                                    refine' pe_op op_sub ?q226 ?q227
                                    case q226 =>
                                      refine' pe_un un_neg ?q228
                                      case q228 => exact pe_int
                                    case q227 =>
                                      refine' pe_op op_mod ?q229 ?q230
                                      case q229 => exact pv 0
                                      case q230 => exact pe_int
                                  case q225 => exact pa_nil
                            case q220 => exact pa_nil
                        case q217 => exact pa_nil
    have c0 := Int.emod_nonneg c (show (9 : Int) ≠ 0 by decide)
    refine ⟨sz rfl, fun a1 g1 => ?_⟩
    obtain ⟨s1, e1⟩ := fr (.tup []) g1
    refine ⟨sz rfl, fun b1 g2 => ?_⟩
    obtain ⟨s2, e2⟩ := fr (.tup [.str "in", .int 0]) g2
    refine ⟨sz rfl, fun a2 g3 => ?_⟩
    obtain ⟨s3, e3⟩ := fr (.tup [.ref b1]) g3
    refine ⟨sz rfl, fun b2 g4 => ?_⟩
    obtain ⟨s4, e4⟩ := fr (.tup [.str "in"]) g4
    refine ⟨sz rfl, fun a3 g5 => ?_⟩
    obtain ⟨s5, e5⟩ := fr (.lst [.ref b2]) g5
    refine ⟨sz rfl, fun b3 g6 => ?_⟩
    obtain ⟨s6, e6⟩ := fr (.lst [.str "in", .int 0]) g6
    refine ⟨sz rfl, fun a4 g7 => ?_⟩
    obtain ⟨s7, e7⟩ := fr (.lst [.ref b3]) g7
    refine ⟨sz rfl, fun b4 g8 => ?_⟩
    obtain ⟨s8, e8⟩ := fr (.tup [.str "in", .int 0, .int 0]) g8
    refine ⟨sz rfl, fun a5 g9 => ?_⟩
    obtain ⟨s9, e9⟩ := fr (.lst [.ref b4]) g9
    refine ⟨sz rfl, fun b5 g10 => ?_⟩
    obtain ⟨s10, e10⟩ := fr (.tup [.str "on", .int 0]) g10
    refine ⟨sz rfl, fun a6 g11 => ?_⟩
    obtain ⟨s11, e11⟩ := fr (.lst [.ref b5]) g11
    refine ⟨sz rfl, fun b6 g12 => ?_⟩
    obtain ⟨s12, e12⟩ := fr (.tup [.str "in", .int 2]) g12
    refine ⟨sz rfl, fun a7 g13 => ?_⟩
    obtain ⟨s13, e13⟩ := fr (.lst [.ref b6]) g13
    refine ⟨sz rfl, fun L1 g14 => ?_⟩
    obtain ⟨s14, e14⟩ := fr (.lst [.non, .str "in", .ref a1, .ref a2, .ref a3, .ref a4, .ref a5, .ref a6, .ref a7]) g14
    refine ⟨_, rfl, _, rfl, ⟨sz rfl, fun b8 g15 => ?_⟩⟩
    obtain ⟨s15, e15⟩ := fr (.tup [.str "in", .int (-1)]) g15
    refine ⟨sz rfl, fun a8 g16 => ?_⟩
    obtain ⟨s16, e16⟩ := fr (.lst [.ref b8]) g16
    refine ⟨sz rfl, fun b9 g17 => ?_⟩
    obtain ⟨s17, e17⟩ := fr (.tup [.str "in", .bl true]) g17
    refine ⟨sz rfl, fun a9 g18 => ?_⟩
    obtain ⟨s18, e18⟩ := fr (.lst [.ref b9]) g18
    refine ⟨sz rfl, fun b10 g19 => ?_⟩
    obtain ⟨s19, e19⟩ := fr (.tup [.str "out", .non]) g19
    refine ⟨sz rfl, fun a10 g20 => ?_⟩
    obtain ⟨s20, e20⟩ := fr (.lst [.ref b10]) g20
    refine ⟨sz rfl, fun b11 g21 => ?_⟩
    obtain ⟨s21, e21⟩ := fr (.tup [.int 0, .int 0]) g21
    refine ⟨sz rfl, fun a11 g22 => ?_⟩
    obtain ⟨s22, e22⟩ := fr (.lst [.ref b11]) g22
    refine ⟨sz rfl, fun a12 g23 => ?_⟩
    obtain ⟨s23, e23⟩ := fr (.lst [.non]) g23
    refine ⟨sz rfl, fun a13 g24 => ?_⟩
    obtain ⟨s24, e24⟩ := fr (.lst [.int 5]) g24
    refine fun a14 g25 => ?_
    obtain ⟨s25, e25⟩ := fr (.dK []) g25
    refine ⟨_, rfl, ⟨sz rfl, fun L2 g26 => ?_⟩⟩
    obtain ⟨s26, e26⟩ := fr (.lst [.ref a8, .ref a9, .ref a10, .ref a11, .ref a12, .ref a13, .ref a14, .int c]) g26
    refine .inr (.inl ⟨L1, L2, _, _, rfl, rfl, (((((((((((s15.trans s16).trans s17).trans s18).trans s19).trans s20).trans s21).trans s22).trans s23).trans s24).trans s25).trans s26) _ _ e14, e26, (by show 9 + 8 ≤ sizeLine; decide), fun L3 g27 => ?_⟩)
    obtain ⟨s27, e27⟩ := fr (.lst ([.non, .str "in", .ref a1, .ref a2, .ref a3, .ref a4, .ref a5, .ref a6, .ref a7] ++ [.ref a8, .ref a9, .ref a10, .ref a11, .ref a12, .ref a13, .ref a14, .int c])) g27
    refine ⟨_, rfl, ⟨sz rfl, fun c1 g28 => ?_⟩⟩
    obtain ⟨s28, e28⟩ := fr (.lst []) g28
    refine ⟨sz rfl, fun c2 g29 => ?_⟩
    obtain ⟨s29, e29⟩ := fr (.tup [.ref c1, .int 0]) g29
    refine ⟨sz rfl, fun a15 g30 => ?_⟩
    obtain ⟨s30, e30⟩ := fr (.lst [.ref c2]) g30
    refine fun c3 g31 => ?_
    obtain ⟨s31, e31⟩ := fr (.dK []) g31
    refine ⟨sz rfl, fun c4 g32 => ?_⟩
    obtain ⟨s32, e32⟩ := fr (.tup [.ref c3, .int 0]) g32
    refine ⟨sz rfl, fun a16 g33 => ?_⟩
    obtain ⟨s33, e33⟩ := fr (.lst [.ref c4]) g33
    refine ⟨sz rfl, fun c5 g34 => ?_⟩
    obtain ⟨s34, e34⟩ := fr (.lst [.int 0]) g34
    refine ⟨sz rfl, fun c6 g35 => ?_⟩
    obtain ⟨s35, e35⟩ := fr (.tup [.str "in", .ref c5]) g35
    refine ⟨sz rfl, fun a17 g36 => ?_⟩
    obtain ⟨s36, e36⟩ := fr (.lst [.ref c6]) g36
    refine ⟨sz rfl, fun L4 g37 => ?_⟩
    obtain ⟨s37, e37⟩ := fr (.lst [.ref a15, .ref a16, .ref a17]) g37
    refine .inr (.inl ⟨L3, L4, _, _, rfl, rfl, (((((((((s28.trans s29).trans s30).trans s31).trans s32).trans s33).trans s34).trans s35).trans s36).trans s37) _ _ e27, e37, (by show 17 + 3 ≤ sizeLine; decide), fun L5 g38 => ?_⟩)
    obtain ⟨s38, e38⟩ := fr (.lst (([.non, .str "in", .ref a1, .ref a2, .ref a3, .ref a4, .ref a5, .ref a6, .ref a7] ++ [.ref a8, .ref a9, .ref a10, .ref a11, .ref a12, .ref a13, .ref a14, .int c]) ++ [.ref a15, .ref a16, .ref a17])) g38
    refine ⟨_, rfl, ⟨sz rfl, fun c7 g39 => ?_⟩⟩
    obtain ⟨s39, e39⟩ := fr (.tup [.str "out", .int 0]) g39
    refine ⟨_, rfl, _, _, rfl, rfl, (by show (0 : Int) < 9; decide), .inl ⟨_, _, rfl, rfl, ⟨sz rfl, fun c8 g40 => ?_⟩⟩⟩
    obtain ⟨s40, e40⟩ := fr (.tup [.str "in", .int (2 + c % 9)]) g40
    refine ⟨sz rfl, fun a18 g41 => ?_⟩
    obtain ⟨s41, e41⟩ := fr (.lst [.ref c7, .ref c8]) g41
    refine ⟨sz rfl, fun c9 g42 => ?_⟩
    obtain ⟨s42, e42⟩ := fr (.tup [.str "in", .int 0]) g42
    refine ⟨sz rfl, fun c10 g43 => ?_⟩
    obtain ⟨s43, e43⟩ := fr (.tup [.str "in", .str "0"]) g43
    refine ⟨sz rfl, fun a19 g44 => ?_⟩
    obtain ⟨s44, e44⟩ := fr (.lst [.ref c9, .ref c10]) g44
    refine ⟨_, rfl, _, rfl, _, _, rfl, rfl, (by show (0 : Int) < 9; decide), _, _, rfl, rfl, ⟨sz rfl, fun c11 g45 => ?_⟩⟩
    obtain ⟨s45, e45⟩ := fr (.tup [.str "out", .int (-1 - c % 9)]) g45
    refine ⟨sz rfl, fun a20 g46 => ?_⟩
    obtain ⟨s46, e46⟩ := fr (.lst [.ref c11]) g46
    refine ⟨sz rfl, fun L6 g47 => ?_⟩
    obtain ⟨s47, e47⟩ := fr (.lst [.ref a18, .ref a19, .ref a20]) g47
    refine .inr (.inl ⟨L5, L6, _, _, rfl, rfl, ((((((((s39.trans s40).trans s41).trans s42).trans s43).trans s44).trans s45).trans s46).trans s47) _ _ e38, e47, (by show 20 + 3 ≤ sizeLine; decide), fun r g48 => ?_⟩)
    obtain ⟨s48, e48⟩ := fr (.lst ((([.non, .str "in", .ref a1, .ref a2, .ref a3, .ref a4, .ref a5, .ref a6, .ref a7] ++ [.ref a8, .ref a9, .ref a10, .ref a11, .ref a12, .ref a13, .ref a14, .int c]) ++ [.ref a15, .ref a16, .ref a17]) ++ [.ref a18, .ref a19, .ref a20])) g48
    have t47 := s48
    have t46 := s47.trans t47
    have t45 := s46.trans t46
    have t44 := s45.trans t45
    have t43 := s44.trans t44
    have t42 := s43.trans t43
    have t41 := s42.trans t42
    have t40 := s41.trans t41
    have t39 := s40.trans t40
    have t38 := s39.trans t39
    have t37 := s38.trans t38
    have t36 := s37.trans t37
    have t35 := s36.trans t36
    have t34 := s35.trans t35
    have t33 := s34.trans t34
    have t32 := s33.trans t33
    have t31 := s32.trans t32
    have t30 := s31.trans t31
    have t29 := s30.trans t30
    have t28 := s29.trans t29
    have t27 := s28.trans t28
    have t26 := s27.trans t27
    have t25 := s26.trans t26
    have t24 := s25.trans t25
    have t23 := s24.trans t24
    have t22 := s23.trans t23
    have t21 := s22.trans t22
    have t20 := s21.trans t21
    have t19 := s20.trans t20
    have t18 := s19.trans t19
    have t17 := s18.trans t18
    have t16 := s17.trans t17
    have t15 := s16.trans t16
    have t14 := s15.trans t15
    have t13 := s14.trans t14
    have t12 := s13.trans t13
    have t11 := s12.trans t12
    have t10 := s11.trans t11
    have t9 := s10.trans t10
    have t8 := s9.trans t9
    have t7 := s8.trans t8
    have t6 := s7.trans t7
    have t5 := s6.trans t6
    have t4 := s5.trans t5
    have t3 := s4.trans t4
    have t2 := s3.trans t3
    have t1 := s2.trans t2
    have t0 := s1.trans t1
    refine kQ r _ _ t0 e48 (by show 0 < 23; decide) (by show 23 ≤ 100; decide) ?_
    refine al1 (due_m (bm_kd kd_non)) ?_
    refine al1 (due_m (bm_kd (kd_str _))) ?_
    refine al1 (due_m (bm_kd (kd_tup (t1 _ _ e1)))) ?_
    refine al1 (due_m (bm_kd (kd_tup (t3 _ _ e3)))) ?_
    refine al1 (due_m (bm_one (t5 _ _ e5) (mv_len (t4 _ _ e4) (by show 1 ≠ 2; decide) (by show 1 ≤ 1000; decide)))) ?_
    refine al1 (due_m (bm_one (t7 _ _ e7) (mv_kd (kd_lst (t6 _ _ e6))))) ?_
    refine al1 (due_m (bm_one (t9 _ _ e9) (mv_len (t8 _ _ e8) (by show 3 ≠ 2; decide) (by show 3 ≤ 1000; decide)))) ?_
    refine al1 (due_m (bm_one (t11 _ _ e11) (mv_wd (t10 _ _ e10) (.inr ⟨_, rfl, by decide, by decide +kernel⟩)))) ?_
    refine al1 (due_m (bm_one (t13 _ _ e13) (mv_tr true (t12 _ _ e12) (.inr ⟨2, rfl, .inr (by decide)⟩)))) ?_
    refine al1 (due_m (bm_one (t16 _ _ e16) (mv_tr true (t15 _ _ e15) (.inr ⟨-1, rfl, .inl (by decide)⟩)))) ?_
    refine al1 (due_m (bm_one (t18 _ _ e18) (mv_tr true (t17 _ _ e17) (.inl (nn (kd_bl _)))))) ?_
    refine al1 (due_m (bm_one (t20 _ _ e20) (mv_tr false (t19 _ _ e19) (.inl (nn kd_non))))) ?_
    refine al1 (due_m (bm_one (t22 _ _ e22) (mv_wd (t21 _ _ e21) (.inl ⟨_, _, _, _, kd_int _⟩)))) ?_
    refine al1 (due_m (bm_one (t23 _ _ e23) (mv_kd kd_non))) ?_
    refine al1 (due_m (bm_one (t24 _ _ e24) (mv_kd (kd_int _)))) ?_
    refine al1 (due_m (bm_kd (kd_dict (t25 _ _ e25)))) ?_
    refine al1 (due_m (bm_kd (kd_int _))) ?_
    refine al1 (due_m (bm_one (t30 _ _ e30) (mv_wd (t29 _ _ e29) (.inl ⟨_, _, _, _, kd_lst (t28 _ _ e28)⟩)))) ?_
    refine al1 (due_m (bm_one (t33 _ _ e33) (mv_wd (t32 _ _ e32) (.inl ⟨_, _, _, _, kd_dict (t31 _ _ e31)⟩)))) ?_
    refine al1 (due_m (bm_one (t36 _ _ e36) (mv_tr true (t35 _ _ e35) (.inl (nn (kd_lst (t34 _ _ e34))))))) ?_
    refine al1 (due_m (bm_two (t41 _ _ e41) (mv_ok false (t39 _ _ e39)) (mv_tr true (t40 _ _ e40) (.inr ⟨_, rfl, .inr (by omega)⟩)))) ?_
    refine al1 (due_m (bm_two (t44 _ _ e44) (mv_ok true (t42 _ _ e42)) (mv_tr true (t43 _ _ e43) (.inl (nn (kd_str _)))))) ?_
    refine al1 (due_m (bm_one (t46 _ _ e46) (mv_tr false (t45 _ _ e45) (.inr ⟨_, rfl, .inl (by omega)⟩)))) ?_
    exact al0
end
end My.No
/-! law_k10: the rules of its text. -/
namespace My.No
open PySem L2
section
variable {P : Program} {w : World} {K : PySem.W.Frag} {mg : Str → Option Value} {base : Heap} {Z : Adr}
theorem sc_law : FnScope ["_law_script", "_law_kinds_here", "_law_doors", "_law_things", "_law_due_here", "_law_door", "_law_cell", "_law_some"] ["_law_script"] (defScope s_law) := ⟨rfl, rfl, rfl, by decide +kernel, rfl, by decide +kernel, by decide +kernel⟩
noncomputable def tmL (T : Tx K mg Z) {f f1 f2 f3 f4 f5 : Addr} {cdv : Value} {A : Around} {outer : List Env} {s : Shared} {H : Hp} {E : XK} (hr : Room 10 (A.deeper (PyProof.Rows.envOfC "law" (defScope s_law) s.heap.objs.size f cdv)))
    (mf__law_trains : mg "_law_trains" = some (.ref f1)) (mf__law_counts : mg "_law_counts" = some (.ref f2)) (mf__law_blinds : mg "_law_blinds" = some (.ref f3)) (mf__law_moves : mg "_law_moves" = some (.ref f4)) (mf__law_orders : mg "_law_orders" = some (.ref f5)) :
    {t : TS // PSs (cxOf CX0 P w K mg base ["_law_script", "_law_kinds_here", "_law_doors", "_law_things", "_law_due_here", "_law_door", "_law_cell", "_law_some"] "law" (defScope s_law) f cdv A outer s H E).nox (defBody s_law) t} := by
    refine' ⟨_, ?hterm⟩
    case hterm =>
      refine' pss_cons ?q1 ?q2
      case q1 =>
        refine' ps_set (i := 1) ?zA ?zB ?zC ?q3 ?zD ?zE
        case zA => exact sc_law.nd
        case zB => rfl
        case zC => exact (Or.inl rfl)
        case zD => rfl
        case zE => exact .inr rfl
        case q3 =>
          refine' pe_lst ?q4
          case q4 =>
            refine' pa_cons ?q5 ?q6
            case q5 =>
              refine' pe_tup ?q7
              case q7 =>
                refine' pa_cons ?q8 ?q9
                case q8 =>
                  refine' pe_lst ?q10
                  case q10 =>
                    refine' pa_cons ?q11 ?q12
                    case q11 => exact pe_int
                    case q12 =>
                      refine' pa_cons ?q13 ?q14
                      case q13 => exact pe_int
                      case q14 =>
                        refine' pa_cons ?q15 ?q16
                        case q15 => exact pe_int
                        case q16 =>
                          refine' pa_cons ?q17 ?q18
                          case q17 => exact pe_int
                          case q18 =>
                            refine' pa_cons ?q19 ?q20
                            case q19 => exact pe_int
                            case q20 =>
                              refine' pa_cons ?q21 ?q22
                              case q21 => exact pe_int
                              case q22 =>
                                refine' pa_cons ?q23 ?q24
                                case q23 => exact pe_int
                                case q24 =>
                                  refine' pa_cons ?q25 ?q26
                                  case q25 => exact pe_int
                                  case q26 =>
                                    refine' pa_cons ?q27 ?q28
                                    case q27 => exact pe_int
                                    case q28 => exact pa_nil
                case q9 =>
                  refine' pa_cons ?q29 ?q30
                  case q29 => exact pe_clsN (by rfl) mf__law_trains
                  case q30 =>
                    refine' pa_cons ?q31 ?q32
                    case q31 => exact pe_int
                    case q32 => exact pa_nil
            case q6 =>
              refine' pa_cons ?q33 ?q34
              case q33 =>
                refine' pe_tup ?q35
                case q35 =>
                  refine' pa_cons ?q36 ?q37
                  case q36 =>
                    refine' pe_lst ?q38
                    case q38 =>
                      refine' pa_cons ?q39 ?q40
                      case q39 => exact pe_int
                      case q40 =>
                        refine' pa_cons ?q41 ?q42
                        case q41 => exact pe_int
                        case q42 => exact pa_nil
                  case q37 =>
                    refine' pa_cons ?q43 ?q44
                    case q43 => exact pe_clsN (by rfl) mf__law_counts
                    case q44 =>
                      refine' pa_cons ?q45 ?q46
                      case q45 => exact pe_int
                      case q46 => exact pa_nil
              case q34 =>
                refine' pa_cons ?q47 ?q48
                case q47 =>
                  refine' pe_tup ?q49
                  case q49 =>
                    refine' pa_cons ?q50 ?q51
                    case q50 =>
                      refine' pe_lst ?q52
                      case q52 =>
                        refine' pa_cons ?q53 ?q54
                        case q53 => exact pe_int
                        case q54 => exact pa_nil
                    case q51 =>
                      refine' pa_cons ?q55 ?q56
                      case q55 => exact pe_clsN (by rfl) mf__law_blinds
                      case q56 =>
                        refine' pa_cons ?q57 ?q58
                        case q57 => exact pe_int
                        case q58 => exact pa_nil
                case q48 => exact pa_nil
      case q2 =>
        refine' pss_cons ?q59 ?q60
        case q59 =>
          refine' ps_for HP rfl ?q61 ?q62 ?q63
          case q61 =>
            refine' pi_listK (K := K) (by rfl) ?q64
            case q64 =>
              refine' pe_op (op_addK (K := K) (by rfl)) ?q65 ?q66
              case q65 => exact pv 1
              case q66 =>
                refine' pe_lst ?q67
                case q67 =>
                  refine' pa_cons ?q68 ?q69
                  case q68 =>
                    refine' pe_tup ?q70
                    case q70 =>
                      refine' pa_cons ?q71 ?q72
                      case q71 =>
                        refine' pe_lst ?q73
                        case q73 =>
                          refine' pa_cons ?q74 ?q75
                          case q74 => exact pe_int
                          case q75 => exact pa_nil
                      case q72 =>
                        refine' pa_cons ?q76 ?q77
                        case q76 => exact pe_clsN (by rfl) mf__law_moves
                        case q77 =>
                          refine' pa_cons ?q78 ?q79
                          case q78 => exact pe_int
                          case q79 => exact pa_nil
                  case q69 =>
                    refine' pa_cons ?q80 ?q81
                    case q80 =>
                      refine' pe_tup ?q82
                      case q82 =>
                        refine' pa_cons ?q83 ?q84
                        case q83 =>
                          refine' pe_lst ?q85
                          case q85 =>
                            refine' pa_cons ?q86 ?q87
                            case q86 => exact pe_int
                            case q87 => exact pa_nil
                        case q84 =>
                          refine' pa_cons ?q88 ?q89
                          case q88 => exact pe_clsN (by rfl) mf__law_orders
                          case q89 =>
                            refine' pa_cons ?q90 ?q91
                            case q90 => exact pe_int
                            case q91 => exact pa_nil
                    case q81 => exact pa_nil
          case q62 =>
            refine' pg_tupK (K := K) (n := 3) (by rfl) rfl ?q92
            case q92 =>
              refine' pgs_cons ?q93 ?q94
              case q93 => exact pg_name (i := 2) sc_law.nd (by rfl) (by exact Or.inl rfl)
              case q94 =>
                refine' pgs_cons ?q95 ?q96
                case q95 => exact pg_name (i := 3) sc_law.nd (by rfl) (by exact Or.inl rfl)
                case q96 =>
                  refine' pgs_cons ?q97 ?q98
                  case q97 => exact pg_name (i := 4) sc_law.nd (by rfl) (by exact Or.inr rfl)
                  case q98 => exact pgs_nil
          case q63 =>
            refine' pss_cons ?q99 ?q100
            case q99 =>
              refine' ps_for HP rfl ?q101 ?q102 ?q103
              case q101 =>
                refine' pi_listK (K := K) (by rfl) ?q104
                case q104 => exact pv 2
              case q102 => exact pg_name (i := 5) sc_law.nd (by rfl) (by exact Or.inr rfl)
              case q103 =>
                refine' pss_one ?q105
                case q105 =>
                  refine' ps_if ?q106 ?q107 ?q108
                  case q106 =>
                    refine' pt_not ?q109
                    case q109 =>
                      refine' pt_truK (K := K) (by rfl) ?q110 (fun _ => rfl)
                      case q110 =>
                        refine' pe_callB (callK_all (K := K) (by rfl) (by rfl)) (by rfl) T.n_all b_all ?q111
                        case q111 =>
                          refine' pa_cons ?q112 ?q113
                          case q112 =>
                            refine' pe_comp rfl (csc_of (sc := defScope s_law) (N := ["_law_script", "_law_kinds_here", "_law_doors", "_law_things", "_law_due_here", "_law_door", "_law_cell", "_law_some"]) (cap := [none, some 5, some 4]) (N' := ["_law_thing", "_law_door", "_law_due_here"]) rfl rfl ⟨ rfl, by decide +kernel, by decide +kernel, by decide +kernel, rfl, by decide +kernel ⟩) ?q114 (fun _ _ _ _ => ?q115) (fun _ _ _ _ => ?q116) (fun _ _ _ _ => ?q117)
                            case q114 =>
                              refine' pi_listK (K := K) (by rfl) ?q118
                              case q118 =>
                                refine' pe_callL (i := 3) (k := 5) (CX := CX0) (E := E0) rfl (Or.inl rfl) (hr.mono (by decide)) ?q119 pass0
                                case q119 =>
                                  refine' pa_cons ?q120 ?q121
                                  case q120 =>
                                    refine' pe_callB (callK_len (K := K) (by rfl)) (by rfl) T.n_len b_len ?q122
                                    case q122 =>
                                      refine' pa_cons ?q123 ?q124
                                      case q123 => exact pv 0
                                      case q124 => exact pa_nil
                                  case q121 => exact pa_nil
                            case q115 => exact pg_name (i := 0) (show List.Nodup (["_law_thing", "_law_door", "_law_due_here"] : List Str) from by decide +kernel) (by rfl) (by exact Or.inl rfl)
                            case q116 => exact pif_nil
                            case q117 =>
                              refine' pe_callC (C__law_due T) (hr.mono (by decide)) rfl ?q125
                              case q125 =>
                                refine' pa_cons ?q126 ?q127
                                case q126 => exact pv 1
                                case q127 =>
                                  refine' pa_cons ?q128 ?q129
                                  case q128 => exact pv 0
                                  case q129 =>
                                    refine' pa_cons ?q130 ?q131
                                    case q130 => exact pv 2
                                    case q131 => exact pa_nil
                          case q113 => exact pa_nil
                  case q107 =>
                    refine' pss_one ?q132
                    case q132 =>
                      refine' ps_ret ?q133
                      case q133 => exact pe_bl
                  case q108 => exact pss_nil
            case q100 =>
              refine' pss_one ?q134
              case q134 =>
                refine' ps_for HP rfl ?q135 ?q136 ?q137
                case q135 =>
                  refine' pi_listK (K := K) (by rfl) ?q138
                  case q138 => exact pv 0
                case q136 => exact pg_name (i := 6) sc_law.nd (by rfl) (by exact Or.inl rfl)
                case q137 =>
                  refine' pss_cons ?q139 ?q140
                  case q139 =>
                    refine' ps_set (i := 7) sc_law.nd rfl (Or.inl rfl) ?q141
                    case q141 =>
                      refine' pe_callL (i := 3) (k := 5) (CX := CX0) (E := E0) rfl (Or.inl rfl) (hr.mono (by decide)) ?q142 pass0
                      case q142 =>
                        refine' pa_cons ?q143 ?q144
                        case q143 =>
                          refine' pe_op op_mod ?q145 ?q146
                          case q145 => exact pv 6
                          case q146 =>
                            refine' pe_op op_pow ?q147 ?q148
                            case q147 => exact pe_int
                            case q148 => exact pe_int
                        case q144 => exact pa_nil
                  case q140 =>
                    refine' pss_one ?q149
                    case q149 =>
                      refine' ps_if ?q150 ?q151 ?q152
                      case q150 =>
                        refine' pt_not ?q153
                        case q153 =>
                          refine' pt_truK (K := K) (by rfl) ?q154 (fun _ => rfl)
                          case q154 =>
                            refine' pe_callC (C__law_due T) (hr.mono (by decide)) rfl ?q155
                            case q155 =>
                              refine' pa_cons ?q156 ?q157
                              case q156 =>
                                refine' pe_ix (ix_K (K := K) (by rfl)) ?q158 ?q159 (fun _ _ => rfl)
                                case q158 => exact pv 2
                                case q159 =>
                                  refine' pe_op op_mod ?q160 ?q161
                                  case q160 => exact pv 6
                                  case q161 =>
                                    refine' pe_callB (callK_len (K := K) (by rfl)) (by rfl) T.n_len b_len ?q162
                                    case q162 =>
                                      refine' pa_cons ?q163 ?q164
                                      case q163 => exact pv 2
                                      case q164 => exact pa_nil
                              case q157 =>
                                refine' pa_cons ?q165 ?q166
                                case q165 =>
                                  refine' pe_ix (ix_K (K := K) (by rfl)) ?q167 ?q168 (fun _ _ => rfl)
                                  case q167 => exact pv 7
                                  case q168 =>
                                    refine' pe_op op_mod ?q169 ?q170
                                    case q169 =>
                                      refine' pe_op op_fdiv ?q171 ?q172
                                      case q171 => exact pv 6
                                      case q172 =>
                                        refine' pe_callB (callK_len (K := K) (by rfl)) (by rfl) T.n_len b_len ?q173
                                        case q173 =>
                                          refine' pa_cons ?q174 ?q175
                                          case q174 => exact pv 2
                                          case q175 => exact pa_nil
                                    case q170 =>
                                      refine' pe_callB (callK_len (K := K) (by rfl)) (by rfl) T.n_len b_len ?q176
                                      case q176 =>
                                        refine' pa_cons ?q177 ?q178
                                        case q177 => exact pv 7
                                        case q178 => exact pa_nil
                                case q166 =>
                                  refine' pa_cons ?q179 ?q180
                                  case q179 => exact pv 4
                                  case q180 => exact pa_nil
                      case q151 =>
                        refine' pss_one ?q181
                        case q181 =>
                          refine' ps_ret ?q182
                          case q182 => exact pe_bl
                      case q152 => exact pss_nil
        case q60 =>
          refine' pss_one ?q183
          case q183 =>
            refine' ps_ret ?q184
            case q184 =>
              refine' pe_callC (C__law_due T) (hr.mono (by decide)) rfl ?q185
              case q185 =>
                refine' pa_cons ?q186 ?q187
                case q186 => exact pe_int
                case q187 =>
                  refine' pa_cons ?q188 ?q189
                  case q188 =>
                    refine' pe_op (op_addK (K := K) (by rfl)) ?q190 ?q191
                    case q190 => exact pe_int
                    case q191 =>
                      refine' pe_callB (callK_len (K := K) (by rfl)) (by rfl) T.n_len b_len ?q192
                      case q192 =>
                        refine' pa_cons ?q193 ?q194
                        case q193 => exact pv 0
                        case q194 => exact pa_nil
                  case q189 =>
                    refine' pa_cons ?q195 ?q196
                    case q195 => exact pe_int
                    case q196 => exact pa_nil
end
end My.No
/-! law_k10. -/
namespace My
open PySem L2 No
section
variable {P : Program} {w : World} {K : PySem.W.Frag} {mg : Str → Option Value} {base : Heap} {Z : Adr}
theorem ctrF0 {x : Str} {k : Nat} {ps : List Str} {sp : Sp} (c : Ctr P w K mg base CX0 k x ps sp) (h : k ≤ 5) : ∃ f, mg x = some (.ref f) ∧ CtrF P w K mg base CX0 5 f ps sp := by
  obtain ⟨f, fd, F, hm, hk, hb⟩ := c.ex
  exact ⟨f, hm, fd, F.mono h, hk, hb⟩
/-- a row of the law's table -/
def RowK (P : Program) (w : World) (K : PySem.W.Frag) (mg : Str → Option Value) (base : Heap) (H : Hp) (x : V) : Prop :=
  ∃ (t d f : Addr) (ds : List Int) (k : Nat), x = .ref t ∧ H t = some (.tup [.ref d, .ref f, .int (k : Int)]) ∧ H d = some (.lst (ds.map V.int)) ∧ 0 < ds.length ∧ ds.length ≤ 9 ∧ CtrF P w K mg base CX0 5 f ["_law_cell"] (sp_things K ds k)
theorem RowK.same {H H' : Hp} {x : V} (s : Same H H') (h : RowK P w K mg base H x) : RowK P w K mg base H' x := by
  obtain ⟨t, d, f, ds, k, e, h1, h2, r⟩ := h
  exact ⟨t, d, f, ds, k, e, s _ _ h1, s _ _ h2, r⟩
theorem rowK {H H' : Hp} {t d f : Addr} (ds : List Int) (k : Nat) (s : Same H H') (h1 : H t = some (.tup [.ref d, .ref f, .int (k : Int)])) (h2 : H d = some (.lst (ds.map V.int))) (c : CtrF P w K mg base CX0 5 f ["_law_cell"] (sp_things K ds k))
    (hl : Nat.ble ds.length 9 = true := by rfl) (hp : Nat.ble 1 ds.length = true := by rfl) : RowK P w K mg base H' (.ref t) := ⟨t, d, f, ds, k, rfl, s _ _ h1, s _ _ h2, Nat.le_of_ble_eq_true hp, Nat.le_of_ble_eq_true hl, c⟩
theorem ok_law {f : Addr} {fd : FuncData} (T : Tx K mg Z) (F : Fun K "law" "law" s_law f fd) : FnOk P w K mg base CX0 11 f fd ["_law_script"] (sp_law K) := by
  refine F.ok sc_law (fun vs H Q E h => ?_) (fun cdv A outer s H vs Q E hr h => ?_)
  · obtain ⟨a, ns, rfl, _⟩ := h
    rfl
  · obtain ⟨a, ns, rfl, hS, hz, hTs, kQ⟩ := h
    have hTab := TabH.of T hTs
    obtain ⟨f1, m1, v1⟩ := ctrF0 (P := P) (w := w) (base := base) (C__law_trains T) (by decide)
    obtain ⟨f2, m2, v2⟩ := ctrF0 (P := P) (w := w) (base := base) (C__law_counts T) (by decide)
    obtain ⟨f3, m3, v3⟩ := ctrF0 (P := P) (w := w) (base := base) (C__law_blinds T) (by decide)
    obtain ⟨f4, m4, v4⟩ := ctrF0 (P := P) (w := w) (base := base) (C__law_moves T) (by decide)
    obtain ⟨f5, m5, v5⟩ := ctrF0 (P := P) (w := w) (base := base) (C__law_orders T) (by decide)
    refine ⟨Subtype.val (tmL (P := P) (w := w) (base := base) (outer := outer) (E := E) (H := H) T hr m1 m2 m3 m4 m5), Subtype.property _, ?_⟩
    dsimp only [tmL]
    refine ⟨sz rfl, fun d1 g1 => ?_⟩
    obtain ⟨s1, e1⟩ := fr (.lst [.int 0, .int 1, .int 2, .int 3, .int 4, .int 6, .int 8, .int 9, .int 10]) g1
    refine ⟨sz rfl, fun t1 g2 => ?_⟩
    obtain ⟨s2, e2⟩ := fr (.tup [.ref d1, .ref f1, .int 0]) g2
    refine ⟨sz rfl, fun d2 g3 => ?_⟩
    obtain ⟨s3, e3⟩ := fr (.lst [.int 7, .int 11]) g3
    refine ⟨sz rfl, fun t2 g4 => ?_⟩
    obtain ⟨s4, e4⟩ := fr (.tup [.ref d2, .ref f2, .int 1]) g4
    refine ⟨sz rfl, fun d3 g5 => ?_⟩
    obtain ⟨s5, e5⟩ := fr (.lst [.int 12]) g5
    refine ⟨sz rfl, fun t3 g6 => ?_⟩
    obtain ⟨s6, e6⟩ := fr (.tup [.ref d3, .ref f3, .int 1]) g6
    refine ⟨sz rfl, fun L1 g7 => ?_⟩
    obtain ⟨s7, e7⟩ := fr (.lst [.ref t1, .ref t2, .ref t3]) g7
    refine ⟨_, rfl, ⟨sz rfl, fun d4 g8 => ?_⟩⟩
    obtain ⟨s8, e8⟩ := fr (.lst [.int 13]) g8
    refine ⟨sz rfl, fun t4 g9 => ?_⟩
    obtain ⟨s9, e9⟩ := fr (.tup [.ref d4, .ref f4, .int 2]) g9
    refine ⟨sz rfl, fun d5 g10 => ?_⟩
    obtain ⟨s10, e10⟩ := fr (.lst [.int 14]) g10
    refine ⟨sz rfl, fun t5 g11 => ?_⟩
    obtain ⟨s11, e11⟩ := fr (.tup [.ref d5, .ref f5, .int 0]) g11
    refine ⟨sz rfl, fun L2 g12 => ?_⟩
    obtain ⟨s12, e12⟩ := fr (.lst [.ref t4, .ref t5]) g12
    refine .inr (.inl ⟨L1, L2, _, _, rfl, rfl, ((s8.trans s9).trans ((s10.trans s11).trans s12)) _ _ e7, e12, (by show 3 + 2 ≤ sizeLine; decide), fun L hL => ?_⟩)
    have u12 := Same.upd (o := .lst ([.ref t1, .ref t2, .ref t3] ++ [.ref t4, .ref t5])) hL
    have u11 := s12.trans u12
    have u10 := s11.trans u11
    have u9 := s10.trans u10
    have u8 := s9.trans u9
    have u7 := s8.trans u8
    have u6 := s7.trans u7
    have u5 := s6.trans u6
    have u4 := s5.trans u5
    have u3 := s4.trans u4
    have u2 := s3.trans u3
    have u1 := s2.trans u2
    have hL' : upd (upd (upd (upd (upd (upd (upd (upd (upd (upd (upd (upd (upd H d1 (.lst [.int 0, .int 1, .int 2, .int 3, .int 4, .int 6, .int 8, .int 9, .int 10])) t1 (.tup [.ref d1, .ref f1, .int 0])) d2 (.lst [.int 7, .int 11])) t2 (.tup [.ref d2, .ref f2, .int 1])) d3 (.lst [.int 12])) t3 (.tup [.ref d3, .ref f3, .int 1])) L1 (.lst [.ref t1, .ref t2, .ref t3])) d4 (.lst [.int 13])) t4 (.tup [.ref d4, .ref f4, .int 2])) d5 (.lst [.int 14])) t5 (.tup [.ref d5, .ref f5, .int 0])) L2 (.lst [.ref t4, .ref t5])) L (.lst ([.ref t1, .ref t2, .ref t3] ++ [.ref t4, .ref t5])) L = some (.lst ([.ref t1, .ref t2, .ref t3] ++ [.ref t4, .ref t5])) := upd_same
    have rows : ∀ x ∈ [V.ref t1, .ref t2, .ref t3] ++ [.ref t4, .ref t5], RowK P w K mg base (upd (upd (upd (upd (upd (upd (upd (upd (upd (upd (upd (upd (upd H d1 (.lst [.int 0, .int 1, .int 2, .int 3, .int 4, .int 6, .int 8, .int 9, .int 10])) t1 (.tup [.ref d1, .ref f1, .int 0])) d2 (.lst [.int 7, .int 11])) t2 (.tup [.ref d2, .ref f2, .int 1])) d3 (.lst [.int 12])) t3 (.tup [.ref d3, .ref f3, .int 1])) L1 (.lst [.ref t1, .ref t2, .ref t3])) d4 (.lst [.int 13])) t4 (.tup [.ref d4, .ref f4, .int 2])) d5 (.lst [.int 14])) t5 (.tup [.ref d5, .ref f5, .int 0])) L2 (.lst [.ref t4, .ref t5])) L (.lst ([.ref t1, .ref t2, .ref t3] ++ [.ref t4, .ref t5]))) x := by
      refine al1 (rowK ds0 0 u2 e2 (s2 _ _ e1) v1) (al1 (rowK [7, 11] 1 u4 e4 (s4 _ _ e3) v2) (al1 (rowK [12] 1 u6 e6 (s6 _ _ e5) v3) (al1 (rowK [13] 2 u9 e9 (s9 _ _ e8) v4) (al1 (rowK [14] 0 u11 e11 (s11 _ _ e10) v5) al0))))
    have sB := s1.trans u1
    clear u1 u2 u3 u4 u5 u6 u7 u8 u9 u10 u11 u12
    generalize upd (upd (upd (upd (upd (upd (upd (upd (upd (upd (upd (upd (upd H d1 (.lst [.int 0, .int 1, .int 2, .int 3, .int 4, .int 6, .int 8, .int 9, .int 10])) t1 (.tup [.ref d1, .ref f1, .int 0])) d2 (.lst [.int 7, .int 11])) t2 (.tup [.ref d2, .ref f2, .int 1])) d3 (.lst [.int 12])) t3 (.tup [.ref d3, .ref f3, .int 1])) L1 (.lst [.ref t1, .ref t2, .ref t3])) d4 (.lst [.int 13])) t4 (.tup [.ref d4, .ref f4, .int 2])) d5 (.lst [.int 14])) t5 (.tup [.ref d5, .ref f5, .int 0])) L2 (.lst [.ref t4, .ref t5])) L (.lst ([.ref t1, .ref t2, .ref t3] ++ [.ref t4, .ref t5])) = HB at hL' rows sB ⊢
    generalize [V.ref t1, .ref t2, .ref t3] ++ [.ref t4, .ref t5] = rs at hL' rows ⊢
    have hSB := sB.seq hS
    have hTB := hTab.same sB
    refine ⟨L, rfl, ⟨_, SqL.of hL'⟩, for_list (K := K) (a := L) (xs := rs) (fun i σ H3 => (∃ v2 v3 v4 v5 v6 v7 : Option V, σ = [some (.ref a), some (.ref L1), v2, v3, v4, v5, v6, v7]) ∧ Same HB H3)
      ⟨⟨_, _, _, _, _, _, rfl⟩, Same.refl _⟩ (fun i σ H3 _ h => SqL.of (h.2 _ _ hL')) ?_ ?_⟩
    · rintro i x σ H3 hx ⟨⟨w2, w3, w4, w5, w6, w7, rfl⟩, q3⟩
      obtain ⟨t, d, g, ds, k, rfl, ht, hd, hp, h9, hc⟩ := (rows x (List.mem_of_getElem? hx)).same q3
      refine ⟨t, _, rfl, SqT.of ht, rfl, _, _, rfl, _, _, rfl, _, _, rfl, rfl, ?_⟩
      -- for door in doors
      refine ⟨_, rfl, d, rfl, ⟨_, SqL.of hd⟩, for_list (K := K) (a := d) (xs := ds.map V.int) (fun i σ H4 => (∃ v5 v6 v7 : Option V, σ = [some (.ref a), some (.ref L1), some (.ref d), some (.ref g), some (.int (k : Int)), v5, v6, v7]) ∧ Same H3 H4)
        ⟨⟨_, _, _, rfl⟩, Same.refl _⟩ (fun i σ H4 _ h => SqL.of (h.2 _ _ hd)) ?_ ?_⟩
      · rintro j y σ H4 hy ⟨⟨w5, w6, w7, rfl⟩, q4⟩
        obtain ⟨dr, edr, rfl⟩ := getMap hy
        have hdr : dr ∈ ds := List.mem_of_getElem? edr
        refine ⟨_, rfl, g, _, _, rfl, hc, _, rfl, _, _, rfl, .inl ⟨_, (q3.trans q4).seq hSB, rfl⟩, _, rfl, fun l H5 xs q5 h5 hx0 hx1 hxs => ?_⟩
        refine ⟨l, rfl, ⟨_, SqL.of h5⟩, fun q hq => ?_⟩
        refine turns_list (K := K) (a := l) (xs := xs) (fun i σ H6 => (∃ v, σ = [v, some (.int dr), some (.int (k : Int))]) ∧ Same H5 H6 ∧ H6 q = some (.lst ((List.replicate i true).map V.bl)))
          ⟨⟨_, rfl⟩, Same.upd hq, upd_same⟩ (fun i σ H6 _ h => SqL.of (h.2.1 _ _ h5)) ?_ ?_
        · rintro i6 x6 σ H6 hx6 ⟨⟨v, rfl⟩, q6, h6⟩
          refine ⟨_, rfl, _, rfl, _, rfl, dr, x6, k, rfl, (hxs x6 (List.mem_of_getElem? hx6) dr hdr).same q6, hTB.same (((q3.trans q4).trans q5).trans q6), fun H7 q7 => ?_⟩
          have hi6 := (List.getElem?_eq_some_iff.mp hx6).1
          refine ⟨_, q7 _ _ h6, ?_, ⟨_, rfl⟩, Same.updN (q6.trans q7) hq, ?_⟩
          · rw [List.length_map, List.length_replicate]
            exact small1000 (by omega)
          · rw [upd_same, List.replicate_succ', List.map_append]
            rfl
        rintro σ H6 ⟨_, q6, h6⟩
        refine ⟨q, _, rfl, SqL.of h6, _, rfl, ?_⟩
        rw [show (List.replicate xs.length true).all id = true from List.all_eq_true.mpr fun b hb => (List.mem_replicate.mp hb).2]
        exact iteF ⟨⟨_, _, _, rfl⟩, (q4.trans q5).trans q6⟩
      rintro σ H4 ⟨⟨w5, w6, w7, rfl⟩, q4⟩
      -- for cell in script
      refine ⟨_, rfl, a, rfl, ⟨_, (q3.trans q4).seq hSB⟩, for_list (K := K) (a := a) (xs := ns.map V.int) (fun i σ H5 => (∃ v5 v6 v7 : Option V, σ = [some (.ref a), some (.ref L1), some (.ref d), some (.ref g), some (.int (k : Int)), v5, v6, v7]) ∧ Same H4 H5)
        ⟨⟨_, _, _, rfl⟩, Same.refl _⟩ (fun i σ H5 _ h => ((q3.trans q4).trans h.2).seq hSB) ?_ ?_⟩
      · rintro j y σ H5 hy ⟨⟨u5, u6, u7, rfl⟩, q5⟩
        obtain ⟨c, ec, rfl⟩ := getMap hy
        have hd5 := (q4.trans q5) _ _ hd
        have dl : (ds.map V.int).length = ds.length := List.length_map ..
        refine ⟨_, rfl, g, _, _, rfl, hc, _, rfl, 10, 60, rfl, rfl, ⟨by decide, by decide, by decide⟩, _, _, rfl, rfl, (by show (0 : Int) < 10 ^ (60 : Int).toNat; decide), _, rfl, fun l H6 xs q6 h6 hx0 hx1 hxs => ?_⟩
        obtain ⟨m, hm⟩ : ∃ m : Nat, c % ((ds.length : Nat) : Int) = (m : Int) := ⟨(c % (ds.length : Int)).toNat, by have := Int.emod_nonneg c (show (ds.length : Int) ≠ 0 by omega); omega⟩
        have hmlt : m < ds.length := by have := Int.emod_lt_of_pos c (show (0 : Int) < (ds.length : Int) by omega); omega
        obtain ⟨dr, edr⟩ : ∃ dr, ds[m]? = some dr := ⟨_, List.getElem?_eq_getElem hmlt⟩
        have edV : (ds.map V.int)[m]? = some (.int dr) := by rw [List.getElem?_map, edr]; rfl
        obtain ⟨n, hn⟩ : ∃ n : Nat, c / ((ds.length : Nat) : Int) % ((xs.length : Nat) : Int) = (n : Int) := ⟨(c / (ds.length : Int) % (xs.length : Int)).toNat, by have := Int.emod_nonneg (c / (ds.length : Int)) (show (xs.length : Int) ≠ 0 by omega); omega⟩
        have hnlt : n < xs.length := by have := Int.emod_lt_of_pos (c / (ds.length : Int)) (show (0 : Int) < (xs.length : Int) by omega); omega
        obtain ⟨x, ex⟩ : ∃ x, xs[n]? = some x := ⟨_, List.getElem?_eq_getElem hnlt⟩
        have hd6 := q6 _ _ hd5
        refine ⟨_, rfl, _, rfl, _, rfl, _, _, rfl, .inl ⟨_, SqL.of hd6, rfl⟩, _, _, rfl, rfl, ?_, ?_⟩
        · rw [dl]; show (0 : Int) < _; omega
        rw [dl]
        dsimp only
        rw [hm]
        refine .inl ⟨d, _, _, _, rfl, rfl, SqL.of hd6, atI_nat edV, ?_⟩
        refine ⟨_, rfl, _, rfl, _, rfl, _, _, rfl, .inl ⟨_, SqL.of hd6, rfl⟩, _, _, rfl, rfl, ?_, ?_⟩
        · rw [dl]; exact ⟨by show (0 : Int) < _; omega, by show _ < (1073741824 : Int); omega⟩
        rw [dl]
        refine ⟨_, rfl, _, _, rfl, .inl ⟨_, SqL.of h6, rfl⟩, _, _, rfl, rfl, ?_, ?_⟩
        · show (0 : Int) < _; omega
        dsimp only
        rw [hn]
        refine .inl ⟨l, _, _, _, rfl, rfl, SqL.of h6, atI_nat ex, ?_⟩
        refine ⟨_, rfl, dr, x, k, rfl, hxs x (List.mem_of_getElem? ex) dr (List.mem_of_getElem? edr), hTB.same ((q3.trans q4).trans (q5.trans q6)), fun H7 q7 => ⟨_, rfl, iteF ?_⟩⟩
        exact ⟨⟨_, _, _, rfl⟩, (q5.trans q6).trans q7⟩
      rintro σ H5 ⟨⟨u5, u6, u7, rfl⟩, q5⟩
      exact ⟨⟨_, _, _, _, _, _, rfl⟩, (q3.trans q4).trans q5⟩
    rintro σ H3 ⟨⟨w2, w3, w4, w5, w6, w7, rfl⟩, q3⟩
    refine ⟨_, rfl, _, _, rfl, .inl ⟨_, q3.seq hSB, rfl⟩, .inl ⟨_, _, rfl, rfl, ?_⟩⟩
    refine ⟨11, _, 1, rfl, .inr (.inr (.inr (.inl ⟨rfl, rfl, _, rfl, ?_⟩))), hTB.same q3, fun H4 _ => kQ H4⟩
    omega
end
end My
theorem PySem.Challenge.cw_sidings_k10_refused_holds : PySem.Challenge.rw_sidings_k10_refused.Holds :=
  My.early My.ok_law
#print axioms PySem.Challenge.cw_sidings_k10_refused_holds
