import PyProof.Rows.All
import Wide.All
import OpenK.AllK
import Wide.FinOn
import Lean
import PyProof.EqAt
import PyProof.EqKinds
import PyProof.TupleCall
import PyProof.StationsW
import PyProof.ExcInit
import PyProof.ExcClass2
import PyProof.NsDelKeeps
import PyProof.RulesAs
import PyProof.ListRange
import PyProof.Rows.SortShell
import KE.KSortKey
import KE.KLam
import KE.KNestM
import KE.KRevIter
import PyProof.Rows.Range3
import PyProof.Rows.CallKwBuiltin
import PyProof.WalkInts
import PySem.Challenge.RW_sidings_k05_whole_fewest
open PySem.W (instObj lookIn plainGet isFn plainOver makesIn emptyDict keepIn kitOne kia_one callWith_K methodCall_KW fnOf codeIn kqdP kqdOk nsIn tabIn kla_obj envX mg_of mg_none_of)
set_option Elab.async false
set_option linter.all false
set_option maxRecDepth 100000
set_option maxHeartbeats 4000000
namespace L2
open PySem PySem.W
def runBy (st : SharedT -> Thread -> Option (SharedT × Thread)) (n₀ : Nat) (ann : Option Value) : Nat -> SharedT -> Thread -> Option SharedT
 | 0, _, _ => none
 | n + 1, s, t => match through t with
  | true => some s
  | false => match stepOk n₀ ann t with
   | false => none
   | true => match st s t with
    | some (s', t') => runBy st n₀ ann n s' t'
    | none => none
theorem runBy_top {tb : String -> Option Builtin} {p : Program} {w : World} {n₀ : Nat} {ann : Option Value} : ∀ (n : Nat) (s r : SharedT) (t : Thread), runBy (stepT (denote tb) p w) n₀ ann n s t = some r -> topRun tb p w n₀ ann n s.abs t = some r.abs
 | 0, _, _, _, h => by cases h
 | n + 1, s, r, t, h => by
  unfold runBy at h
  unfold topRun
  cases ht : through t with
  | true => rw [ht] at h; cases h; rfl
  | false =>
   rw [ht] at h
   cases hk : stepOk n₀ ann t with
   | false => rw [hk] at h; cases h
   | true =>
    rw [hk] at h
    cases hs : stepT (denote tb) p w s t with
    | none => rw [hs] at h; cases h
    | some x =>
     obtain ⟨s', t'⟩ := x
     rw [hs] at h
     rw [stepT_spec hs]
     exact runBy_top n s' r t' h
theorem left_of_T {p q : Program} {loose : List Str} {Xt : Shared -> Bool} {α : Type} {Yf : Shared -> α} {Ya : World -> α} {N : Nat} {g0 : Bool} {H₀ : Params -> Heap} {T₀ : Params -> BT} {life : Life} {d₀ : Drawn} {k₀ m₀ : Nat} {ann : Option Value}
  (open_ : ∀ w : World, (fencedOpening treeTable p w N).map (fun s => (s.heap, s.gens, s.drawn, s.toks)) = some (H₀ w.params, Array.mk [], d₀, k₀))
  (tree : ∀ P, absHeap (T₀ P) m₀ life = H₀ P)
  (size : ∀ w : World, ((H₀ w.params).isNs mainGlobals && (Array.mk [] : Array GenState).size == 0, (H₀ w.params).objs.size, (H₀ w.params).nsMap mainGlobals "__annotations__") = (true, m₀, ann))
  (obs : ∀ (w : World) (os : OsState), (runBy (stepT (denote treeTable) p w) m₀ ann N ⟨T₀ w.params, m₀, life, Array.mk [], d₀, k₀, os⟩ (topStub p)).map (fun r => ((staticsOk (importedModules p.main.body) (H₀ w.params) r.abs.heap && namesBound p r.abs.heap && gensDone r.abs && laidKept (H₀ w.params) r.abs.heap),
    openSeen q loose (importedModules p.main.body) Xt g0 r.abs, Yf r.abs)) = some (true, openGood q loose, Ya w)) : LeftO p q loose Xt Yf Ya N g0 := fun w => by
 obtain ⟨⟨h, gs, d, k, os⟩, e, e'⟩ := Option.map_eq_some_iff.mp (open_ w)
 obtain ⟨rfl, rfl, rfl, rfl⟩ : h = H₀ w.params /\ gs = Array.mk [] /\ d = d₀ /\ k = k₀ := by simpa using e'
 obtain ⟨z1, z2, z3⟩ : _ /\ _ /\ _ := by simpa only [Prod.mk.injEq] using size w
 obtain ⟨r, er, lk⟩ := Option.map_eq_some_iff.mp (obs w os)
 obtain ⟨l1, l2, l3⟩ : _ /\ _ /\ _ := by simpa only [Prod.mk.injEq] using lk
 have rr := runBy_top _ _ _ _ er
 unfold SharedT.abs at rr
 dsimp only at rr
 rw [tree] at rr
 have t : topFrom treeTable p w N ⟨H₀ w.params, Array.mk [], d, k, os⟩ = some r.abs := by
  unfold topFrom
  dsimp only
  rw [z1, z2, z3]
  show Option.bind _ _ = _
  rw [rr]
  show (match staticsOk (importedModules p.main.body) (H₀ w.params) r.abs.heap && namesBound p r.abs.heap && gensDone r.abs && laidKept (H₀ w.params) r.abs.heap with | true => _ | false => _) = _
  rw [l1]
  rfl
 unfold openEnds
 rw [e]
 show (topFrom treeTable p w N _).map _ = _
 rw [t]
 exact congrArg some (Prod.ext l2 l3)
theorem left_of_T3 {p q : Program} {loose : List Str} {Xt : Shared -> Bool} {α : Type} {Yf : Shared -> α} {Ya : World -> α} {N : Nat} {g0 : Bool} {H₀ : Params -> Heap} {T₀ : Params -> BT} {life : Life} {d₀ : Drawn} {k₀ m₀ : Nat} {ann : Option Value}
  (open_ : ∀ w : World, (fencedOpening treeTable p w N).map (fun s => (s.heap, s.gens, s.drawn, s.toks)) = some (H₀ w.params, Array.mk [], d₀, k₀))
  (tree : ∀ P, absHeap (T₀ P) m₀ life = H₀ P)
  (size : ∀ w : World, ((H₀ w.params).isNs mainGlobals && (Array.mk [] : Array GenState).size == 0, (H₀ w.params).objs.size, (H₀ w.params).nsMap mainGlobals "__annotations__") = (true, m₀, ann))
  (oa : ∀ (w : World) (os : OsState), (runBy (stepT (denote treeTable) p w) m₀ ann N ⟨T₀ w.params, m₀, life, Array.mk [], d₀, k₀, os⟩ (topStub p)).map (fun r => (staticsOk (importedModules p.main.body) (H₀ w.params) r.abs.heap && namesBound p r.abs.heap && gensDone r.abs && laidKept (H₀ w.params) r.abs.heap)) = some true)
  (ob : ∀ (w : World) (os : OsState), (runBy (stepT (denote treeTable) p w) m₀ ann N ⟨T₀ w.params, m₀, life, Array.mk [], d₀, k₀, os⟩ (topStub p)).map (fun r => openSeen q loose (importedModules p.main.body) Xt g0 r.abs) = some (openGood q loose))
  (obs : ∀ (w : World) (os : OsState), (runBy (stepT (denote treeTable) p w) m₀ ann N ⟨T₀ w.params, m₀, life, Array.mk [], d₀, k₀, os⟩ (topStub p)).map (fun r => Yf r.abs) = some (Ya w)) : LeftO p q loose Xt Yf Ya N g0 := by
 refine left_of_T open_ tree size fun w os => ?_
 obtain ⟨r, e, h1⟩ := Option.map_eq_some_iff.mp (oa w os)
 have h2 := ob w os
 have h3 := obs w os
 rw [e] at h2 h3 ⊢
 rw [Option.map_some] at h2 h3 ⊢
 rw [h1, Option.some.inj h2, Option.some.inj h3]
def treeOf (l : List Obj) : BT := ((l.zip (List.range l.length)).foldl (fun t x => t.ins x.2 x.1) .nil)
end L2
namespace My
open PySem PySem.W
def pwv : Program := view PySem.Challenge.pw_sidings_k05_whole_fewest [0, 2, 3, 4, 5, 7, 8, 9, 10, 11, 12, 13, 14, 16, 17, 18, 20, 21, 22, 23, 24, 25, 26, 27, 28, 29, 30, 31, 32, 34, 35, 36, 37, 38, 40, 41, 42, 43, 44, 45, 46]
open PyProof.Rows
set_option maxRecDepth 100000 in
set_option maxHeartbeats 0 in
theorem seen_a (w : World) (os : OsState) : (L2.runBy (stepT (denote treeTable) PySem.Challenge.pw_sidings_k05_whole_fewest w) 11 (some (.ref 6)) 20000 ⟨L2.treeOf (boot_heap w.params).objs.toList, 11, (boot_heap (aWorld 1).params).life, Array.mk [], boot_drawn, boot_toks, os⟩ (topStub PySem.Challenge.pw_sidings_k05_whole_fewest)).map (fun r => (staticsOk (importedModules PySem.Challenge.pw_sidings_k05_whole_fewest.main.body) (boot_heap w.params) r.abs.heap && namesBound PySem.Challenge.pw_sidings_k05_whole_fewest r.abs.heap && gensDone r.abs && laidKept (boot_heap w.params) r.abs.heap)) = some true := by
 rewrite [PySem.W.Fast.te10156331382660048174, PySem.W.Fast.te11892475500146522536, PySem.W.Fast.te14364793385576792824]
 kernel_rfl
set_option maxRecDepth 100000 in
set_option maxHeartbeats 0 in
theorem seen_b (w : World) (os : OsState) : (L2.runBy (stepT (denote treeTable) PySem.Challenge.pw_sidings_k05_whole_fewest w) 11 (some (.ref 6)) 20000 ⟨L2.treeOf (boot_heap w.params).objs.toList, 11, (boot_heap (aWorld 1).params).life, Array.mk [], boot_drawn, boot_toks, os⟩ (topStub PySem.Challenge.pw_sidings_k05_whole_fewest)).map (fun r => openSeen My.pwv [] (importedModules PySem.Challenge.pw_sidings_k05_whole_fewest.main.body) (fun s => xlAt My.pwv [] s && recOk PySem.Challenge.rw_sidings_k05_whole_fewest.row.records s) true r.abs) = some (openGood My.pwv []) := by
 rewrite [PySem.W.Fast.te10156331382660048174, PySem.W.Fast.te11892475500146522536, PySem.W.Fast.te14364793385576792824, PySem.W.Fast.te4187177175401517315]
 kernel_rfl
end My
namespace L2
open PySem PySem.Spec PyProof.Rows
abbrev Key := Sum Int Str
def keyIs : Key -> Value -> Bool
 | .inl k, v => Value.isInt k v
 | .inr x, v => Value.isStrOf x v
def keyH (w : World) : Key -> Int
 | .inl k => hashInt k
 | .inr x => hashStr w x
theorem keyIs_shape : ∀ {k : Key} {v : Value}, keyIs k v = true -> (∃ i t, k = Sum.inl i /\ v = Value.int i t) \/ (∃ x t, k = Sum.inr x /\ v = Value.str x t)
 | .inl i, v, h => by
  obtain ⟨t, e⟩ := Value.isInt_shape (k := i) (v := v) h
  exact .inl ⟨i, t, rfl, e⟩
 | .inr x, v, h => by
  obtain ⟨t, e⟩ := Value.isStrOf_shape (x := x) (v := v) h
  exact .inr ⟨x, t, rfl, e⟩
theorem keyIs_int (i : Int) (t : Tok) : keyIs (.inl i) (.int i t) = true := by simp [keyIs, Value.isInt]
theorem keyIs_str (x : Str) (t : Tok) : keyIs (.inr x) (.str x t) = true := by simp [keyIs, Value.isStrOf]
theorem key_ll (a b : Int) : decide ((Sum.inl a : Key) = Sum.inl b) = (a == b) := by
 by_cases e : a = b
 ·subst e; simp
 ·have h : ¬ (Sum.inl a : Key) = Sum.inl b := fun q => e (Sum.inl.inj q)
  rw [decide_eq_false h]
  exact (beq_eq_false_iff_ne.mpr e).symm
theorem key_rr (a b : Str) : decide ((Sum.inr a : Key) = Sum.inr b) = decide (a = b) := by
 by_cases e : a = b
 ·subst e; simp
 ·have h : ¬ (Sum.inr a : Key) = Sum.inr b := fun q => e (Sum.inr.inj q)
  rw [decide_eq_false h, decide_eq_false e]
theorem key_lr (a : Int) (b : Str) : decide ((Sum.inl a : Key) = Sum.inr b) = false := decide_eq_false (fun q => nomatch q)
theorem key_rl (a : Str) (b : Int) : decide ((Sum.inr a : Key) = Sum.inl b) = false := decide_eq_false (fun q => nomatch q)
def mixKind (prog : Program) (w : World) : PySem.KeyKind prog w Key where
 is := keyIs
 hash := keyH w
 inj := fun v a b ha hb => by
  rcases keyIs_shape ha with ⟨i, t, rfl, rfl⟩ | ⟨x, t, rfl, rfl⟩
  ·rcases keyIs_shape hb with ⟨j, u, rfl, e⟩ | ⟨y, u, rfl, e⟩
   ·injection e with e1 _; rw [e1]
   ·exact nomatch e
  ·rcases keyIs_shape hb with ⟨j, u, rfl, e⟩ | ⟨y, u, rfl, e⟩
   ·exact nomatch e
   ·injection e with e1 _; rw [e1]
 byValue := fun k v h => by
  rcases keyIs_shape h with ⟨i, t, rfl, rfl⟩ | ⟨x, t, rfl, rfl⟩ <;> rfl
 pyHash := fun hv h => by
  rcases keyIs_shape hv with ⟨i, t, rfl, rfl⟩ | ⟨x, t, rfl, rfl⟩
  ·exact wpAny_pyHash_int h
  ·exact wpAny_pyHash_str h
 eqBool := fun hu hv h => by
  rcases keyIs_shape hu with ⟨i, t, rfl, rfl⟩ | ⟨x, t, rfl, rfl⟩
  ·rcases keyIs_shape hv with ⟨j, u, rfl, rfl⟩ | ⟨y, u, rfl, rfl⟩
   ·rw [key_ll] at h; exact wpAny_eqBool_int h
   ·rw [key_lr] at h; exact SeqAt.EqAt.int_str i t y u _ _ _ _ h
  ·rcases keyIs_shape hv with ⟨j, u, rfl, rfl⟩ | ⟨y, u, rfl, rfl⟩
   ·rw [key_rl] at h; exact SeqAt.EqAt.str_int x t j u _ _ _ _ h
   ·rw [key_rr] at h; exact wpAny_eqBool_str h
 «strs» := fun k x t v h => by
  rcases keyIs_shape h with ⟨i, u, rfl, e⟩ | ⟨y, u, rfl, e⟩
  ·exact nomatch e
  ·injection e with e1 _
   subst e1
   cases v <;> rfl
theorem mixKind_int (prog : Program) (w : World) (i : Int) (t : Tok) : (mixKind prog w).is (.inl i) (.int i t) = true := keyIs_int i t
theorem mixKind_str (prog : Program) (w : World) (x : Str) (t : Tok) : (mixKind prog w).is (.inr x) (.str x t) = true := keyIs_str x t
end L2
namespace L2
open PySem PySem.Spec PyProof.Rows
inductive V where
 | non | bl (b : Bool) | int (i : Int) | str (x : Str) | byt (b : Array UInt8) | flt (b : UInt64) | ref (a : Addr) | ty (n : String)
 deriving DecidableEq
def RelV : V -> Value -> Prop
 | .non, u => u = Value.none
 | .bl b, u => u = Value.bool b
 | .int i, u => ∃ t, u = Value.int i t
 | .str x, u => ∃ t, u = Value.str x t
 | .byt b, u => ∃ t, u = Value.bytes b t
 | .flt b, u => ∃ t, u = Value.float b t
 | .ref a, u => u = Value.ref a
 | .ty n, u => u = Value.type n
abbrev Vals : List V -> List Value -> Prop := Paired RelV
theorem Vals.length {xs : List V} {us : List Value} (r : Vals xs us) : xs.length = us.length := Paired.length r
theorem Vals.get : ∀ {xs : List V} {us : List Value} {i : Nat} {x : V}, Vals xs us -> xs[i]? = some x -> ∃ u, us[i]? = some u /\ RelV x u
 | _, _, _, _, .nil, e => by simp at e
 | _, _, 0, _, .cons r _, e => by simp at e; subst e; exact ⟨_, rfl, r⟩
 | _, _, i + 1, x, .cons _ t, e => by
  obtain ⟨u, h1, h2⟩ := Vals.get (i := i) (x := x) t (by simpa using e)
  exact ⟨u, by simpa using h1, h2⟩
theorem Vals.set {x : V} {u : Value} (r : RelV x u) : ∀ {xs : List V} {us : List Value} (i : Nat), Vals xs us -> Vals (xs.set i x) (us.set i u)
 | _, _, _, .nil => .nil
 | _, _, 0, .cons _ t => .cons r t
 | _, _, i + 1, .cons q t => .cons q (Vals.set r i t)
theorem Vals.append : ∀ {xs ys : List V} {us ws : List Value}, Vals xs us -> Vals ys ws -> Vals (xs ++ ys) (us ++ ws)
 | _, _, _, _, .nil, s => s
 | _, _, _, _, .cons r t, s => .cons r (Vals.append t s)
theorem Vals.take : ∀ {xs : List V} {us : List Value} (n : Nat), Vals xs us -> Vals (xs.take n) (us.take n)
 | _, _, 0, _ => .nil
 | _, _, _ + 1, .nil => .nil
 | _, _, n + 1, .cons r t => .cons r (Vals.take n t)
theorem Vals.drop : ∀ {xs : List V} {us : List Value} (n : Nat), Vals xs us -> Vals (xs.drop n) (us.drop n)
 | _, _, 0, r => r
 | _, _, _ + 1, .nil => .nil
 | _, _, n + 1, .cons _ t => Vals.drop n t
def RelO : Option V -> Option Value -> Prop
 | some v, some u => RelV v u
 | none, none => True
 | _, _ => False
def KV {κ : Type} : List (κ × V) -> List (κ × Value) -> Prop := Paired fun (p : κ × V) (q : κ × Value) => p.1 = q.1 /\ RelV p.2 q.2
def kV : Key -> V
 | .inl i => .int i
 | .inr x => .str x
inductive HO where
 | lst (xs : List V)
 | tup (xs : List V)
 | dK (kvs : List (Key × V)) | dT (kvs : List (List Key × V))
 | set (S : Int -> Bool) (n : Nat)
 | ins (C dx : Addr) (fs : List (Str × V))
 | own (x : Addr)
 | xd (fs : List (Str × V))
 | met (f x : Addr)
 | rng (lo hi : Int)
 | frz (o : Obj) (u : HO)
 | tbl (pl : Pos) (q : Str)
 | ext (φ : Heap -> Prop)
abbrev Hp := Addr -> Option HO
def upd (H : Hp) (a : Addr) (o : HO) : Hp := fun b => if b = a then some o else H b
theorem upd_same {H : Hp} {a : Addr} {o : HO} : upd H a o a = some o := by unfold upd; rw [if_pos rfl]
theorem upd_ne {H : Hp} {a b : Addr} {o : HO} (h : b ≠ a) : upd H a o b = H b := by unfold upd; rw [if_neg h]
theorem ne_of {H : Hp} {a b : Addr} {o u : HO} (h : H a = some o) (h' : H b = some u) (d : o ≠ u) : a ≠ b := by
 intro e; subst e; rw [h] at h'; exact d (Option.some.inj h')
theorem ne_of_none {H : Hp} {a b : Addr} {o : HO} (h : H a = some o) (h' : H b = none) : a ≠ b := by
 intro e; subst e; rw [h] at h'; cases h'
section
variable (P : Program) (w : World)
def ObjOk (H : Hp) (h : Heap) (a : Addr) : HO -> Prop
 | .lst xs => xs.length <= sizeLine /\ ∃ (its : List Value) (n : Nat), Vals xs its /\ h.get? a = some { cls := .type "list", data := .seq its.toArray n }
 | .tup xs => xs.length <= sizeLine /\ ∃ its : List Value, Vals xs its /\ IsTup h a its.toArray
 | .dK kvs => kvs.length <= sizeLine /\ (a == sysModules) = false /\ ∃ vs, KV kvs vs /\ h.DictOf (mixKind P w) a vs
 | .dT kvs => kvs.length <= sizeLine /\ (a == sysModules) = false /\ ∃ xs : List (List Key × Addr × Value),
   Paired (fun (p : List Key × V) (q : List Key × Addr × Value) => p.1 = q.1 /\ H q.2.1 = some (.tup (p.1.map kV)) /\ RelV p.2 q.2.2) kvs xs /\
   ∃ o es ep, h.get? a = some o /\ o.ExactDict /\ o.data = .dict es ep /\ es.toList = xs.map (entryOfKey (tupleKind (mixKind P w))) /\ (xs.map (·.1)).Nodup
 | .set S n => h.SetOf (intKind P w) a S n
 | .ins C dx fs => H dx = some (.own a) /\ fs.length <= 1000 /\ dx ≠ a /\ h.get? a = some (instObj C dx) /\
   ∃ mA, h.Ns1 dx mA /\ (∀ f, RelO (fs.lookup f) (mA f)) /\ PySem.Within mA (fs.map (·.1))
 | .own _ => ∃ o, h.get? a = some o
 | .xd fs => ∃ mA, h.Ns1 a mA /\ ∀ f, RelO (fs.lookup f) (mA f)
 | .rng lo hi => ∃ t u v, h.get? a = some { cls := .type "range", data := .fields #[.int lo t, .int hi u, .int 1 v] }
 | .frz o u => h.get? a = some o /\ ObjOk H h a u
 | .tbl pl q => ∃ ps, h.get? a = some (PySem.W.tabObj ps) /\ TriplesOk ps.toList /\
   ∀ cv, codeAmong pl ps.toList = some cv -> ∃ c oc vs t, cv = .ref c /\ H c = some (.frz oc (.own a)) /\ oc.data = .fields vs /\ vs[1]? = some (.str q t)
 | .met f x => h.get? a = some (PySem.W.methodObj (.ref f) (.ref x))
 | .ext φ => φ h /\ (∃ o, h.get? a = some o) /\ ∀ h1 h2 : Heap, φ h1 -> (∀ o, h1.get? a = some o -> h2.get? a = some o) -> φ h2
def HOk (H : Hp) (h : Heap) : Prop := ∀ a o, H a = some o -> ObjOk P w H h a o
end
section
variable {P : Program} {w : World} {H H' : Hp} {h h' : Heap} {a : Addr} {o : HO}
theorem ObjOk.lt (x : ObjOk P w H h a o) : a < h.objs.size := by
 cases o with
 | lst xs => obtain ⟨_, _, _, _, e⟩ := x; exact Heap.lt_size e
 | tup xs => obtain ⟨_, _, _, p⟩ := x; exact p.lt
 | dK kvs => obtain ⟨_, _, _, _, o, _, _, e, _⟩ := x; exact Heap.lt_size e
 | dT kvs => obtain ⟨_, _, _, _, o, _, _, e, _⟩ := x; exact Heap.lt_size e
 | set S n => obtain ⟨o, _, _, _, e, _⟩ := x; exact Heap.lt_size e
 | ins C dx fs => obtain ⟨_, _, _, e, _⟩ := x; exact Heap.lt_size e
 | own y => obtain ⟨_, e⟩ := x; exact Heap.lt_size e
 | xd fs => obtain ⟨_, ⟨_, _, _, e, _⟩, _⟩ := x; exact Heap.lt_size e
 | rng lo hi => obtain ⟨_, _, _, e⟩ := x; exact Heap.lt_size e
 | frz ob u => obtain ⟨e, _⟩ := x; exact Heap.lt_size e
 | tbl pl q => obtain ⟨_, e, _⟩ := x; exact Heap.lt_size e
 | met f y => exact Heap.lt_size (show h.get? a = some _ from x)
 | ext φ => obtain ⟨_, ⟨_, e⟩, _⟩ := x; exact Heap.lt_size e
theorem Paired.mapP {α β : Type} {F G : α -> β -> Prop} : ∀ {l₁ : List α} {l₂ : List β}, Paired F l₁ l₂ -> (∀ a b, F a b -> G a b) -> Paired G l₁ l₂
 | _, _, .nil, _ => .nil
 | _, _, .cons r t, f => .cons (f _ _ r) (Paired.mapP t f)
theorem ObjOk.stay (x : ObjOk P w H h a o) (k : ∀ b u, (b = a \/ H b = some (.own a)) -> h.get? b = some u -> h'.get? b = some u)
  (ho : ∀ b, H b = some (.own a) -> H' b = some (.own a)) (ht : ∀ b xs, H b = some (.tup xs) -> H' b = some (.tup xs)) (hf : ∀ b ob u, H b = some (.frz ob u) -> H' b = some (.frz ob u)) : ObjOk P w H' h' a o := by
 induction o with
 | lst xs => obtain ⟨z, its, n, r, e⟩ := x; exact ⟨z, its, n, r, k _ _ (.inl rfl) e⟩
 | tup xs => obtain ⟨z, its, r, ob, e, c⟩ := x; exact ⟨z, its, r, ob, k _ _ (.inl rfl) e, c⟩
 | dK kvs => obtain ⟨z, y, vs, r, ob, es, ep, e, c⟩ := x; exact ⟨z, y, vs, r, ob, es, ep, k _ _ (.inl rfl) e, c⟩
 | dT kvs =>
  obtain ⟨z, y, xs, r, ob, es, ep, e, c⟩ := x
  exact ⟨z, y, xs, Paired.mapP r fun p q z => ⟨z.1, ht _ _ z.2.1, z.2.2⟩, ob, es, ep, k _ _ (.inl rfl) e, c⟩
 | set S n => obtain ⟨ob, es, ep, t, e, c⟩ := x; exact ⟨ob, es, ep, t, k _ _ (.inl rfl) e, c⟩
 | ins C dx fs =>
  obtain ⟨d, z, ne, e, mA, ⟨od, es, ep, e2, c⟩, r⟩ := x
  exact ⟨ho _ d, z, ne, k _ _ (.inl rfl) e, mA, ⟨od, es, ep, k _ _ (.inr d) e2, c⟩, r⟩
 | own y => obtain ⟨ob, e⟩ := x; exact ⟨ob, k _ _ (.inl rfl) e⟩
 | xd fs => obtain ⟨mA, ⟨od, es, ep, e, c⟩, r⟩ := x; exact ⟨mA, ⟨od, es, ep, k _ _ (.inl rfl) e, c⟩, r⟩
 | rng lo hi => obtain ⟨t, u, v, e⟩ := x; exact ⟨t, u, v, k _ _ (.inl rfl) e⟩
 | frz ob u ih => obtain ⟨e, q⟩ := x; exact ⟨k _ _ (.inl rfl) e, ih q⟩
 | tbl pl q =>
  obtain ⟨ps, e, tr, hc⟩ := x
  refine ⟨ps, k a _ (.inl rfl) e, tr, fun cv ecv => ?_⟩
  obtain ⟨c, oc, vs, t, e1, e2, e3⟩ := hc cv ecv
  exact ⟨c, oc, vs, t, e1, hf _ _ _ e2, e3⟩
 | met f y =>
  have e : h.get? a = some (PySem.W.methodObj (.ref f) (.ref y)) := x
  show h'.get? a = some (PySem.W.methodObj (.ref f) (.ref y))
  exact k a _ (.inl rfl) e
 | ext φ => obtain ⟨p, ⟨o, e⟩, st⟩ := x; exact ⟨st _ _ p fun o q => k _ _ (.inl rfl) q, ⟨o, k _ _ (.inl rfl) e⟩, st⟩
theorem HOk.lt (x : HOk P w H h) (e : H a = some o) : a < h.objs.size := (x a o e).lt
theorem HOk.fresh (x : HOk P w H h) (e : h.objs.size <= a) : H a = none := by
 cases q : H a with
 | none => rfl
 | some u => exact absurd (Nat.lt_of_lt_of_le (x.lt q) e) (Nat.lt_irrefl _)
theorem HOk.kept (x : HOk P w H h) (k : ∀ b u, h.get? b = some u -> h'.get? b = some u) : HOk P w H h' := fun a o e =>
 (x a o e).stay (fun b u _ q => k b u q) (fun _ q => q) (fun _ _ q => q) fun _ _ _ q => q
theorem HOk.laid (x : HOk P w H h) (k : ∀ b u, h.get? b = some u -> h'.get? b = some u) (hp : h.objs.size <= a) (new : ObjOk P w (upd H a o) h' a o) : HOk P w (upd H a o) h' := fun b u e => by
 have hn := x.fresh hp
 by_cases hb : b = a
 ·subst hb; rw [upd_same] at e; cases e; exact new
 ·rw [upd_ne hb] at e
  exact (x b u e).stay (fun c v _ q => k c v q) (fun c q => by rw [upd_ne (ne_of_none q hn)]; exact q) (fun c xs q => by rw [upd_ne (ne_of_none q hn)]; exact q) fun c ob y q => by rw [upd_ne (ne_of_none q hn)]; exact q
end
def Rd (H : Hp) (a : Addr) (u : HO) : Prop := H a = some u \/ ∃ o, H a = some (.frz o u)
theorem Rd.ok {P : Program} {w : World} {H : Hp} {h : Heap} {a : Addr} {u : HO} (r : Rd H a u) (x : HOk P w H h) : ObjOk P w H h a u := by
 rcases r with r | ⟨o, r⟩
 ·exact x a u r
 ·obtain ⟨_, q⟩ := x a _ r
  exact q
def Mut : Option HO -> Prop
 | some (.lst _) => True
 | some (.dK _) => True
 | some (.dT _) => True
 | some (.set _ _) => True
 | some (.ins _ _ _) => True
 | some (.ext _) => True
 | _ => False
section
variable {P : Program} {w : World} {H : Hp} {h h' : Heap} {x e : Addr} {o' : HO}
theorem HOk.write (ok : HOk P w H h) (mu : Mut (H x)) (he : e = x \/ H e = some (.own x)) (k : ∀ b u, b ≠ e -> h.get? b = some u -> h'.get? b = some u) (heo : ∃ u, h'.get? e = some u)
  (new : ObjOk P w (upd H x o') h' x o') : HOk P w (upd H x o') h' := fun b u q => by
 have nown : ∀ c y, H c = some (.own y) -> c ≠ x := fun c y r z => by subst z; rw [r] at mu; exact mu
 have ntup : ∀ c xs, H c = some (.tup xs) -> c ≠ x := fun c xs r z => by subst z; rw [r] at mu; exact mu
 have nfrz : ∀ c ob y, H c = some (.frz ob y) -> c ≠ x := fun c ob y r z => by subst z; rw [r] at mu; exact mu
 by_cases hb : b = x
 ·subst hb; rw [upd_same] at q; cases q; exact new
 ·rw [upd_ne hb] at q
  by_cases hbe : b = e
  ·have q' : H b = some (.own x) := by
    rcases he with z | z
    ·exact absurd (hbe.trans z) hb
    ·rw [hbe]; exact z
   rw [q] at q'; cases q'
   obtain ⟨v, hv⟩ := heo
   exact ⟨v, by rw [hbe]; exact hv⟩
  ·refine (ok b u q).stay (fun c v hc r => k c v ?_ r) (fun c r => by rw [upd_ne (nown c b r)]; exact r) (fun c xs r => by rw [upd_ne (ntup c xs r)]; exact r) fun c ob y r => by rw [upd_ne (nfrz c ob y r)]; exact r
   rcases hc with rfl | hc
   ·exact hbe
   ·rintro rfl
    rcases he with z | z
    ·exact nown c b hc z
    ·rw [hc] at z; cases z; exact hb rfl
end
structure Un (fs ex : List Addr) (H H' : Hp) (h h' : Heap) : Prop where
 keep : ∀ b o, h.get? b = some o -> H b = none -> b ∉ fs -> b ∉ ex -> h'.get? b = some o
 slot : ∀ b o, h.get? b = some o -> H b = none -> b ∈ fs -> b ∉ ex -> ∃ sl, h'.get? b = some { o with slots := sl }
 free : ∀ b o, h.get? b = some o -> H b = none -> b ∉ ex -> H' b = none
 there : ∀ b o, h.get? b = some o -> b ∉ ex -> ∃ o', h'.get? b = some o'
 tups : ∀ b xs, H b = some (.tup xs) -> H' b = some (.tup xs)
 frzs : ∀ b o u, H b = some (.frz o u) -> H' b = some (.frz o u)
 tbls : ∀ b pl q, H b = some (.tbl pl q) -> H' b = some (.tbl pl q)
section
variable {fs fs' ex ex' : List Addr} {H H1 H2 : Hp} {h h1 h2 h' : Heap} {a x e : Addr} {o : HO}
theorem Un.any (u : Un fs ex H H1 h h1) {b : Addr} {ob : Obj} (q : h.get? b = some ob) (n : H b = none) (hx : b ∉ ex) : ∃ sl, h1.get? b = some { ob with slots := sl } := by
 by_cases hb : b ∈ fs
 ·exact u.slot b ob q n hb hx
 ·exact ⟨ob.slots, u.keep b ob q n hb hx⟩
theorem Un.kept (k : ∀ b u, h.get? b = some u -> h'.get? b = some u) : Un fs ex H H h h' :=
 ⟨fun b ob q _ _ _ => k b ob q, fun b ob q _ _ _ => ⟨ob.slots, k b ob q⟩, fun _ _ _ n _ => n, fun b ob q _ => ⟨ob, k b ob q⟩, fun _ _ q => q, fun _ _ _ q => q, fun _ _ _ q => q⟩
theorem Un.refl : Un fs ex H H h h := Un.kept fun _ _ q => q
theorem Un.laid (k : ∀ b u, h.get? b = some u -> h'.get? b = some u) (hp : h.objs.size <= a) (hn : H a = none) : Un fs ex H (upd H a o) h h' where
 keep := fun b u q _ _ _ => k b u q
 slot := fun b u q _ _ _ => ⟨u.slots, k b u q⟩
 free := fun b u q n _ => by rw [upd_ne (Nat.ne_of_lt (Nat.lt_of_lt_of_le (Heap.lt_size q) hp))]; exact n
 there := fun b u q _ => ⟨u, k b u q⟩
 tups := fun b xs q => by rw [upd_ne (ne_of_none q hn)]; exact q
 frzs := fun b u xs q => by rw [upd_ne (ne_of_none q hn)]; exact q
 tbls := fun b pl y q => by rw [upd_ne (ne_of_none q hn)]; exact q
theorem Un.write (mu : Mut (H x)) (he : e = x \/ H e = some (.own x)) (k : ∀ b u, b ≠ e -> h.get? b = some u -> h'.get? b = some u) (heo : ∃ u, h'.get? e = some u) : Un fs ex H (upd H x o) h h' := by
 have hx : ∀ b, H b = none -> b ≠ x := fun b n z => by subst z; rw [n] at mu; exact mu
 have hb : ∀ b, H b = none -> b ≠ e := fun b n z => by
  subst z
  rcases he with r | r
  ·exact hx b n r
  ·rw [n] at r; cases r
 have hm : ∀ b u, H b = some u -> ¬ Mut (some u) -> b ≠ x := fun b u q nm z => by subst z; rw [q] at mu; exact nm mu
 refine ⟨fun b u q n _ _ => k b u (hb b n) q, fun b u q n _ _ => ⟨u.slots, k b u (hb b n) q⟩, fun b u q n _ => by rw [upd_ne (hx b n)]; exact n, fun b u q _ => ?_,
  fun b xs q => by rw [upd_ne (hm b _ q fun z => z)]; exact q, fun b u xs q => by rw [upd_ne (hm b _ q fun z => z)]; exact q, fun b pl y q => by rw [upd_ne (hm b _ q fun z => z)]; exact q⟩
 by_cases hbe : b = e
 ·subst hbe; exact heo
 ·exact ⟨u, k b u hbe q⟩
end
def trk (h : Heap) (H : Hp) : List Addr := (List.range h.objs.size).filter fun a => (H a).isSome
def hidT (h : Heap) (H : Hp) : Heap := PySem.W.hideAll h (trk h H)
theorem hidT_size (h : Heap) (H : Hp) : (hidT h H).objs.size = h.objs.size := PySem.W.hideAll_size _ _
theorem hidT_get {h : Heap} {H : Hp} {b : Addr} {o : Obj} (e : h.get? b = some o) (n : H b = none) : (hidT h H).get? b = some o :=
 PySem.W.hideAll_get _ e fun hm => by
  have q : (H b).isSome = true := (List.mem_filter.mp hm).2
  rw [n] at q; simp at q
theorem of_hidT {h : Heap} {H : Hp} {b : Addr} {o : Obj} (e : (hidT h H).get? b = some o) : h.get? b = some o /\ H b = none := by
 have e' : h.get? b = some o := PySem.W.of_hideAll (trk h H) e
 refine ⟨e', ?_⟩
 cases q : H b with
 | none => rfl
 | some x =>
  have hm : b ∈ trk h H := List.mem_filter.mpr ⟨List.mem_range.mpr (Heap.lt_size e'), by simp [q]⟩
  have z : (hidT h H).get? b = none := PySem.W.hideAll_none (trk h H) hm
  rw [z] at e; cases e
end L2
namespace L2
open PySem PySem.Spec PyProof.Rows
structure Mod (K : PySem.W.Frag) (mg : Str -> Option Value) (base : Heap) : Prop where
 kin : K.In base
 glob : base.Ns mainGlobals mg
 blt : ∃ mb, base.Ns builtinsNs mb /\ ∀ x : Str, x ≠ "__name__" -> mb x = bootBuiltins x
 nolimit : base.NoLimit
 bm : ∃ bm ob, mg "__builtins__" = some (.ref bm) /\ bm ≠ builtinsNs /\ base.get? bm = some ob /\ ob.cls = .type "module" /\ ob.dict = some builtinsNs /\ ob.data = .plain
structure Cx where
 prog : Program
 w : World
 K : PySem.W.Frag
 mg : Str -> Option Value
 base : Heap
 A : Around
 N : List Str
 s₀ : Shared
 H₀ : Hp
 env : Env
 outer : List Env
 stack : List Env
 ex : List Addr
 fn : Str -> Bool
 calm : Bool
 pn : List (Addr × Obj)
 xe : Value -> Shared -> Prop
def frs (l : List Env) : List Addr := l.filterMap (·.frame)
abbrev Cx.fs (X : Cx) : List Addr := frs X.outer
def Vis (sc : Scope) (x : Str) : Prop := sc.names.lookup x = some .local \/ sc.names.lookup x = some .cell \/ sc.names.lookup x = some .free
def Loc (sc : Scope) (x : Str) : Prop := sc.names.lookup x = some .local \/ sc.names.lookup x = some .cell
def Look (env : Env) (h : Heap) (m : Str -> Option Value) (x : Str) (u : Value) : Prop :=
 (env.kindOf x = some .local /\ m x = some u) \/ ((env.kindOf x = some .cell \/ env.kindOf x = some .free) /\ ∃ c, env.cells.lookup x = some c /\ h.IsCell c (some u))
structure Cx.Ok (X : Cx) : Prop where
 mod : Mod X.K X.mg X.base
 kind : X.env.scope.kind = .function
 glob : X.env.globals = mainGlobals
 blt : X.env.builtins = builtinsNs
 above : X.s₀.heap.objs.size <= X.env.locals
 inj : ∀ x y c, X.env.cells.lookup x = some c -> X.env.cells.lookup y = some c -> x = y
 has : ∀ x, (X.env.kindOf x = some .cell \/ X.env.kindOf x = some .free) -> ∃ c, X.env.cells.lookup x = some c
 cab : ∀ x c, X.fn x = true -> X.env.cells.lookup x = some c -> X.s₀.heap.objs.size <= c
 hd : X.calm = true -> X.A.handled = none
 frames : X.A.frames = some X.stack
 stk : X.stack = X.outer \/ (X.stack = X.env :: X.outer /\ X.env.frame = some X.env.locals)
 exf : ∀ b ∈ X.ex, b ≠ X.env.locals /\ ∀ x c, X.env.cells.lookup x = some c -> c ≠ b
 bs : ∀ b o, X.base.get? b = some o -> X.s₀.heap.get? b = some o /\ X.H₀ b = none
 bsz : X.base.objs.size <= X.s₀.heap.objs.size
 noex : ∀ b o, X.base.get? b = some o -> b ∉ X.ex
 exfs : ∀ b ∈ X.ex, b ∉ X.fs
 funs : X.s₀.heap.FunFrames X.base X.outer
 frf : ∀ b ∈ X.fs, X.H₀ b = none
structure Inv (X : Cx) (pins : List (Addr × Obj)) (σ : List (Option V)) (H : Hp) (s : Shared) : Prop where
 ok : X.Ok
 os : s.os = X.s₀.os
 bare : AllBare s.gens
 base : Un X.fs X.ex X.H₀ H X.s₀.heap s.heap
 loc : ∃ m, s.heap.Ns X.env.locals m /\ ∀ (i : Nat) (x : Str) (v : V), X.N[i]? = some x -> σ[i]? = some (some v) -> Vis X.env.scope x -> ∃ u, RelV v u /\ Look X.env s.heap m x u
 cell : ∀ x c, X.env.cells.lookup x = some c -> ∃ v, s.heap.IsCell c v
 free : H X.env.locals = none
 freeC : ∀ x c, X.env.cells.lookup x = some c -> H c = none
 pin : ∀ p ∈ X.pn ++ pins, s.heap.get? p.1 = some p.2 /\ H p.1 = none /\ p.1 ≠ X.env.locals /\ p.1 ∉ X.fs /\ ∀ v, p.2.data ≠ .cell v
 hok : HOk X.prog X.w H s.heap
 len : σ.length = X.N.length
section
variable {X : Cx} {pins : List (Addr × Obj)} {σ : List (Option V)} {H H' : Hp} {s : Shared} {h' : Heap}
theorem Cx.Ok.nofr (ok : X.Ok) {b : Addr} {o : Obj} (e : X.base.get? b = some o) : b ∉ X.fs := fun hb => by
 have := (ok.funs.mem hb).1
 rw [e] at this; cases this
theorem Inv.bs (I : Inv X pins σ H s) : ∀ b o, X.base.get? b = some o -> s.heap.get? b = some o /\ H b = none := fun b o e =>
 ⟨I.base.keep b o (I.ok.bs b o e).1 (I.ok.bs b o e).2 (I.ok.nofr e) (I.ok.noex b o e), I.base.free b o (I.ok.bs b o e).1 (I.ok.bs b o e).2 (I.ok.noex b o e)⟩
theorem Inv.bk (I : Inv X pins σ H s) : ∀ b o, X.base.get? b = some o -> s.heap.get? b = some o := fun b o e => (I.bs b o e).1
theorem Inv.mod (I : Inv X pins σ H s) : Mod X.K X.mg X.base := I.ok.mod
theorem Inv.kIn (I : Inv X pins σ H s) : X.K.In s.heap := I.ok.mod.kin.keeps I.bk
theorem Inv.nolimit (I : Inv X pins σ H s) : s.heap.NoLimit := I.ok.mod.nolimit.keeps I.bk
theorem Inv.fr (I : Inv X pins σ H s) : ∃ m, Fr X.base X.env.locals s.heap m :=
 let ⟨m, hn, _⟩ := I.loc
 ⟨m, hn, I.bk, Nat.le_trans I.ok.bsz I.ok.above⟩
theorem Inv.lt (I : Inv X pins σ H s) : X.env.locals < s.heap.objs.size := let ⟨_, hn, _⟩ := I.loc; hn.lt
theorem Inv.sz (I : Inv X pins σ H s) : X.s₀.heap.objs.size <= s.heap.objs.size := Nat.le_trans I.ok.above (Nat.le_of_lt I.lt)
theorem Inv.nofs (I : Inv X pins σ H s) {a : Addr} (h : s.heap.objs.size <= a) : a ∉ X.fs := fun hb => by
 obtain ⟨_, o, ho, _⟩ := I.ok.funs.mem hb
 exact absurd (Nat.lt_of_lt_of_le (Heap.lt_size ho) (Nat.le_trans I.sz h)) (Nat.lt_irrefl _)
theorem Inv.cne (I : Inv X pins σ H s) : ∀ x c, X.env.cells.lookup x = some c -> c ≠ X.env.locals := fun x c e z => by
 obtain ⟨v, o, ho, hd⟩ := I.cell x c e
 obtain ⟨m, ⟨o', es, ep, ho', hd', _⟩, _⟩ := I.loc
 rw [z, ho'] at ho; cases ho; rw [hd'] at hd; cases hd
theorem Inv.funs (I : Inv X pins σ H s) : s.heap.FunFrames X.base X.outer := by
 have all : ∀ (l : List Env), (∀ b ∈ frs l, b ∈ X.fs) -> X.s₀.heap.FunFrames X.base l -> s.heap.FunFrames X.base l := by
  intro l
  induction l with
  | nil => intro _ _; trivial
  | cons env r ih =>
   intro hs hl
   obtain ⟨hk, ⟨L, o, hf, hn, ho, hd⟩, hr⟩ := hl
   have hL : L ∈ X.fs := hs L (by unfold frs; rw [List.filterMap_cons, hf]; exact List.mem_cons_self)
   obtain ⟨sl, e⟩ := I.base.slot L o ho (I.ok.frf L hL) hL fun z => I.ok.exfs L z hL
   exact ⟨hk, ⟨L, _, hf, hn, e, hd⟩, ih (fun b hb => hs b (by unfold frs; rw [List.filterMap_cons, hf]; exact List.mem_cons_of_mem _ hb)) hr⟩
 exact all X.outer (fun _ hb => hb) I.ok.funs
theorem Inv.stack (I : Inv X pins σ H s) : s.heap.FunFrames X.base X.stack := by
 rcases I.ok.stk with e | ⟨e, hf⟩
 ·rw [e]; exact I.funs
 ·rw [e]
  obtain ⟨m, hn, _⟩ := I.loc
  refine .cons (by rw [I.ok.kind]; decide) hf hn ?_ I.funs
  exact Heap.get?_none_of_le (Nat.le_trans I.ok.bsz I.ok.above)
theorem Inv.stkSub (I : Inv X pins σ H s) : ∀ b ∈ frs X.stack, b ∈ X.env.locals :: X.fs := fun b hb => by
 rcases I.ok.stk with e | ⟨e, hf⟩
 ·rw [e] at hb; exact List.mem_cons_of_mem _ hb
 ·rw [e] at hb
  unfold frs at hb
  rw [List.filterMap_cons, hf] at hb
  exact hb
theorem Inv.stkFree (I : Inv X pins σ H s) : ∀ b ∈ frs X.stack, H b = none := fun b hb => by
 rcases List.mem_cons.mp (I.stkSub b hb) with e | hb
 ·rw [e]; exact I.free
 ·obtain ⟨_, o, ho, _⟩ := I.ok.funs.mem hb
  exact I.base.free b o ho (I.ok.frf b hb) fun z => I.ok.exfs b z hb
theorem Inv.step {g' : Array GenState} {t' : Nat} {d' : Drawn} {ch : List Addr} (I : Inv X pins σ H s)
  (hch : ∀ b ∈ ch, (b ∈ X.ex \/ X.s₀.heap.objs.size <= b) /\ b ≠ X.env.locals /\ (∀ x c, X.env.cells.lookup x = some c -> c ≠ b) /\ ∀ p ∈ X.pn ++ pins, p.1 ≠ b)
  (keep : ∀ b o, b ≠ X.env.locals -> b ∉ X.fs -> b ∉ ch -> s.heap.get? b = some o -> H b = none -> h'.get? b = some o)
  (slot : ∀ b o, b ≠ X.env.locals -> b ∈ X.fs -> b ∉ ch -> s.heap.get? b = some o -> H b = none -> ∃ sl, h'.get? b = some { o with slots := sl }) (free : ∀ b o, b ∉ ch -> s.heap.get? b = some o -> H b = none -> H' b = none)
  (there : ∀ b o, b ∉ ch -> s.heap.get? b = some o -> ∃ o', h'.get? b = some o')
  (tups : ∀ b xs, H b = some (.tup xs) -> H' b = some (.tup xs)) (frzs : ∀ b o u, H b = some (.frz o u) -> H' b = some (.frz o u)) (tbls : ∀ b pl q, H b = some (.tbl pl q) -> H' b = some (.tbl pl q))
  (ns : ∀ m, s.heap.Ns X.env.locals m -> h'.Ns X.env.locals m) (hok : HOk X.prog X.w H' h') (hg : AllBare g') :
  Inv X pins σ H' { s with heap := h', gens := g', drawn := d', toks := t' } := by
 have neL : ∀ b o, X.s₀.heap.get? b = some o -> b ≠ X.env.locals := fun b o e => Nat.ne_of_lt (Nat.lt_of_lt_of_le (Heap.lt_size e) I.ok.above)
 have neC : ∀ b o, X.s₀.heap.get? b = some o -> b ∉ X.ex -> b ∉ ch := fun b o e hx hb => by
  rcases (hch b hb).1 with z | z
  ·exact hx z
  ·exact absurd (Nat.lt_of_lt_of_le (Heap.lt_size e) z) (Nat.lt_irrefl _)
 have cellK : ∀ x c, X.env.cells.lookup x = some c -> ∀ v, s.heap.IsCell c v -> h'.IsCell c v := fun x c e v ⟨o, ho, hd⟩ => by
  have nch : c ∉ ch := fun z => (hch c z).2.2.1 x c e rfl
  by_cases hc : c ∈ X.fs
  ·obtain ⟨sl, q⟩ := slot c o (I.cne x c e) hc nch ho (I.freeC x c e)
   exact ⟨_, q, hd⟩
  ·exact ⟨o, keep c o (I.cne x c e) hc nch ho (I.freeC x c e), hd⟩
 refine ⟨I.ok, I.os, hg, ⟨fun b o e n hb hx => ?_, fun b o e n hb hx => ?_, fun b o e n hx => ?_, fun b o e hx => ?_, fun b xs e => tups b xs (I.base.tups b xs e), fun b o xs e => frzs b o xs (I.base.frzs b o xs e), fun b pl y e => tbls b pl y (I.base.tbls b pl y e)⟩, ?_, fun x c e => ?_, ?_, fun x c e => ?_, fun p hp => ?_, hok, I.len⟩
 ·exact keep b o (neL b o e) hb (neC b o e hx) (I.base.keep b o e n hb hx) (I.base.free b o e n hx)
 ·obtain ⟨sl, e1⟩ := I.base.slot b o e n hb hx
  obtain ⟨sl', e2⟩ := slot b _ (neL b o e) hb (neC b o e hx) e1 (I.base.free b o e n hx)
  exact ⟨sl', e2⟩
 ·obtain ⟨o', e1⟩ := I.base.there b o e hx
  exact free b o' (neC b o e hx) e1 (I.base.free b o e n hx)
 ·obtain ⟨o', e1⟩ := I.base.there b o e hx
  exact there b o' (neC b o e hx) e1
 ·obtain ⟨m, hn, hl⟩ := I.loc
  refine ⟨m, ns m hn, fun i x v e1 e2 e3 => ?_⟩
  obtain ⟨u, r, l⟩ := hl i x v e1 e2 e3
  refine ⟨u, r, ?_⟩
  rcases l with l | ⟨k, c, e, z⟩
  ·exact .inl l
  ·exact .inr ⟨k, c, e, cellK x c e _ z⟩
 ·obtain ⟨v, z⟩ := I.cell x c e
  exact ⟨v, cellK x c e v z⟩
 ·obtain ⟨m, ⟨o, _, _, ho, _⟩, _⟩ := I.loc
  exact free _ o (fun z => (hch _ z).2.1 rfl) ho I.free
 ·obtain ⟨v, o, ho, hd⟩ := I.cell x c e
  exact free c o (fun z => (hch c z).2.2.1 x c e rfl) ho (I.freeC x c e)
 ·obtain ⟨e, n, ne, nf, d⟩ := I.pin p hp
  have nch : p.1 ∉ ch := fun z => (hch p.1 z).2.2.2 p hp rfl
  exact ⟨keep p.1 p.2 ne nf nch e n, free p.1 p.2 nch e n, ne, nf, d⟩
theorem Inv.un {t' : Nat} (I : Inv X pins σ H s) (u : Un X.fs [] H H' s.heap h') (hok : HOk X.prog X.w H' h') : Inv X pins σ H' { s with heap := h', toks := t' } := by
 obtain ⟨m, ⟨o, es, ep, ho, r⟩, _⟩ := id I.loc
 obtain ⟨sl, hL⟩ := u.any ho I.free (by simp)
 exact I.step (g' := s.gens) (d' := s.drawn) (ch := []) (fun _ z => nomatch z) (fun b o _ hb _ e n => u.keep b o e n hb (by simp)) (fun b o _ hb _ e n => u.slot b o e n hb (by simp)) (fun b o _ e n => u.free b o e n (by simp)) (fun b o _ e => u.there b o e (by simp)) u.tups u.frzs u.tbls (fun m' hm => by
  obtain ⟨o', es', ep', ho', r'⟩ := hm
  rw [ho] at ho'; cases ho'
  exact ⟨_, es', ep', hL, r'⟩) hok I.bare
theorem Inv.call {g' : Array GenState} {t' : Nat} {d' : Drawn} {ch : List Addr} (I : Inv X pins σ H s) (u : Un (frs X.stack) ch H H' s.heap h') (hok : HOk X.prog X.w H' h') (hg : AllBare g')
  (hch : ∀ b ∈ ch, (b ∈ X.ex \/ X.s₀.heap.objs.size <= b) /\ b ≠ X.env.locals /\ (∀ x c, X.env.cells.lookup x = some c -> c ≠ b) /\ ∀ p ∈ X.pn ++ pins, p.1 ≠ b) :
  Inv X pins σ H' { s with heap := h', gens := g', drawn := d', toks := t' } := by
 obtain ⟨m, ⟨o, es, ep, ho, r⟩, _⟩ := id I.loc
 obtain ⟨sl, hL⟩ := u.any ho I.free fun z => (hch _ z).2.1 rfl
 exact I.step (ch := ch) hch (fun b o hL hb hc e n => u.keep b o e n (fun z => (List.mem_cons.mp (I.stkSub b z)).elim hL hb) hc) (fun b o _ _ hc e n => u.any e n hc) (fun b o hc e n => u.free b o e n hc) (fun b o hc e => u.there b o e hc) u.tups u.frzs u.tbls (fun m' hm => by
  obtain ⟨o', es', ep', ho', r'⟩ := hm
  rw [ho] at ho'; cases ho'
  exact ⟨_, es', ep', hL, r'⟩) hok hg
theorem Inv.turned {t' : Nat} {it : Addr} (I : Inv X pins σ H s) (k : ∀ b o, b ≠ it -> s.heap.get? b = some o -> h'.get? b = some o) (hn : H it = none) (hL : it ≠ X.env.locals)
  (h1 : it ∈ X.ex \/ X.s₀.heap.objs.size <= it) (h2 : ∀ x c, X.env.cells.lookup x = some c -> c ≠ it) (h3 : ∀ p ∈ X.pn ++ pins, p.1 ≠ it) : Inv X pins σ H { s with heap := h', toks := t' } := by
 have nit : ∀ b u, H b = some u -> b ≠ it := fun b u e z => by rw [z, hn] at e; cases e
 refine I.step (g' := s.gens) (d' := s.drawn) (ch := [it]) (fun b hb => ?_) (fun b o _ _ hc e _ => k b o (fun z => hc (by simp [z])) e) (fun b o _ _ hc e _ => ⟨o.slots, k b o (fun z => hc (by simp [z])) e⟩) (fun _ _ _ _ n => n)
  (fun b o hc e => ⟨o, k b o (fun z => hc (by simp [z])) e⟩) (fun _ _ e => e) (fun _ _ _ e => e) (fun _ _ _ e => e) (fun m hm => ?_) (fun b u e => ?_) I.bare
 ·have e : b = it := by simpa using hb
  subst e
  exact ⟨h1, hL, h2, h3⟩
 ·obtain ⟨o, es, ep, ho, r⟩ := hm
  exact ⟨o, es, ep, k _ o (Ne.symm hL) ho, r⟩
 ·refine (I.hok b u e).stay (fun c v hc q => k c v ?_ q) (fun _ q => q) (fun _ _ q => q) fun _ _ _ q => q
  rcases hc with z | z
  ·rw [z]; exact nit b u e
  ·exact nit c _ z
theorem Inv.tok (I : Inv X pins σ H s) (t : Nat) : Inv X pins σ H { s with toks := t } := I.un (h' := s.heap) (t' := t) Un.refl I.hok
theorem Inv.kept {t' : Nat} (I : Inv X pins σ H s) (k : ∀ b u, s.heap.get? b = some u -> h'.get? b = some u) : Inv X pins σ H { s with heap := h', toks := t' } := I.un (Un.kept k) (I.hok.kept k)
theorem Inv.laid {a : Addr} {o : HO} {t' : Nat} (I : Inv X pins σ H s) (k : ∀ b u, s.heap.get? b = some u -> h'.get? b = some u) (hp : s.heap.objs.size <= a) (new : ObjOk X.prog X.w (upd H a o) h' a o) :
  Inv X pins σ (upd H a o) { s with heap := h', toks := t' } := I.un (Un.laid k hp (I.hok.fresh hp)) (I.hok.laid k hp new)
theorem Inv.write {x e : Addr} {o : HO} {t' : Nat} (I : Inv X pins σ H s) (mu : Mut (H x)) (he : e = x \/ H e = some (.own x)) (k : ∀ b u, b ≠ e -> s.heap.get? b = some u -> h'.get? b = some u) (heo : ∃ u, h'.get? e = some u)
  (new : ObjOk X.prog X.w (upd H x o) h' x o) : Inv X pins σ (upd H x o) { s with heap := h', toks := t' } := I.un (Un.write mu he k heo) (I.hok.write mu he k heo new)
theorem Inv.pins_of {pins' : List (Addr × Obj)} (I : Inv X pins σ H s) (h : ∀ p ∈ pins', s.heap.get? p.1 = some p.2 /\ H p.1 = none /\ p.1 ≠ X.env.locals /\ p.1 ∉ X.fs /\ ∀ v, p.2.data ≠ .cell v) : Inv X pins' σ H s :=
 ⟨I.ok, I.os, I.bare, I.base, I.loc, I.cell, I.free, I.freeC, fun p hp => (List.mem_append.mp hp).elim (fun z => I.pin p (List.mem_append_left _ z)) (h p), I.hok, I.len⟩
theorem nodup_ix {N : List Str} (hN : N.Nodup) {i j : Nat} {x : Str} (a : N[i]? = some x) (b : N[j]? = some x) : i = j := by
 obtain ⟨h1, e1⟩ := List.getElem?_eq_some_iff.mp a
 obtain ⟨h2, e2⟩ := List.getElem?_eq_some_iff.mp b
 exact (List.getElem_inj hN).mp (e1.trans e2.symm)
theorem store_ok2 {M : Model} {A : Around} {E : Value -> Shared -> Prop} {i : Nat} {x : Str} {v : V} {u : Value} {Q : Unit -> Shared -> Prop} (I : Inv X pins σ H s) (hN : X.N.Nodup) (hi : X.N[i]? = some x) (hx : Loc X.env.scope x) (r : RelV v u)
  (h : ∀ s', Inv X pins (σ.set i (some v)) H s' -> (∃ a, Heap.SameBut a s.heap s'.heap /\ (a = X.env.locals \/ X.env.cells.lookup x = some a)) -> Q () s') (hf : X.fn x = true \/ X.env.scope.names.lookup x = some .local := by first | exact .inl rfl | exact .inr rfl | assumption) : wpAny M A (storeName X.env x u) Q E s := by
 obtain ⟨m, hn, hl⟩ := id I.loc
 have hcls : (X.env.scope.kind == .class || (X.env.scope.kind == .module && X.env.locals != X.env.globals)) = false := by rw [I.ok.kind]; rfl
 have hiσ : i < σ.length := by rw [I.len]; exact (List.getElem?_eq_some_iff.mp hi).1
 have cne := I.cne
 have tracked : ∀ {a : Addr} {h' : Heap}, (∃ o, s.heap.get? a = some o /\ H a = none) -> Heap.SameBut a s.heap h' -> HOk X.prog X.w H h' := fun {a h'} ha hs b ob e => by
  obtain ⟨_, _, hfree⟩ := ha
  refine (I.hok b ob e).stay (fun c w' hc q => (hs.2 c ?_).trans q) (fun _ q => q) (fun _ _ q => q) fun _ _ _ q => q
  rintro rfl
  rcases hc with rfl | hc
  ·rw [hfree] at e; cases e
  ·rw [hfree] at hc; cases hc
 rcases hx with hk | hk
 ·refine wpAny_storeName_local hk hn (fun h' hn' hs => ?_) hcls
  obtain ⟨oL, _, _, hoL, _⟩ := id hn
  refine h _ ⟨I.ok, I.os, I.bare, ⟨fun b o e n hb hx => ?_, fun b o e n hb hx => ?_, I.base.free, fun b o e hx => ?_, I.base.tups, I.base.frzs, I.base.tbls⟩, ⟨_, hn', fun j y v' e1 e2 e3 => ?_⟩, fun y c e => ?_, I.free, I.freeC, fun p hp => ?_, tracked ⟨oL, hoL, I.free⟩ hs, by simpa using I.len⟩ ⟨_, hs, .inl rfl⟩
  ·exact (hs.2 b (Nat.ne_of_lt (Nat.lt_of_lt_of_le (Heap.lt_size e) I.ok.above))).trans (I.base.keep b o e n hb hx)
  ·obtain ⟨sl, e1⟩ := I.base.slot b o e n hb hx
   exact ⟨sl, (hs.2 b (Nat.ne_of_lt (Nat.lt_of_lt_of_le (Heap.lt_size e) I.ok.above))).trans e1⟩
  ·obtain ⟨o', e1⟩ := I.base.there b o e hx
   exact ⟨o', (hs.2 b (Nat.ne_of_lt (Nat.lt_of_lt_of_le (Heap.lt_size e) I.ok.above))).trans e1⟩
  ·by_cases hj : j = i
   ·subst hj
    rw [hi] at e1; cases e1
    rw [List.getElem?_set_self hiσ] at e2
    cases e2
    exact ⟨u, r, .inl ⟨hk, by simp⟩⟩
   ·rw [List.getElem?_set_ne (Ne.symm hj)] at e2
    obtain ⟨u', r', q⟩ := hl j y v' e1 e2 e3
    refine ⟨u', r', ?_⟩
    rcases q with ⟨k, e⟩ | ⟨k, c, e, z⟩
    ·refine .inl ⟨k, ?_⟩
     have : y ≠ x := fun e => hj (nodup_ix hN e1 (e ▸ hi))
     simp [this, e]
    ·exact .inr ⟨k, c, e, z.sameBut hs (cne y c e)⟩
  ·obtain ⟨w', z⟩ := I.cell y c e
   exact ⟨w', z.sameBut hs (cne y c e)⟩
  ·obtain ⟨e, n, ne, nf, d⟩ := I.pin p hp
   exact ⟨(hs.2 p.1 ne).trans e, n, ne, nf, d⟩
 ·have hfn : X.fn x = true := by
   rcases hf with z | z
   ·exact z
   ·rw [z] at hk; cases hk
  obtain ⟨c, hc⟩ := I.ok.has x (.inl hk)
  obtain ⟨w', z⟩ := I.cell x c hc
  refine wpAny_storeName_cell I.ok.kind hk hc z (fun h' hc' hs => ?_)
  obtain ⟨oc, hoc, hocd⟩ := id z
  refine h { s with heap := h' } ⟨I.ok, I.os, I.bare, ⟨fun b o e n hb hx => ?_, fun b o e n hb hx => ?_, I.base.free, fun b o e hx => ?_, I.base.tups, I.base.frzs, I.base.tbls⟩, ⟨m, hn.sameBut hs (Ne.symm (cne x c hc)), fun j y v' e1 e2 e3 => ?_⟩, fun y c' e => ?_, I.free, I.freeC, fun p hp => ?_, tracked ⟨oc, hoc, I.freeC x c hc⟩ hs, by simpa using I.len⟩ ⟨c, hs, .inr hc⟩
  ·exact (hs.2 b (Nat.ne_of_lt (Nat.lt_of_lt_of_le (Heap.lt_size e) (I.ok.cab x c hfn hc)))).trans (I.base.keep b o e n hb hx)
  ·obtain ⟨sl, e1⟩ := I.base.slot b o e n hb hx
   exact ⟨sl, (hs.2 b (Nat.ne_of_lt (Nat.lt_of_lt_of_le (Heap.lt_size e) (I.ok.cab x c hfn hc)))).trans e1⟩
  ·obtain ⟨o', e1⟩ := I.base.there b o e hx
   exact ⟨o', (hs.2 b (Nat.ne_of_lt (Nat.lt_of_lt_of_le (Heap.lt_size e) (I.ok.cab x c hfn hc)))).trans e1⟩
  ·by_cases hj : j = i
   ·subst hj
    rw [hi] at e1; cases e1
    rw [List.getElem?_set_self hiσ] at e2
    cases e2
    exact ⟨u, r, .inr ⟨.inl hk, c, hc, hc'⟩⟩
   ·rw [List.getElem?_set_ne (Ne.symm hj)] at e2
    obtain ⟨u', r', q⟩ := hl j y v' e1 e2 e3
    refine ⟨u', r', ?_⟩
    rcases q with q | ⟨k, c', e, z'⟩
    ·exact .inl q
    ·refine .inr ⟨k, c', e, z'.sameBut hs ?_⟩
     rintro rfl
     exact hj (nodup_ix hN e1 (I.ok.inj _ _ _ e hc ▸ hi))
  ·by_cases hcc : c' = c
   ·subst hcc; exact ⟨_, hc'⟩
   ·obtain ⟨w2, z2⟩ := I.cell y c' e
    exact ⟨w2, z2.sameBut hs hcc⟩
  ·obtain ⟨e, n, ne, nf, d⟩ := I.pin p hp
   refine ⟨(hs.2 p.1 ?_).trans e, n, ne, nf, d⟩
   intro q
   rw [q, hoc] at e
   have q' : oc = p.2 := Option.some.inj e
   exact d w' (by rw [<- q']; exact hocd)
theorem store_ok {M : Model} {A : Around} {E : Value -> Shared -> Prop} {i : Nat} {x : Str} {v : V} {u : Value} {Q : Unit -> Shared -> Prop} (I : Inv X pins σ H s) (hN : X.N.Nodup) (hi : X.N[i]? = some x) (hx : Loc X.env.scope x) (r : RelV v u)
  (h : ∀ s', Inv X pins (σ.set i (some v)) H s' -> Q () s') (hf : X.fn x = true \/ X.env.scope.names.lookup x = some .local := by first | exact .inl rfl | exact .inr rfl | assumption) : wpAny M A (storeName X.env x u) Q E s :=
 store_ok2 I hN hi hx r (fun s' I' _ => h s' I') hf
theorem Inv.call' {s' : Shared} {ch : List Addr} (I : Inv X pins σ H s) (ho : s'.os = s.os) (u : Un (frs X.stack) ch H H' s.heap s'.heap) (hok : HOk X.prog X.w H' s'.heap) (hg : AllBare s'.gens)
  (hch : ∀ b ∈ ch, (b ∈ X.ex \/ X.s₀.heap.objs.size <= b) /\ b ≠ X.env.locals /\ (∀ x c, X.env.cells.lookup x = some c -> c ≠ b) /\ ∀ p ∈ X.pn ++ pins, p.1 ≠ b) : Inv X pins σ H' s' := by
 obtain ⟨h', g', d', t', o'⟩ := s'
 have e : o' = s.os := ho
 subst e
 exact I.call (g' := g') (t' := t') (d' := d') u hok hg hch
end
abbrev XK := Value -> Option Addr -> Hp -> Prop
abbrev St := List (Option V)
abbrev VK := V -> Hp -> Prop
abbrev TE := St -> Hp -> VK -> Prop
abbrev TT := St -> Hp -> (Bool -> Hp -> Prop) -> Prop
abbrev TA := St -> Hp -> (List V -> Hp -> Prop) -> Prop
structure Ends where
 nx : St -> Hp -> Prop
 rt : VK
 bk : St -> Hp -> Prop := fun _ _ => False
 ct : St -> Hp -> Prop := fun _ _ => False
abbrev TS := Ends -> St -> Hp -> Prop
def EP (X : Cx) (pins : List (Addr × Obj)) (σ : St) (Q : VK) (u : Value) (s' : Shared) : Prop := ∃ v H', Inv X pins σ H' s' /\ RelV v u /\ Q v H'
def TP (X : Cx) (pins : List (Addr × Obj)) (σ : St) (Q : Bool -> Hp -> Prop) (b : Bool) (s' : Shared) : Prop := ∃ H', Inv X pins σ H' s' /\ Q b H'
def AP (X : Cx) (pins : List (Addr × Obj)) (σ : St) (Q : List V -> Hp -> Prop) (us : List Value) (s' : Shared) : Prop := ∃ vs H', Inv X pins σ H' s' /\ Vals vs us /\ Q vs H'
def SP (X : Cx) (pins : List (Addr × Obj)) (D : Ends) (f : Flow) (s' : Shared) : Prop :=
 match f with
 | .next => ∃ σ' H', Inv X pins σ' H' s' /\ D.nx σ' H'
 | .brk => ∃ σ' H', Inv X pins σ' H' s' /\ D.bk σ' H'
 | .cont => ∃ σ' H', Inv X pins σ' H' s' /\ D.ct σ' H'
 | .ret u => ∃ v σ' H', Inv X pins σ' H' s' /\ RelV v u /\ D.rt v H'
def PE (X : Cx) (e : Expr) (t : TE) : Prop :=
 ∀ (pins : List (Addr × Obj)) (s : Shared) (σ : St) (H : Hp) (Q : VK), Inv X pins σ H s -> t σ H Q -> wpAny (model X.prog X.w) X.A (eval e X.env) (EP X pins σ Q) X.xe s
def PT (X : Cx) (e : Expr) (t : TT) : Prop :=
 ∀ (pins : List (Addr × Obj)) (s : Shared) (σ : St) (H : Hp) (Q : Bool -> Hp -> Prop), Inv X pins σ H s -> t σ H Q -> wpAny (model X.prog X.w) X.A (isTrue e X.env (eval e X.env)) (TP X pins σ Q) X.xe s
def PW (X : Cx) (e : Expr) (t : TT) : Prop :=
 ∀ (whole : Sem Value) (pins : List (Addr × Obj)) (s : Shared) (σ : St) (H : Hp) (Q : Bool -> Hp -> Prop), Inv X pins σ H s -> t σ H Q -> wpAny (model X.prog X.w) X.A (isTrue e X.env whole) (TP X pins σ Q) X.xe s
theorem PW.pt {X : Cx} {e : Expr} {t : TT} (h : PW X e t) : PT X e t := h _
def PA (X : Cx) (es : List Expr) (t : TA) : Prop :=
 ∀ (pos : Pos) (pins : List (Addr × Obj)) (s : Shared) (σ : St) (H : Hp) (Q : List V -> Hp -> Prop), Inv X pins σ H s -> t σ H Q -> wpAny (model X.prog X.w) X.A (spliced (backTo pos (starEach es X.env))) (AP X pins σ Q) X.xe s
def PS (X : Cx) (st : Stmt) (t : TS) : Prop :=
 ∀ (pins : List (Addr × Obj)) (s : Shared) (σ : St) (H : Hp) (D : Ends), Inv X pins σ H s -> t D σ H -> wpAny (model X.prog X.w) X.A (exec st X.env) (SP X pins D) X.xe s
def PSs (X : Cx) (st : List Stmt) (t : TS) : Prop :=
 ∀ (pins : List (Addr × Obj)) (s : Shared) (σ : St) (H : Hp) (D : Ends), Inv X pins σ H s -> t D σ H -> wpAny (model X.prog X.w) X.A (execs st X.env) (SP X pins D) X.xe s
theorem thn {α : Type} {t : Sem α} {Q Q' : α -> Shared -> Prop} {M : Model} {A : Around} {E : Value -> Shared -> Prop} {s : Shared} (h : wpAny M A t Q E s) (hQ : ∀ a s, Q a s -> Q' a s) : wpAny M A t Q' E s := wpAny_mono h hQ fun _ _ x => x
end L2
namespace L2
open PySem PySem.Spec PyProof.Rows
section
variable {X : Cx}
def tVar (i : Nat) : TE := fun σ H Q => ∃ v, σ[i]? = some (some v) /\ Q v H
def tC (v : V) : TE := fun _ H Q => Q v H
theorem pe_var {i : Nat} {x : Str} {pos : Pos} (hN : X.N[i]? = some x) (hv : Vis X.env.scope x) (hd : (x == ("__debug__" : Str)) = false := by decide) (hcd : (x == ("__classdict__" : Str)) = false := by decide) : PE X (.Name x pos) (tVar i) := by
 intro pins s σ H Q I h
 obtain ⟨v, e, h⟩ := h
 obtain ⟨m, hn, hl⟩ := I.loc
 obtain ⟨u, r, l⟩ := hl i x v hN e hv
 have fin : EP X pins σ Q u s := ⟨v, H, I, r, h⟩
 rcases l with ⟨hk, hm⟩ | ⟨hk, c, hc, hcell⟩
 ·exact wpAny_Name (wpAny_loadName_local I.ok.kind hk hn hm fin) hd
 ·rcases hk with hk | hk
  ·exact wpAny_Name (wpAny_loadName_cell I.ok.kind hk hc hcell fin) hd
  ·exact wpAny_Name (wpAny_loadName_free I.ok.kind hk hc hcell fin hcd) hd
theorem pe_int {i j pos} : PE X (.Constant (.int i) j pos) (tC (.int i)) := fun _ _ _ H _ I h => wpAny_Constant_int ⟨.int i, H, I.tok _, ⟨_, rfl⟩, h⟩
theorem pe_bl {b j pos} : PE X (.Constant (.bool b) j pos) (tC (.bl b)) := fun _ _ _ H _ I h => Constant_bool ⟨.bl b, H, I, rfl, h⟩
theorem pe_non {j pos} : PE X (.Constant .none j pos) (tC .non) := fun _ _ _ H _ I h => Constant_none ⟨.non, H, I, rfl, h⟩
theorem pe_str {x j pos} : PE X (.Constant (.str x) j pos) (tC (.str x)) := fun _ _ _ H _ I h => Calls.Constant_str ⟨.str x, H, I.tok _, ⟨_, rfl⟩, h⟩
def Gl (X : Cx) (x : Str) : Prop := X.env.kindOf x = some .globalImplicit
theorem ld_glob {E : Value -> Shared -> Prop} {pins : List (Addr × Obj)} {s : Shared} {σ : St} {H : Hp} {x : Str} {u : Value} {pos : Pos} {Q : Value -> Shared -> Prop} (I : Inv X pins σ H s) (hg : Gl X x) (hm : X.mg x = some u) (h : Q u s)
  (hd : (x == ("__debug__" : Str)) = false := by decide) : wpAny (model X.prog X.w) X.A (eval (.Name x pos) X.env) Q E s :=
 Calls.Name_function_global I.ok.kind hg (Calls.loadGlobal_global (by rw [I.ok.glob]; exact I.mod.glob.keeps I.bk) hm h) hd
theorem ld_blt {E : Value -> Shared -> Prop} {pins : List (Addr × Obj)} {s : Shared} {σ : St} {H : Hp} {x : Str} {u : Value} {pos : Pos} {Q : Value -> Shared -> Prop} (I : Inv X pins σ H s) (hg : Gl X x) (hm : X.mg x = none) (hv : bootBuiltins x = some u) (h : Q u s)
  (hn : x ≠ "__name__" := by decide) (hd : (x == ("__debug__" : Str)) = false := by decide) : wpAny (model X.prog X.w) X.A (eval (.Name x pos) X.env) Q E s := by
 obtain ⟨mb, h1, h2⟩ := I.mod.blt
 exact Calls.Name_function_global I.ok.kind hg (Calls.loadGlobal_builtin (by rw [I.ok.glob]; exact I.mod.glob.keeps I.bk) hm (by rw [I.ok.blt]; exact h1.keeps I.bk) ((h2 x hn).trans hv) h) hd
theorem pe_glob {x : Str} {v : V} {u : Value} {pos : Pos} (hg : Gl X x) (hm : X.mg x = some u) (r : RelV v u) (hd : (x == ("__debug__" : Str)) = false := by decide) : PE X (.Name x pos) (tC v) :=
 fun _ _ _ H _ I h => ld_glob I hg hm ⟨v, H, I, r, h⟩ hd
theorem pe_bltn {x : Str} {v : V} {u : Value} {pos : Pos} (hg : Gl X x) (hm : X.mg x = none) (hv : bootBuiltins x = some u) (r : RelV v u) (hn : x ≠ "__name__" := by decide) (hd : (x == ("__debug__" : Str)) = false := by decide) : PE X (.Name x pos) (tC v) :=
 fun _ _ _ H _ I h => ld_blt I hg hm hv ⟨v, H, I, r, h⟩ hn hd
variable {a b : Expr} {ta tb : TE} {pos : Pos}
def PC (X : Cx) (op : CmpOp) (a b : Expr) (t : TE) : Prop :=
 ∀ (pins : List (Addr × Obj)) (s : Shared) (σ : St) (H : Hp) (Q : VK), Inv X pins σ H s -> t σ H Q ->
  wpAny (model X.prog X.w) X.A (eval a X.env) (fun v s₁ => wpAny (model X.prog X.w) X.A (eval b X.env) (fun u s₂ => wpAny (model X.prog X.w) X.A (compareOp op v u) (EP X pins σ Q) X.xe s₂) X.xe s₁) X.xe s
def tB (t : TE) : TT := fun σ H Q => t σ H fun x H1 => ∃ c, x = .bl c /\ Q c H1
theorem pt_cmp {op : CmpOp} {t : TE} (h : PC X op a b t) (h1 : behindInMarks op b = false := by first | exact nobehind _ (by decide) (by decide) | rfl) : PT X (.Compare a [op] [b] pos) (tB t) := by
 intro pins s σ H Q I hw
 refine wpAny_isTrue_Compare1 (thn (h pins s σ H _ I hw) fun v s1 h1 => thn h1 fun u s2 h2 => thn h2 fun c s3 ⟨x, H1, I1, r1, q1⟩ => ?_) h1
 obtain ⟨d, rfl, q⟩ := q1
 cases r1
 exact wpAny_truthy_bool ⟨H1, I1, q⟩
variable {tA tB' : TT} {rest : List Expr}
def tAnd (t u : TT) : TT := fun σ H Q => t σ H fun c H1 => if c = true then u σ H1 Q else Q false H1
def tOr (t u : TT) : TT := fun σ H Q => t σ H fun c H1 => if c = true then Q true H1 else u σ H1 Q
def tNot (t : TT) : TT := fun σ H Q => t σ H fun c H1 => Q (!c) H1
theorem pw_and1 (ha : PT X a tA) : PW X (.BoolOp .And [a] pos) tA := by
 intro wh pins s σ H Q I h
 refine isTrue_and (thn (ha pins s σ H Q I h) fun c s1 e => ?_)
 cases c with
 | true => exact isTrue_and_nil e
 | false => exact e
theorem pw_or1 (ha : PT X a tA) : PW X (.BoolOp .Or [a] pos) tA := by
 intro wh pins s σ H Q I h
 refine isTrue_or (thn (ha pins s σ H Q I h) fun c s1 e => ?_)
 cases c with
 | false => exact isTrue_or_nil e
 | true => exact e
theorem pw_and (ha : PT X a tA) (hb : PW X (.BoolOp .And (b :: rest) pos) tB') : PW X (.BoolOp .And (a :: b :: rest) pos) (tAnd tA tB') := by
 intro wh pins s σ H Q I h
 refine isTrue_and (thn (ha pins s σ H _ I h) fun c s1 ⟨H1, I1, q1⟩ => ?_)
 cases c with
 | true => exact hb wh pins s1 σ H1 Q I1 q1
 | false => exact ⟨H1, I1, q1⟩
theorem pw_or (ha : PT X a tA) (hb : PW X (.BoolOp .Or (b :: rest) pos) tB') : PW X (.BoolOp .Or (a :: b :: rest) pos) (tOr tA tB') := by
 intro wh pins s σ H Q I h
 refine isTrue_or (thn (ha pins s σ H _ I h) fun c s1 ⟨H1, I1, q1⟩ => ?_)
 cases c with
 | true => exact ⟨H1, I1, q1⟩
 | false => exact hb wh pins s1 σ H1 Q I1 q1
theorem pt_not (ha : PT X a tA) : PT X (.UnaryOp .Not a pos) (tNot tA) := by
 intro pins s σ H Q I h
 exact isTrue_not (ha pins s σ H (fun c H1 => Q (!c) H1) I h)
def tAndV (ta tb : TE) : TE := fun σ H Q => ta σ H fun x H1 => ∃ c, x = .bl c /\ if c = true then tb σ H1 Q else Q (.bl false) H1
def tOrV (ta tb : TE) : TE := fun σ H Q => ta σ H fun x H1 => ∃ c, x = .bl c /\ if c = true then Q (.bl true) H1 else tb σ H1 Q
def tNotV (ta : TE) : TE := fun σ H Q => ta σ H fun x H1 => ∃ c, x = .bl c /\ Q (.bl (!c)) H1
theorem pe_one {op} {t : TE} (h : PE X a t) : PE X (.BoolOp op [a] pos) t := fun pins s σ H Q I hw => BoolOp_one (h pins s σ H Q I hw)
theorem pe_and (ha : PE X a ta) (hb : PE X (.BoolOp .And (b :: rest) pos) tb) : PE X (.BoolOp .And (a :: b :: rest) pos) (tAndV ta tb) := by
 intro pins s σ H Q I h
 refine BoolOp_and (thn (ha pins s σ H _ I h) fun v s1 ⟨x, H1, I1, r1, q1⟩ => ?_)
 obtain ⟨c, rfl, q1⟩ := q1
 cases r1
 refine wpAny_truthy_bool ?_
 cases c with
 | true => exact hb pins s1 σ H1 Q I1 q1
 | false => exact ⟨.bl false, H1, I1, rfl, q1⟩
theorem pe_or (ha : PE X a ta) (hb : PE X (.BoolOp .Or (b :: rest) pos) tb) : PE X (.BoolOp .Or (a :: b :: rest) pos) (tOrV ta tb) := by
 intro pins s σ H Q I h
 refine BoolOp_or (thn (ha pins s σ H _ I h) fun v s1 ⟨x, H1, I1, r1, q1⟩ => ?_)
 obtain ⟨c, rfl, q1⟩ := q1
 cases r1
 refine wpAny_truthy_bool ?_
 cases c with
 | false => exact hb pins s1 σ H1 Q I1 q1
 | true => exact ⟨.bl true, H1, I1, rfl, q1⟩
theorem pe_not (ha : PE X a ta) : PE X (.UnaryOp .Not a pos) (tNotV ta) := by
 intro pins s σ H Q I h
 refine UnaryOp_ (thn (ha pins s σ H _ I h) fun v s1 ⟨x, H1, I1, r1, q1⟩ => ?_)
 obtain ⟨c, rfl, q1⟩ := q1
 cases r1
 exact not_of (wpAny_truthy_bool ⟨.bl (!c), H1, I1, rfl, q1⟩)
def tIf (t : TT) (ta tb : TE) : TE := fun σ H Q => t σ H fun c H1 => if c = true then ta σ H1 Q else tb σ H1 Q
theorem pe_ifExp {c : Expr} (hc : PT X c tA) (ha : PE X a ta) (hb : PE X b tb) : PE X (.IfExp c a b pos) (tIf tA ta tb) := by
 intro pins s σ H Q I h
 refine wpAny_IfExp (thn (hc pins s σ H _ I h) fun d s1 ⟨H1, I1, q1⟩ => ?_)
 cases d with
 | true => exact ha pins s1 σ H1 Q I1 q1
 | false => exact hb pins s1 σ H1 Q I1 q1
end
end L2
namespace L2
open PySem PySem.Spec PyProof.Rows
def SqL (K : PySem.W.Frag) (H : Hp) (a : Addr) (xs : List V) : Prop :=
 Rd H a (.lst xs) \/
  ∃ (o : Obj) (its : Array Value) (n : Nat), K.lookup a = some o /\ o.cls = .type "list" /\ o.dict = none /\ o.data = .seq its n /\ its.size <= sizeLine /\ Vals xs its.toList
def SqT (K : PySem.W.Frag) (H : Hp) (a : Addr) (xs : List V) : Prop :=
 Rd H a (.tup xs) \/
  ∃ (o : Obj) (its : Array Value) (n : Nat), K.lookup a = some o /\ o.cls = .type "tuple" /\ o.data = .seq its n /\ its.size <= sizeLine /\ Vals xs its.toList
def absV : Value -> Option V
 | .none => some .non
 | .bool b => some (.bl b)
 | .int i _ => some (.int i)
 | .str x _ => some (.str x)
 | .bytes b _ => some (.byt b)
 | .float b _ => some (.flt b)
 | .ref a => some (.ref a)
 | .type n => some (.ty n)
 | _ => none
theorem RelV.abs {x : V} {u : Value} (r : RelV x u) : absV u = some x := by
 cases x with
 | non => cases r; rfl
 | bl _ => cases r; rfl
 | int _ => obtain ⟨t, rfl⟩ := r; rfl
 | str _ => obtain ⟨t, rfl⟩ := r; rfl
 | byt _ => obtain ⟨t, rfl⟩ := r; rfl
 | flt _ => obtain ⟨t, rfl⟩ := r; rfl
 | ref _ => cases r; rfl
 | ty _ => cases r; rfl
theorem RelV.inj {x y : V} {u : Value} (r : RelV x u) (q : RelV y u) : x = y := Option.some.inj (r.abs.symm.trans q.abs)
theorem Vals.inj : ∀ {xs ys : List V} {us : List Value}, Vals xs us -> Vals ys us -> xs = ys
 | _, _, _, .nil, .nil => rfl
 | _, _, _, .cons r t, .cons r' t' => by rw [r.inj r', Vals.inj t t']
section
variable {X : Cx} {pins : List (Addr × Obj)} {σ : St} {H : Hp} {s : Shared} {a : Addr} {xs ys : List V}
theorem SqL.of {K : PySem.W.Frag} (h : H a = some (.lst xs)) : SqL K H a xs := .inl (.inl h)
theorem SqT.of {K : PySem.W.Frag} (h : H a = some (.tup xs)) : SqT K H a xs := .inl (.inl h)
theorem Inv.list (I : Inv X pins σ H s) (h : SqL X.K H a xs) : ∃ its : List Value, Vals xs its /\ PlainL s.heap a its.toArray /\ xs.length <= sizeLine := by
 rcases h with h | ⟨o, its, n, hk, hc, hd, hs, hz, r⟩
 ·obtain ⟨z, its, n, r, e⟩ := h.ok I.hok
  exact ⟨its, r, ⟨_, n, e, rfl, rfl, rfl⟩, z⟩
 ·refine ⟨its.toList, r, ⟨o, n, I.kIn a o hk, hc, hd, by simpa using hs⟩, ?_⟩
  have e := r.length
  simp only [Array.length_toList] at e
  omega
theorem Inv.tuple (I : Inv X pins σ H s) (h : SqT X.K H a xs) : ∃ its : List Value, Vals xs its /\ IsTup s.heap a its.toArray /\ xs.length <= sizeLine := by
 rcases h with h | ⟨o, its, n, hk, hc, hs, hz, r⟩
 ·obtain ⟨z, its, r, p⟩ := h.ok I.hok
  exact ⟨its, r, p, z⟩
 ·refine ⟨its.toList, r, ⟨o, I.kIn a o hk, hc, n, by simpa using hs⟩, ?_⟩
  have e := r.length
  simp only [Array.length_toList] at e
  omega
theorem Inv.list_inj (I : Inv X pins σ H s) (h : SqL X.K H a xs) (h' : SqL X.K H a ys) : xs = ys := by
 obtain ⟨its, r, ⟨o, n, e, _, _, d⟩, _⟩ := I.list h
 obtain ⟨its', r', ⟨o', n', e', _, _, d'⟩, _⟩ := I.list h'
 rw [e] at e'; cases e'
 rw [d] at d'
 injection d' with d1 _
 have : its = its' := by simpa using congrArg Array.toList d1
 subst this
 exact r.inj r'
end
abbrev Cx.wish (X : Cx) (E : Value -> Shared -> Prop) : Cx := { X with xe := E }
abbrev Cx.nox (X : Cx) : Cx := X.wish fun _ _ => False
theorem Cx.Ok.wish {X : Cx} (ok : X.Ok) (E : Value -> Shared -> Prop) : (X.wish E).Ok :=
 ⟨ok.mod, ok.kind, ok.glob, ok.blt, ok.above, ok.inj, ok.has, ok.cab, ok.hd, ok.frames, ok.stk, ok.exf, ok.bs, ok.bsz, ok.noex, ok.exfs, ok.funs, ok.frf⟩
theorem Cx.Ok.unwish {X : Cx} {E : Value -> Shared -> Prop} (ok : (X.wish E).Ok) : X.Ok :=
 ⟨ok.mod, ok.kind, ok.glob, ok.blt, ok.above, ok.inj, ok.has, ok.cab, ok.hd, ok.frames, ok.stk, ok.exf, ok.bs, ok.bsz, ok.noex, ok.exfs, ok.funs, ok.frf⟩
section
variable {X : Cx} {pins : List (Addr × Obj)} {σ : St} {H : Hp} {s : Shared} {E : Value -> Shared -> Prop}
theorem Inv.wish (I : Inv X pins σ H s) (E : Value -> Shared -> Prop) : Inv (X.wish E) pins σ H s := ⟨I.ok.wish E, I.os, I.bare, I.base, I.loc, I.cell, I.free, I.freeC, I.pin, I.hok, I.len⟩
theorem Inv.unwish (I : Inv (X.wish E) pins σ H s) : Inv X pins σ H s := ⟨I.ok.unwish, I.os, I.bare, I.base, I.loc, I.cell, I.free, I.freeC, I.pin, I.hok, I.len⟩
theorem SP.unwish {D : Ends} {f : Flow} {s' : Shared} (h : SP (X.wish E) pins D f s') : SP X pins D f s' := by
 cases f with
 | next => obtain ⟨σ', H', I, q⟩ := h; exact ⟨σ', H', I.unwish, q⟩
 | brk => obtain ⟨σ', H', I, q⟩ := h; exact ⟨σ', H', I.unwish, q⟩
 | cont => obtain ⟨σ', H', I, q⟩ := h; exact ⟨σ', H', I.unwish, q⟩
 | ret u => obtain ⟨v, σ', H', I, r, q⟩ := h; exact ⟨v, σ', H', I.unwish, r, q⟩
theorem PSs.nox {st : List Stmt} {t : TS} (h : PSs X.nox st t) : PSs X st t := fun pins s σ H D I hw =>
 wpAny_mono (h pins s σ H D (I.wish _) hw) (fun _ _ q => q.unwish) fun _ _ z => False.elim z
end
section
variable {X : Cx} {st : Stmt} {rest : List Stmt} {t u : TS} {e : Expr} {te : TE} {pos : Pos}
def tNext : TS := fun D σ H => D.nx σ H
def tSeq (t u : TS) : TS := fun D σ H => t { D with nx := u D } σ H
theorem pss_nil : PSs X [] tNext := fun _ _ σ H _ I h => wpAny_execs_nil ⟨σ, H, I, h⟩
theorem pss_cons (h1 : PS X st t) (h2 : PSs X rest u) : PSs X (st :: rest) (tSeq t u) := by
 intro pins s σ H D I h
 refine wpAny_execs_cons (thn (h1 pins s σ H { D with nx := u D } I h) fun f s1 q => ?_)
 cases f with
 | next =>
  obtain ⟨σ', H', I', q⟩ := q
  exact h2 pins s1 σ' H' D I' q
 | ret v => exact q
 | brk => exact q
 | cont => exact q
theorem pss_one (h1 : PS X st t) : PSs X [st] t := by
 intro pins s σ H D I h
 refine wpAny_execs_cons (thn (h1 pins s σ H D I h) fun f s1 q => ?_)
 cases f with
 | next => exact wpAny_execs_nil q
 | ret v => exact q
 | brk => exact q
 | cont => exact q
theorem Inv.quiet {pins : List (Addr × Obj)} {σ : St} {H : Hp} {s : Shared} (I : Inv X pins σ H s) : interactive X.env = false := by simp [interactive, I.ok.kind]
def tDrop (te : TE) : TS := fun D σ H => te σ H fun _ H1 => D.nx σ H1
theorem ps_expr (he : PE X e te) (hs : swapsWith e none pos.line X.env = pure false := by rfl) : PS X (.Expr e pos) (tDrop te) := by
 intro pins s σ H D I h
 exact wpAny_Expr_any (thn (he pins s σ H _ I h) fun v s1 ⟨x, H1, I1, r1, q1⟩ => ⟨σ, H1, I1, q1⟩) I.quiet hs
def tRet (te : TE) : TS := fun D σ H => te σ H D.rt
theorem ps_ret (he : PE X e te) : PS X (.Return (some e) pos) (tRet te) := by
 intro pins s σ H D I h
 exact wpAny_Return_some (thn (he pins s σ H _ I h) fun v s1 ⟨x, H1, I1, r1, q1⟩ => ⟨x, σ, H1, I1, r1, q1⟩)
def tIfS (c : TT) (t u : TS) : TS := fun D σ H => c σ H fun b H1 => if b = true then t D σ H1 else u D σ H1
theorem ps_if {c : Expr} {a b : List Stmt} {tc : TT} (hc : PT X c tc) (ha : PSs X a t) (hb : PSs X b u) : PS X (.If c a b pos) (tIfS tc t u) := by
 intro pins s σ H D I h
 refine wpAny_If (thn (hc pins s σ H _ I h) fun d s1 ⟨H1, I1, q1⟩ => ?_)
 cases d with
 | true => exact ha pins s1 σ H1 D I1 q1
 | false => exact hb pins s1 σ H1 D I1 q1
def tNever : TS := fun _ _ _ => False
theorem ps_never : PS X st tNever := fun _ _ _ _ _ _ h => h.elim
end
abbrev TG := V -> St -> Hp -> (St -> Hp -> Prop) -> Prop
abbrev TGs := List V -> St -> Hp -> (St -> Hp -> Prop) -> Prop
def PG (X : Cx) (target : Expr) (t : TG) : Prop :=
 ∀ (pins : List (Addr × Obj)) (s : Shared) (σ : St) (H : Hp) (v : V) (u : Value) (Q : St -> Hp -> Prop), Inv X pins σ H s -> RelV v u -> t v σ H Q ->
  wpAny (model X.prog X.w) X.A (assign target X.env u) (fun _ s' => ∃ σ' H', Inv X pins σ' H' s' /\ Q σ' H') X.xe s
def PGs (X : Cx) (ts : List Expr) (t : TGs) : Prop :=
 ∀ (pins : List (Addr × Obj)) (s : Shared) (σ : St) (H : Hp) (vs : List V) (us : List Value) (Q : St -> Hp -> Prop), Inv X pins σ H s -> Vals vs us -> t vs σ H Q ->
  wpAny (model X.prog X.w) X.A (assignInOrder ((assignEach ts X.env).map (·.2)) us) (fun _ s' => ∃ σ' H', Inv X pins σ' H' s' /\ Q σ' H') X.xe s
abbrev TSet := V -> V -> V -> Hp -> (Hp -> Prop) -> Prop
def PSet (X : Cx) (t : TSet) : Prop :=
 ∀ (pins : List (Addr × Obj)) (s : Shared) (σ : St) (H : Hp) (o i v : V) (ov iv u : Value) (Q : Hp -> Prop), Inv X pins σ H s -> RelV o ov -> RelV i iv -> RelV v u -> t o i v H Q ->
  wpAny (model X.prog X.w) X.A (setItem ov iv u) (fun _ s' => ∃ H', Inv X pins σ H' s' /\ Q H') X.xe s
abbrev TIp := V -> V -> Hp -> VK -> Prop
def PIp (X : Cx) (op : Operator) (t : TIp) : Prop :=
 ∀ (pins : List (Addr × Obj)) (s : Shared) (σ : St) (H : Hp) (x y : V) (v u : Value) (Q : VK), Inv X pins σ H s -> RelV x v -> RelV y u -> t x y H Q ->
  wpAny (model X.prog X.w) X.A (inplaceOp op v u) (EP X pins σ Q) X.xe s
section
variable {X : Cx} {pos : Pos}
def gName (i : Nat) : TG := fun v σ H Q => Q (σ.set i (some v)) H
theorem pg_name {i : Nat} {x : Str} (hN : X.N.Nodup) (hi : X.N[i]? = some x) (hx : Loc X.env.scope x) (hf : X.fn x = true \/ X.env.scope.names.lookup x = some .local := by first | exact .inl rfl | exact .inr rfl | assumption) : PG X (.Name x pos) (gName i) := by
 intro pins s σ H v u Q I r h
 exact wpAny_assign_Name (store_ok I hN hi hx r (fun s' I' => ⟨_, H, I', h⟩) hf)
def gNil : TGs := fun vs σ H Q => vs = [] /\ Q σ H
def gCons (t : TG) (u : TGs) : TGs := fun vs σ H Q => ∃ v r, vs = v :: r /\ t v σ H fun σ' H' => u r σ' H' Q
theorem pgs_nil : PGs X [] gNil := by
 intro pins s σ H vs us Q I r h
 obtain ⟨e, h⟩ := h
 subst e
 cases r
 exact assignInOrder_nil ⟨σ, H, I, h⟩
theorem pgs_cons {e : Expr} {es : List Expr} {t : TG} {u : TGs} (h1 : PG X e t) (h2 : PGs X es u)
  (hs : (assignEach (e :: es) X.env).map (·.2) = assign e X.env :: (assignEach es X.env).map (·.2) := by rfl) : PGs X (e :: es) (gCons t u) := by
 intro pins s σ H vs us Q I r h
 obtain ⟨v, vr, e1, h⟩ := h
 subst e1
 cases r with
 | cons r rr =>
  rw [hs]
  refine assignInOrder_cons (thn (h1 pins s σ H _ _ _ I r h) fun _ s1 ⟨σ1, H1, I1, q1⟩ => ?_)
  exact h2 pins s1 σ1 H1 _ _ Q I1 rr q1
def gTup (K : PySem.W.Frag) (n : Nat) (t : TGs) : TG := fun v σ H Q => ∃ a xs, v = .ref a /\ SqT K H a xs /\ xs.length = n /\ t xs σ H Q
theorem pg_tup {es : List Expr} {k : Nat} {t : TGs} {n : Nat} (hc : X.calm = true) (h : PGs X es t)
  (hn : (assignEach es X.env).length = n := by rfl) (hst : (assignEach es X.env).findIdx? (·.1) = none := by rfl) : PG X (.Tuple es k pos) (gTup X.K n t) := by
 intro pins s σ H v u Q I r hw
 obtain ⟨a, xs, e1, hq, hl, hw⟩ := hw
 subst e1
 cases r
 obtain ⟨its, rv, ht, hz⟩ := I.tuple hq
 refine assign_Tuple_tuple (I.ok.hd hc) ht (by simp [hn, <- hl, rv.length]) hst fun h' hx => ?_
 have I1 : Inv X pins σ H { s with heap := h' } := I.kept (t' := s.toks) fun b o e => hx b o (Nat.ne_of_lt (Heap.lt_size e)) e
 exact h pins _ σ H xs _ Q I1 (by simpa using rv) hw
def gSub (to ti : TE) (t : TSet) : TG := fun v σ H Q => to σ H fun o H1 => ti σ H1 fun i H2 => t o i v H2 fun H3 => Q σ H3
theorem pg_sub {o i : Expr} {to ti : TE} {t : TSet} (ho : PE X o to) (hi : PE X i ti) (hs : PSet X t)
  (ha : ∀ v, assign (.Subscript o i pos) X.env v = (do
   let ov <- holding [v] (eval o X.env)
   let iv <- holding [v, ov] (eval i X.env)
   standAt pos
   holding [v, ov, iv] (setItem ov iv v)
   release [v, ov, iv] []) := by intro _; rfl) : PG X (.Subscript o i pos) (gSub to ti t) := by
 intro pins s σ H v u Q I r h
 rw [ha]
 refine wpAny_bind (wpAny_holding (thn (ho pins s σ H _ I h) fun ov s1 ⟨x, H1, I1, r1, q1⟩ => ?_))
 refine wpAny_bind (wpAny_holding (thn (hi pins s1 σ H1 _ I1 q1) fun iv s2 ⟨y, H2, I2, r2, q2⟩ => ?_))
 refine wpAny_bind (wpAny_standAt (wpAny_bind (wpAny_holding (thn (hs pins s2 σ H2 x y v ov iv u _ I2 r1 r2 r q2) fun _ s3 ⟨H3, I3, q3⟩ => ?_))))
 exact wpAny_release ⟨σ, H3, I3, q3⟩
def tAsg (te : TE) (g : TG) : TS := fun D σ H => te σ H fun x H1 => g x σ H1 D.nx
theorem ps_asg {tg e : Expr} {te : TE} {g : TG} (he : PE X e te) (hg : PG X tg g) (hs : swapsWithSole [tg] e pos.line X.env = pure false := by rfl) (hw : swappedStores [tg] e X.env = pure none := by rfl)
  (h1 : (assignEach [tg] X.env).map (·.2) = [assign tg X.env] := by rfl) : PS X (.Assign [tg] e pos) (tAsg te g) := by
 intro pins s σ H D I h
 refine wpAny_Assign_stores (thn (he pins s σ H _ I h) fun v s1 ⟨x, H1, I1, r1, q1⟩ => ?_) hs hw
 rw [h1]
 exact thn (hg pins s1 σ H1 x v _ I1 r1 q1) fun _ s2 q => q
theorem ps_set {i : Nat} {x : Str} {e : Expr} {te : TE} {pos' : Pos} (hN : X.N.Nodup) (hi : X.N[i]? = some x) (hx : Loc X.env.scope x) (he : PE X e te) (hs : swapsWith e (some (.Name x pos')) pos.line X.env = pure false := by rfl) (hf : X.fn x = true \/ X.env.scope.names.lookup x = some .local := by first | exact .inl rfl | exact .inr rfl | assumption) :
  PS X (.Assign [.Name x pos'] e pos) (tAsg te (gName i)) := by
 intro pins s σ H D I h
 refine wpAny_Assign_Name (thn (he pins s σ H _ I h) fun v s1 ⟨y, H1, I1, r1, q1⟩ => ?_) hs
 exact store_ok I1 hN hi hx r1 (fun s2 I2 => ⟨_, H1, I2, q1⟩) hf
def tPar (i j : Nat) (ta : TA) : TS := fun D σ H => ta σ H fun vs H1 => ∃ v w, vs = [v, w] /\ D.nx ((σ.set i (some v)).set j (some w)) H1
theorem ps_par {i j : Nat} {x y : Str} {a b : Expr} {ta : TA} {px py pt : Pos} {kt k2 pt2} (hc : X.calm = true) (hN : X.N.Nodup) (hi : X.N[i]? = some x) (hj : X.N[j]? = some y) (hij : i ≠ j)
  (hx : X.env.scope.names.lookup x = some .local) (hy : X.env.scope.names.lookup y = some .local) (ha : PA X [a, b] ta)
  (hw : swappedStores [.Tuple [.Name x px, .Name y py] kt pt] (.Tuple [a, b] k2 pt2) X.env = pure (some [x, y]))
  (hs : swapsWithSole [.Tuple [.Name x px, .Name y py] kt pt] (.Tuple [a, b] k2 pt2) pos.line X.env = pure false := by rfl) :
  PS X (.Assign [.Tuple [.Name x px, .Name y py] kt pt] (.Tuple [a, b] k2 pt2) pos) (tPar i j ta) := by
 intro pins s σ H D I h
 rw [exec_Assign_arm]
 refine wpAny_bind (wpAny_standAt ?_)
 rw [hs]
 refine wpAny_bind (wpAny_pure ?_)
 rw [if_neg (by decide)]
 refine wpAny_bind (Tuple_ (thn (ha _ pins s σ H _ I h) fun us s1 ⟨vs, H1, I1, r1, q1⟩ => ?_))
 obtain ⟨v, w, e1, q1⟩ := q1
 subst e1
 obtain ⟨u1, u2, rfl, rv, rw'⟩ : ∃ u1 u2, us = [u1, u2] /\ RelV v u1 /\ RelV w u2 := by
  cases r1 with
  | cons p q =>
   cases q with
   | cons p' q' =>
    cases q'
    exact ⟨_, _, rfl, p, p'⟩
 refine wpAny_newObj_type ?_ (by show 2 <= sizeLine; decide)
 have I2 : Inv X pins σ H1 { s1 with heap := s1.heap.push { cls := .type "tuple", data := .seq [u1, u2].toArray } } := I1.kept (t' := s1.toks) fun b o e => Heap.get?_push_of_some _ e
 rw [hw]
 refine wpAny_bind (wpAny_pure ?_)
 show wpAny (model X.prog X.w) X.A (do rule "assign.swapped-stores"; let items <- unpackItems (.ref s1.heap.objs.size) 2 none; assignInOrder [fun v => bindName X.env y v, fun v => bindName X.env x v] items.reverse; pure Flow.next) _ _ _
 refine wpAny_bind (wpAny_rule (wpAny_bind (unpackItems_tuple (items := #[u1, u2]) (I.ok.hd hc) (IsTup.new s1.heap _) fun h' hx' => ?_)))
 have I3 := I2.kept (h' := h') (t' := s1.toks) fun b o e => hx' b o (Nat.ne_of_lt (Heap.lt_size e)) e
 show wpAny _ _ (assignInOrder [fun v => bindName X.env y v, fun v => bindName X.env x v] [u2, u1] >>= fun _ => pure Flow.next) _ _ _
 refine wpAny_bind (assignInOrder_cons (wpAny_bindName (store_ok I3 hN hj (.inl hy) rw' (fun s2 I4 => ?_) (.inr hy))))
 refine assignInOrder_cons (wpAny_bindName (store_ok I4 hN hi (.inl hx) rv (fun s3 I5 => assignInOrder_nil (wpAny_pure ?_)) (.inr hx)))
 rw [List.set_comm _ _ (Ne.symm hij)] at I5
 exact ⟨_, H1, I5, q1⟩
def tAug (i : Nat) (te : TE) (ti : TIp) : TS := fun D σ H => ∃ x, σ[i]? = some (some x) /\ te σ H fun y H1 => ti x y H1 fun z H2 => D.nx (σ.set i (some z)) H2
theorem ps_aug {i : Nat} {x : Str} {e : Expr} {te : TE} {op : Operator} {ti : TIp} {pos' : Pos} (hN : X.N.Nodup) (hi : X.N[i]? = some x) (hx : Loc X.env.scope x) (he : PE X e te) (ho : PIp X op ti) (hf : X.fn x = true \/ X.env.scope.names.lookup x = some .local := by first | exact .inl rfl | exact .inr rfl | assumption) :
  PS X (.AugAssign (.Name x pos') op e pos) (tAug i te ti) := by
 intro pins s σ H D I h
 obtain ⟨v, e1, h⟩ := h
 obtain ⟨m, hn, hl⟩ := I.loc
 have vis : Vis X.env.scope x := by rcases hx with k | k; exact .inl k; exact .inr (.inl k)
 obtain ⟨u, r, l⟩ := hl i x v hi e1 vis
 refine wpAny_AugAssign_Name ?_
 have go : wpAny (model X.prog X.w) X.A (eval e X.env) (fun w s₂ => wpAny (model X.prog X.w) X.A (inplaceOp op u w) (fun r s₃ => wpAny (model X.prog X.w) X.A (storeName X.env x r) (fun _ => SP X pins D .next) X.xe s₃) X.xe s₂) X.xe s := by
  refine thn (he pins s σ H _ I h) fun w s1 ⟨y, H1, I1, r1, q1⟩ => ?_
  refine thn (ho pins s1 σ H1 v y u w _ I1 r r1 q1) fun z s2 ⟨zv, H2, I2, r2, q2⟩ => ?_
  exact store_ok I2 hN hi hx r2 (fun s3 I3 => ⟨_, H2, I3, q2⟩) hf
 rcases l with ⟨hk, hm⟩ | ⟨hk, c, hc, hcell⟩
 ·exact wpAny_loadName_local I.ok.kind hk hn hm go
 ·rcases hk with hk | hk
  ·exact wpAny_loadName_cell I.ok.kind hk hc hcell go
  ·rcases hx with k | k
   ·have : X.env.scope.names.lookup x = some .free := hk
    rw [k] at this; cases this
   ·have : X.env.scope.names.lookup x = some .free := hk
    rw [k] at this; cases this
def ipI (f : Int -> Int -> Int) : TIp := fun x y H Q => ∃ i j, x = .int i /\ y = .int j /\ Q (.int (f i j)) H
theorem ip_sub : PIp X .Sub (ipI fun i j => i - j) := by
 intro pins s σ H x y v u Q I r1 r2 h
 obtain ⟨i, j, e1, e2, q⟩ := h
 subst e1; subst e2
 obtain ⟨t, rfl⟩ := r1
 obtain ⟨t', rfl⟩ := r2
 exact isub_int ⟨.int _, H, I.tok _, ⟨_, rfl⟩, q⟩
end
section
variable {X : Cx} {pos : Pos}
def tWhile (c : TT) (tb : TS) : TS := fun D σ H => ∃ W : Nat -> St -> Hp -> Prop, (∃ m, W m σ H) /\ ∀ m σ H, W m σ H ->
 c σ H fun b H1 => if b = true then ∃ N : St -> Hp -> Prop, (∀ σ' H', N σ' H' -> ∃ m', m' < m /\ W m' σ' H') /\ tb { D with nx := N, ct := N, bk := D.nx } σ H1 else D.nx σ H1
theorem ps_while {c : Expr} {body : List Stmt} {tc : TT} {tb : TS} (hp : PassesOwn (model X.prog X.w) X.A X.env X.xe) (hc : PT X c tc) (hb : PSs X body tb) : PS X (.While c body [] pos) (tWhile tc tb) := by
 intro pins s σ H D I h
 obtain ⟨W, ⟨m0, w0⟩, turn⟩ := h
 refine wpAny_While (codeAny_whileLoop (fun n s' => ∃ σ' H', Inv X pins σ' H' s' /\ W n σ' H') ?_ m0 ⟨σ, H, I, w0⟩)
 rintro n s1 ⟨σ1, H1, I1, w1⟩
 refine wpAny_passesOwn hp (thn (hc pins s1 σ1 H1 _ I1 (turn n σ1 H1 w1)) fun b s2 ⟨H2, I2, q2⟩ => ?_)
 cases b with
 | true =>
  obtain ⟨N, hN, q2⟩ := q2
  rw [if_pos rfl]
  refine wpAny_passesOwn hp (thn (hb pins s2 σ1 H2 _ I2 q2) fun f s3 q3 => ?_)
  cases f with
  | next =>
   obtain ⟨σ3, H3, I3, n3⟩ := q3
   obtain ⟨m', hm, w3⟩ := hN σ3 H3 n3
   exact ⟨m', hm, σ3, H3, I3, w3⟩
  | cont =>
   obtain ⟨σ3, H3, I3, n3⟩ := q3
   obtain ⟨m', hm, w3⟩ := hN σ3 H3 n3
   exact ⟨m', hm, σ3, H3, I3, w3⟩
  | brk => exact q3
  | ret v => exact q3
 | false =>
  rw [if_neg Bool.false_ne_true]
  exact wpAny_execs_nil ⟨σ1, H2, I2, q2⟩
end
structure It where
 go : Nat -> Hp -> Prop
 yld : Nat -> Hp -> V -> Hp -> Prop
 stop : Nat -> Hp -> Prop
def FpOk (X : Cx) (pins : List (Addr × Obj)) (H : Hp) (b : Addr) : Prop :=
 H b = none /\ b ≠ X.env.locals /\ b ∉ X.fs /\ (b ∈ X.ex \/ X.s₀.heap.objs.size <= b) /\ (∀ x c, X.env.cells.lookup x = some c -> c ≠ b) /\ ∀ p ∈ X.pn ++ pins, p.1 ≠ b
theorem Inv.fpOk {X : Cx} {pins : List (Addr × Obj)} {σ : St} {H H' : Hp} {s : Shared} {b : Addr} (I : Inv X pins σ H s) (hb : s.heap.objs.size <= b) (hn : H' b = none) : FpOk X pins H' b := by
 refine ⟨hn, Nat.ne_of_gt (Nat.lt_of_lt_of_le I.lt hb), I.nofs hb, .inr (Nat.le_trans I.sz hb), fun x c e z => ?_, fun p hp z => ?_⟩
 ·obtain ⟨v, q⟩ := I.cell x c e
  exact absurd (Nat.lt_of_lt_of_le q.lt (by rw [z]; exact hb)) (Nat.lt_irrefl _)
 ·exact absurd (Nat.lt_of_lt_of_le (Heap.lt_size (I.pin p hp).1) (by rw [z]; exact hb)) (Nat.lt_irrefl _)
structure Turn (P : Program) (w : World) (K : PySem.W.Frag) (tg : Expr) (J : It) (fp : List Addr) (it : Addr) (tn : Nat -> Heap -> Prop) : Prop where
 mem : it ∈ fp
 obj : ∀ i h, tn i h -> ∀ b ∈ fp, ∃ o, h.get? b = some o /\ ∀ v, o.data ≠ .cell v
 keep : ∀ i h h', tn i h -> (∀ b ∈ fp, ∀ o, h.get? b = some o -> h'.get? b = some o) -> tn i h'
 item : ∀ (X : Cx), X.prog = P -> X.w = w -> X.K = K -> X.calm = true -> ∀ (i : Nat) (pins : List (Addr × Obj)) (s : Shared) (σ : St) (H : Hp) (E : Value -> Shared -> Prop), Inv X pins σ H s -> (∀ b ∈ fp, FpOk X pins H b) -> tn i s.heap -> J.go i H ->
  wpAny (model P w) X.A (pyNext (.ref it)) (fun r s1 => ∃ u, r = some u /\
   wpAny (model P w) X.A (letOwnedTupleGo tg (.ref it) u) (fun _ s2 => ∃ x H', Inv X pins σ H' s2 /\ RelV x u /\ J.yld i H x H' /\ tn (i + 1) s2.heap /\ ∀ b ∈ fp, H' b = none) E s1) E s
 done : ∀ (X : Cx), X.prog = P -> X.w = w -> X.K = K -> X.calm = true -> ∀ (i : Nat) (pins : List (Addr × Obj)) (s : Shared) (σ : St) (H : Hp) (E : Value -> Shared -> Prop), Inv X pins σ H s -> (∀ b ∈ fp, FpOk X pins H b) -> tn i s.heap -> J.stop i H ->
  wpAny (model P w) X.A (pyNext (.ref it)) (fun r s1 => r = none /\ Inv X pins σ H s1) E s
 self : ∀ (A : Around) (i : Nat) (s : Shared) (Q : Value -> Shared -> Prop) (E : Value -> Shared -> Prop), tn i s.heap -> Q (.ref it) s -> wpAny (model P w) A (pyIter (.ref it)) Q E s
abbrev TI := St -> Hp -> (It -> Hp -> Prop) -> Prop
def PIE (X : Cx) (pins : List (Addr × Obj)) (σ : St) (tg : Expr) (R : It -> Hp -> Prop) (itv : Value) (s2 : Shared) : Prop :=
 ∃ (it : Addr) (fp : List Addr) (tn : Nat -> Heap -> Prop) (J : It) (H' : Hp), itv = .ref it /\ Inv X pins σ H' s2 /\ Turn X.prog X.w X.K tg J fp it tn /\ tn 0 s2.heap /\ (∀ b ∈ fp, FpOk X pins H' b) /\ R J H'
def PI (X : Cx) (tg iter : Expr) (wi : TI) : Prop :=
 ∀ (pins : List (Addr × Obj)) (s : Shared) (σ : St) (H : Hp) (R : It -> Hp -> Prop), Inv X pins σ H s -> wi σ H R ->
  wpAny (model X.prog X.w) X.A (eval iter X.env) (fun v s1 => wpAny (model X.prog X.w) X.A (pyIter v) (PIE X pins σ tg R) X.xe s1) X.xe s
theorem go_of {M : Model} {A : Around} {E : Value -> Shared -> Prop} {s : Shared} {tg : Expr} {it : Addr} {u : Value} {o : Obj} {n : String} {vs : Array Value} {Q : Unit -> Shared -> Prop} (ho : s.heap.get? it = some o) (hc : o.cls = .type n) (hd : o.data = .fields vs)
  (hn : ["enumerate", "zip", "dict_itemiterator", "dict_reverseitemiterator", "odict_iterator", "itertools.zip_longest", "itertools.pairwise"].contains n = false) (hQ : Q () s) : wpAny M A (letOwnedTupleGo tg (.ref it) u) Q E s := by
 unfold letOwnedTupleGo
 cases tg <;> first
  | exact wpAny_pure hQ
  | (cases u <;> first
    | exact wpAny_pure hQ
    | (refine wpAny_bind (wpAny_load ho ?_)
       rw [hc, hd]
       show wpAny M A (if (["enumerate", "zip", "dict_itemiterator", "dict_reverseitemiterator", "odict_iterator", "itertools.zip_longest", "itertools.pairwise"].contains n && vs[0]? == some (rawInt _)) = true then _ else _) Q E s
       rw [if_neg (by intro h; rw [hn, Bool.false_and] at h; cases h)]
       exact wpAny_pure hQ))
def Itl (K : PySem.W.Frag) (a : Addr) : It :=
 ⟨fun i H => ∃ xs x, SqL K H a xs /\ xs[i]? = some x, fun i H x H' => H' = H /\ ∀ xs, SqL K H a xs -> xs[i]? = some x, fun i H => ∃ xs, SqL K H a xs /\ xs.length <= i⟩
def Itr (lo : Int) (n : Nat) : It := ⟨fun i _ => i < n, fun i H x H' => H' = H /\ x = .int (lo + i), fun i _ => n <= i⟩
theorem turn_list {P : Program} {w : World} {K : PySem.W.Frag} {tg : Expr} (a it : Addr) : Turn P w K tg (Itl K a) [it] it (fun i h => h.IsListIter it a i) where
 mem := by simp
 obj := fun i h st b hb => by
  have e : b = it := by simpa using hb
  subst e
  obtain ⟨o, e, c, d⟩ := st
  exact ⟨o, e, fun v z => by rw [d] at z; cases z⟩
 keep := fun i h h' st k => st.at fun o e => k it (by simp) o e
 item := by
  intro X hP hw hK hc i pins s σ H E I hf st hg
  subst hP hw hK
  obtain ⟨xs, x, hq, hx⟩ := hg
  obtain ⟨its, rv, p, hz⟩ := I.list hq
  obtain ⟨u, hu, ru⟩ := rv.get hx
  obtain ⟨f0, f1, f2, f3, f4, f5⟩ := hf it (by simp)
  refine wpAny_pyNext_list_item st p.isList (x := u) (by simpa using hu) fun h' st' sb => ?_
  have I1 : Inv X pins σ H { s with heap := h' } := I.turned (t' := s.toks) (fun b o hb e => (sb.2 b hb).trans e) f0 f1 f3 f4 f5
  obtain ⟨o, e, c, d⟩ := id st'
  exact ⟨u, rfl, go_of (s := { s with heap := h' }) e c d (by decide) ⟨x, H, I1, ru, ⟨rfl, fun ys hy => by rw [I.list_inj hy hq]; exact hx⟩, st', fun b hb => (hf b hb).1⟩⟩
 done := by
  intro X hP hw hK hc i pins s σ H E I hf st hg
  subst hP hw hK
  obtain ⟨xs, hq, hx⟩ := hg
  obtain ⟨its, rv, p, hz⟩ := I.list hq
  obtain ⟨f0, f1, f2, f3, f4, f5⟩ := hf it (by simp)
  have hl := rv.length
  exact wpAny_pyNext_list_end (I.ok.hd hc) st p.isList (by simp; omega) fun h' eb => ⟨rfl, I.turned (t' := s.toks) (fun b o hb e => eb b o hb e) f0 f1 f3 f4 f5⟩
 self := fun _ _ _ _ _ st h => wpAny_pyIter_listiter st h
theorem turn_range {P : Program} {w : World} {K : PySem.W.Frag} {tg : Expr} (it : Addr) (lo : Int) (n : Nat) : Turn P w K tg (Itr lo n) [it] it (fun i h => IsRangeIter h it (lo + (i : Nat) * 1) ((n : Int) - (i : Nat)) 1) where
 mem := by simp
 obj := fun i h st b hb => by
  have e : b = it := by simpa using hb
  subst e
  exact ⟨_, st, fun v z => by
   have z' : Data.fields _ = Data.cell v := z
   cases z'⟩
 keep := fun i h h' st k => k it (by simp) _ st
 item := by
  intro X hP hw hK hc i pins s σ H E I hf st hg
  subst hP hw hK
  obtain ⟨f0, f1, f2, f3, f4, f5⟩ := hf it (by simp)
  have W := Walks.range (prog := X.prog) (w := X.w) (I.ok.hd hc) it lo 1 n
  refine W.item i s _ _ hg st fun v h' tk hv st' kk => ?_
  obtain ⟨t, rfl⟩ := hv
  have I1 : Inv X pins σ H { s with heap := h', toks := tk } := I.turned (fun b o hb e => kk b o (by simpa using hb) e) f0 f1 f3 f4 f5
  refine ⟨_, rfl, go_of (s := { s with heap := h', toks := tk }) (n := "range_iterator") st' rfl rfl (by decide) ⟨.int (lo + i), H, I1, ⟨t, ?_⟩, ⟨rfl, rfl⟩, st', fun b hb => (hf b hb).1⟩⟩
  rw [Int.mul_one]
 done := by
  intro X hP hw hK hc i pins s σ H E I hf st hg
  subst hP hw hK
  obtain ⟨f0, f1, f2, f3, f4, f5⟩ := hf it (by simp)
  exact wpAny_pyNext_range_end (I.ok.hd hc) st (by have : n <= i := hg; omega) fun h' eb => ⟨rfl, I.turned (t' := s.toks) (fun b o hb e => eb b o hb e) f0 f1 f3 f4 f5⟩
 self := fun _ _ _ _ _ st h => wpAny_pyIter_rangeiter st h
end L2
namespace L2
open PySem PySem.Spec PyProof.Rows
section
variable {X : Cx} {tg : Expr}
def iList (K : PySem.W.Frag) (tl : TE) : TI := fun σ H R => tl σ H fun x H1 => ∃ a, x = .ref a /\ (∃ xs, SqL K H1 a xs) /\ R (Itl K a) H1
theorem pi_list {l : Expr} {tl : TE} (hl : PE X l tl) : PI X tg l (iList X.K tl) := by
 intro pins s σ H R I h
 refine thn (hl pins s σ H _ I h) fun v s1 ⟨x, H1, I1, r1, q1⟩ => ?_
 obtain ⟨a, e, ⟨xs, hq⟩, q⟩ := q1
 subst e
 cases r1
 obtain ⟨its, rv, p, hz⟩ := I1.list hq
 refine wpAny_pyIter_list p.isList ?_
 refine ⟨s1.heap.objs.size, [s1.heap.objs.size], _, _, H1, rfl, I1.kept (t' := s1.toks) fun b o e => Heap.get?_push_of_some _ e, turn_list a _, ⟨_, Heap.get?_push_size _ rfl, rfl, rfl⟩, fun b hb => ?_, q⟩
 have e : b = s1.heap.objs.size := by simpa using hb
 subst e
 exact I1.fpOk (Nat.le_refl _) (I1.hok.fresh (Nat.le_refl _))
theorem range_it {pins : List (Addr × Obj)} {σ : St} {H : Hp} {s : Shared} {R : It -> Hp -> Prop} {E : Value -> Shared -> Prop} {lo hi : Int} {t u v : Tok} {tk : Nat} (I : Inv X pins σ H s) (h1 : -(2 ^ 62) <= lo) (h2 : lo < 2 ^ 62) (h3 : -(2 ^ 62) <= hi) (h4 : hi < 2 ^ 62)
  (q : R (Itr lo (hi - lo).toNat) H) : wpAny (model X.prog X.w) X.A (pyIter (.ref s.heap.objs.size)) (PIE X pins σ tg R) E { s with heap := s.heap.push { cls := .type "range", data := .fields #[.int lo t, .int hi u, .int 1 v] }, toks := tk } := by
 refine wpAny_pyIter_range (IsRange.new ..) (small_one h1 h2 h3 h4) ?_
 have I1 : Inv X pins σ H { s with heap := s.heap.push { cls := .type "range", data := .fields #[.int lo t, .int hi u, .int 1 v] }, toks := tk } := I.kept fun b o e => Heap.get?_push_of_some _ e
 refine ⟨(s.heap.push { cls := .type "range", data := .fields #[.int lo t, .int hi u, .int 1 v] }).objs.size, [(s.heap.push { cls := .type "range", data := .fields #[.int lo t, .int hi u, .int 1 v] }).objs.size], _, _, H, rfl,
  I1.kept (t' := tk) fun b o e => Heap.get?_push_of_some _ e, turn_range _ lo (hi - lo).toNat, ?_, fun b hb => ?_, q⟩
 ·have e1 : lo + ((0 : Nat) : Int) * 1 = lo := by simp
  have e2 : (((hi - lo).toNat : Nat) : Int) - ((0 : Nat) : Int) = Builtin.Range.rangeSize lo hi 1 := by rw [rangeSize_one]; split <;> omega
  show IsRangeIter _ _ (lo + ((0 : Nat) : Int) * 1) ((((hi - lo).toNat : Nat) : Int) - ((0 : Nat) : Int)) 1
  rw [e1, e2]
  exact Heap.get?_push_size _ rfl
 ·have e : b = (s.heap.push { cls := .type "range", data := .fields #[.int lo t, .int hi u, .int 1 v] }).objs.size := by simpa using hb
  subst e
  exact I1.fpOk (Nat.le_refl _) (I1.hok.fresh (Nat.le_refl _))
def iRng1 (ta : TA) : TI := fun σ H R => ta σ H fun vs H1 => ∃ j : Int, vs = [.int j] /\ -(2 ^ 62) <= j /\ j < 2 ^ 62 /\ R (Itr 0 j.toNat) H1
def iRng2 (ta : TA) : TI := fun σ H R => ta σ H fun vs H1 => ∃ i j : Int, vs = [.int i, .int j] /\ (-(2 ^ 62) <= i /\ i < 2 ^ 62 /\ -(2 ^ 62) <= j /\ j < 2 ^ 62) /\ R (Itr i (j - i).toNat) H1
theorem pi_range1 {a : Expr} {ta : TA} {p pos : Pos} (hg : Gl X "range") (hm : X.mg "range" = none) (ha : PA X [a] ta) (hs : starEach [a] X.env = [(false, eval a X.env)] := by rfl) : PI X tg (.Call (.Name "range" p) [a] [] pos) (iRng1 ta) := by
 intro pins s σ H R I h
 refine Call_ (ld_blt I hg hm boot_range (PyProof.Rows.callWith_type1 (thn (ha pos pins s σ H _ I h) fun us s1 ⟨vs, H1, I1, r1, q1⟩ => ?_) hs rfl))
 obtain ⟨j, e, q1, q2, q⟩ := q1
 subst e
 cases r1 with
 | cons r rr =>
  cases rr
  obtain ⟨t, rfl⟩ := r
  exact call_range_1 (range_it I1 (by omega) (by omega) q1 q2 (by simpa using q))
theorem pi_range2 {a b : Expr} {ta : TA} {p pos : Pos} (hg : Gl X "range") (hm : X.mg "range" = none) (ha : PA X [a, b] ta) (hs : starEach [a, b] X.env = [(false, eval a X.env), (false, eval b X.env)] := by rfl) (hs2 : starEach [b] X.env = [(false, eval b X.env)] := by rfl) :
  PI X tg (.Call (.Name "range" p) [a, b] [] pos) (iRng2 ta) := by
 intro pins s σ H R I h
 refine Call_ (ld_blt I hg hm boot_range (PyProof.Rows.callWith_type1 (thn (ha pos pins s σ H _ I h) fun us s1 ⟨vs, H1, I1, r1, q1⟩ => ?_) (by rw [hs, hs2]) (by rw [hs2]; rfl)))
 obtain ⟨i, j, e, ⟨q1, q2, q3, q4⟩, q⟩ := q1
 subst e
 cases r1 with
 | cons r rr =>
  cases rr with
  | cons r' rr =>
   cases rr
   obtain ⟨t, rfl⟩ := r
   obtain ⟨t', rfl⟩ := r'
   exact call_range_2 (range_it I1 q1 q2 q3 q4 q)
def tFor (wi : TI) (g : TG) (tb : TS) : TS := fun D σ H => wi σ H fun J H1 => ∃ W : Nat -> Nat -> St -> Hp -> Prop, (∃ m, W 0 m σ H1) /\ ∀ i m σ H, W i m σ H ->
 (J.stop i H /\ D.nx σ H) \/ (J.go i H /\ ∃ N : St -> Hp -> Prop, (∀ σ' H', N σ' H' -> ∃ m', m' < m /\ W (i + 1) m' σ' H') /\ ∀ x H', J.yld i H x H' -> g x σ H' fun σ2 H2 => tb { D with nx := N, ct := N, bk := D.nx } σ2 H2)
def pinsAt (fp : List Addr) (h : Heap) : List (Addr × Obj) := fp.filterMap fun b => (h.get? b).map fun o => (b, o)
theorem mem_pinsAt {fp : List Addr} {h : Heap} {b : Addr} {o : Obj} (hb : b ∈ fp) (e : h.get? b = some o) : (b, o) ∈ pinsAt fp h := List.mem_filterMap.mpr ⟨b, hb, by rw [e]; rfl⟩
theorem of_pinsAt {fp : List Addr} {h : Heap} {p : Addr × Obj} (hp : p ∈ pinsAt fp h) : p.1 ∈ fp /\ h.get? p.1 = some p.2 := by
 obtain ⟨b, hb, e⟩ := List.mem_filterMap.mp hp
 cases q : h.get? b with
 | none => rw [q] at e; cases e
 | some o =>
  rw [q] at e
  have e' : (b, o) = p := Option.some.inj e
  subst e'
  exact ⟨hb, q⟩
theorem Inv.pinned {pins : List (Addr × Obj)} {σ : St} {H : Hp} {s : Shared} {fp : List Addr} (I : Inv X pins σ H s) (hf : ∀ b ∈ fp, FpOk X pins H b) (ho : ∀ b ∈ fp, ∃ o, s.heap.get? b = some o /\ ∀ v, o.data ≠ .cell v) : Inv X (pins ++ pinsAt fp s.heap) σ H s :=
 I.pins_of fun p hp => (List.mem_append.mp hp).elim (fun z => I.pin p (List.mem_append_right _ z)) fun z => by
  obtain ⟨hb, e⟩ := of_pinsAt z
  obtain ⟨f0, f1, f2, _⟩ := hf p.1 hb
  obtain ⟨o, e', d⟩ := ho p.1 hb
  rw [e] at e'; cases e'
  exact ⟨e, f0, f1, f2, d⟩
theorem Inv.unpinned {pins pl : List (Addr × Obj)} {σ : St} {H : Hp} {s : Shared} (I : Inv X (pins ++ pl) σ H s) : Inv X pins σ H s := I.pins_of fun p hp => I.pin p (List.mem_append_right _ (List.mem_append_left _ hp))
theorem ps_for {iter : Expr} {body : List Stmt} {wi : TI} {g : TG} {tb : TS} {pos : Pos} (hp : PassesOwn (model X.prog X.w) X.A X.env X.xe) (hc : X.calm = true) (hi : PI X tg iter wi) (hg : PG X tg g) (hb : PSs X body tb)
  (hs : ∀ x, foldedSetIterable iter X.env x = pure x := by intro _; rfl) : PS X (.For tg iter body [] pos) (tFor wi g tb) := by
 intro pins s σ H D I h
 refine wpAny_For (thn (hi pins s σ H _ I h) fun v s1 h1 => thn h1 fun itv s2 h2 => ?_) hs
 obtain ⟨it, fp, tn, J, H2, e, I2, T, st2, f2, W, ⟨m0, w0⟩, turn⟩ := h2
 subst e
 have stat : ∀ {H' : Hp}, (∀ b ∈ fp, H' b = none) -> ∀ b ∈ fp, FpOk X pins H' b := fun hn b hb => ⟨hn b hb, (f2 b hb).2⟩
 refine codeAny_forLoop_any (fun n s' => ∃ i σ' H', Inv X pins σ' H' s' /\ tn i s'.heap /\ (∀ b ∈ fp, H' b = none) /\ W i n σ' H') ?_ m0 ⟨0, σ, H2, I2, st2, fun b hb => (f2 b hb).1, w0⟩
 rintro n s3 ⟨i, σ3, H3, I3, st3, fr3, w3⟩
 rcases turn i n σ3 H3 w3 with ⟨stop, qn⟩ | ⟨go, N, hN, step⟩
 ·refine wpAny_passesOwn hp (thn (T.done X rfl rfl rfl hc i pins s3 σ3 H3 X.xe I3 (stat fr3) st3 stop) fun r s4 ⟨hr, I4⟩ => ?_)
  subst hr
  exact wpAny_execs_nil ⟨σ3, H3, I4, qn⟩
 ·refine wpAny_passesOwn hp (thn (T.item X rfl rfl rfl hc i pins s3 σ3 H3 X.xe I3 (stat fr3) st3 go) fun r s4 ⟨u, hr, h4⟩ => ?_)
  subst hr
  refine wpAny_passesOwn hp (thn h4 fun _ s5 ⟨x, H5, I5, r5, y5, st5, fr5⟩ => ?_)
  have I5' := I5.pinned (stat fr5) (T.obj _ _ st5)
  refine wpAny_passesOwn hp (thn (hg _ s5 σ3 H5 x u _ I5' r5 (step x H5 y5)) fun _ s6 ⟨σ6, H6, I6, q6⟩ => ?_)
  refine wpAny_passesOwn hp (thn (hb _ s6 σ6 H6 _ I6 q6) fun f s7 q7 => ?_)
  have again : ∀ {σ7 : St} {H7 : Hp}, Inv X (pins ++ pinsAt fp s5.heap) σ7 H7 s7 -> N σ7 H7 -> ∃ m, m < n /\ ∃ i σ' H', Inv X pins σ' H' s7 /\ tn i s7.heap /\ (∀ b ∈ fp, H' b = none) /\ W i m σ' H' := fun {σ7 H7} I7 n7 => by
   obtain ⟨m', hm, w7⟩ := hN σ7 H7 n7
   refine ⟨m', hm, i + 1, σ7, H7, I7.unpinned, T.keep _ _ _ st5 fun b hb o e => (I7.pin (b, o) (List.mem_append_right _ (List.mem_append_right _ (mem_pinsAt hb e)))).1, fun b hb => ?_, w7⟩
   obtain ⟨o, e, d⟩ := T.obj _ _ st5 b hb
   exact (I7.pin (b, o) (List.mem_append_right _ (List.mem_append_right _ (mem_pinsAt hb e)))).2.1
  cases f with
  | next => obtain ⟨σ7, H7, I7, n7⟩ := q7; exact again I7 n7
  | cont => obtain ⟨σ7, H7, I7, n7⟩ := q7; exact again I7 n7
  | brk => obtain ⟨σ7, H7, I7, q7⟩ := q7; exact ⟨σ7, H7, I7.unpinned, q7⟩
  | ret v => obtain ⟨x7, σ7, H7, I7, r7, q7⟩ := q7; exact ⟨x7, σ7, H7, I7.unpinned, r7, q7⟩
end
theorem for_list {K : PySem.W.Frag} {a : Addr} {xs : List V} {g : TG} {tb : TS} {D : Ends} {σ : St} {H : Hp} (Pv : Nat -> St -> Hp -> Prop) (h0 : Pv 0 σ H) (hl : ∀ i σ H, i <= xs.length -> Pv i σ H -> SqL K H a xs)
  (hs : ∀ i x σ H, xs[i]? = some x -> Pv i σ H -> g x σ H fun σ2 H2 => tb { D with nx := Pv (i + 1), ct := Pv (i + 1), bk := D.nx } σ2 H2) (hd : ∀ σ H, Pv xs.length σ H -> D.nx σ H) :
  ∃ W : Nat -> Nat -> St -> Hp -> Prop, (∃ m, W 0 m σ H) /\ ∀ i m σ H, W i m σ H ->
   ((Itl K a).stop i H /\ D.nx σ H) \/ ((Itl K a).go i H /\ ∃ N : St -> Hp -> Prop, (∀ σ' H', N σ' H' -> ∃ m', m' < m /\ W (i + 1) m' σ' H') /\ ∀ x H', (Itl K a).yld i H x H' -> g x σ H' fun σ2 H2 => tb { D with nx := N, ct := N, bk := D.nx } σ2 H2) := by
 refine ⟨fun i m σ H => m = xs.length - i /\ i <= xs.length /\ Pv i σ H, ⟨xs.length, by simp, Nat.zero_le _, h0⟩, ?_⟩
 rintro i m σ H ⟨rfl, hi, p⟩
 have q := hl i σ H hi p
 by_cases hlt : i < xs.length
 ·refine .inr ⟨⟨xs, xs[i], q, by simp [hlt]⟩, Pv (i + 1), fun σ' H' p' => ⟨xs.length - (i + 1), by omega, rfl, hlt, p'⟩, fun x H' y => ?_⟩
  obtain ⟨e, y⟩ := y
  subst e
  exact hs i x σ _ (y xs q) p
 ·have e : i = xs.length := by omega
  subst e
  exact .inl ⟨⟨xs, q, Nat.le_refl _⟩, hd σ H p⟩
theorem for_range {lo : Int} {n : Nat} {g : TG} {tb : TS} {D : Ends} {σ : St} {H : Hp} (Pv : Nat -> St -> Hp -> Prop) (h0 : Pv 0 σ H)
  (hs : ∀ i σ H, i < n -> Pv i σ H -> g (.int (lo + i)) σ H fun σ2 H2 => tb { D with nx := Pv (i + 1), ct := Pv (i + 1), bk := D.nx } σ2 H2) (hd : ∀ σ H, Pv n σ H -> D.nx σ H) :
  ∃ W : Nat -> Nat -> St -> Hp -> Prop, (∃ m, W 0 m σ H) /\ ∀ i m σ H, W i m σ H ->
   ((Itr lo n).stop i H /\ D.nx σ H) \/ ((Itr lo n).go i H /\ ∃ N : St -> Hp -> Prop, (∀ σ' H', N σ' H' -> ∃ m', m' < m /\ W (i + 1) m' σ' H') /\ ∀ x H', (Itr lo n).yld i H x H' -> g x σ H' fun σ2 H2 => tb { D with nx := N, ct := N, bk := D.nx } σ2 H2) := by
 refine ⟨fun i m σ H => m = n - i /\ i <= n /\ Pv i σ H, ⟨n, by simp, Nat.zero_le _, h0⟩, ?_⟩
 rintro i m σ H ⟨rfl, hi, p⟩
 by_cases hlt : i < n
 ·refine .inr ⟨hlt, Pv (i + 1), fun σ' H' p' => ⟨n - (i + 1), by omega, rfl, hlt, p'⟩, fun x H' y => ?_⟩
  obtain ⟨e, y⟩ := y
  subst e y
  exact hs i σ _ hlt p
 ·have e : i = n := by omega
  subst e
  exact .inl ⟨Nat.le_refl _, hd σ H p⟩
end L2
namespace L2
open PySem PySem.Spec PyProof.Rows
abbrev R2 := V -> V -> Hp -> VK -> Prop
def OpR (X : Cx) (f : Value -> Value -> Sem Value) (r : R2) : Prop :=
 ∀ (pins : List (Addr × Obj)) (s : Shared) (σ : St) (H : Hp) (x y : V) (v u : Value) (Q : VK), Inv X pins σ H s -> RelV x v -> RelV y u -> r x y H Q ->
  wpAny (model X.prog X.w) X.A (f v u) (EP X pins σ Q) X.xe s
def UnR (X : Cx) (f : Value -> Sem Value) (r : V -> Hp -> VK -> Prop) : Prop :=
 ∀ (pins : List (Addr × Obj)) (s : Shared) (σ : St) (H : Hp) (x : V) (v : Value) (Q : VK), Inv X pins σ H s -> RelV x v -> r x H Q ->
  wpAny (model X.prog X.w) X.A (f v) (EP X pins σ Q) X.xe s
def CallR (X : Cx) (f : Value) (r : List V -> Hp -> VK -> Prop) : Prop :=
 ∀ (pins : List (Addr × Obj)) (s : Shared) (σ : St) (H : Hp) (xs : List V) (us : List Value) (Q : VK), Inv X pins σ H s -> Vals xs us -> r xs H Q ->
  wpAny (model X.prog X.w) X.A (call f us) (EP X pins σ Q) X.xe s
def TruR (X : Cx) (r : V -> Hp -> (Bool -> Hp -> Prop) -> Prop) : Prop :=
 ∀ (pins : List (Addr × Obj)) (s : Shared) (σ : St) (H : Hp) (x : V) (v : Value) (Q : Bool -> Hp -> Prop), Inv X pins σ H s -> RelV x v -> r x H Q ->
  wpAny (model X.prog X.w) X.A (truthy v) (TP X pins σ Q) X.xe s
def tOp (r : R2) (ta tb : TE) : TE := fun σ H Q => ta σ H fun x H1 => tb σ H1 fun y H2 => r x y H2 Q
def tUn (r : V -> Hp -> VK -> Prop) (ta : TE) : TE := fun σ H Q => ta σ H fun x H1 => r x H1 Q
def rI (C : Int -> Int -> Prop) (g : Int -> Int -> V) : R2 := fun x y H Q => ∃ i j, x = .int i /\ y = .int j /\ C i j /\ Q (g i j) H
def rI0 (g : Int -> Int -> V) : R2 := fun x y H Q => ∃ i j, x = .int i /\ y = .int j /\ Q (g i j) H
def rU (g : Int -> V) : V -> Hp -> VK -> Prop := fun x H Q => ∃ i, x = .int i /\ Q (g i) H
section
variable {X : Cx} {a b c : Expr} {ta tb tc : TE} {pos : Pos}
theorem binT (ha : PE X a ta) (hb : PE X b tb) {pins : List (Addr × Obj)} {s : Shared} {σ : St} {H : Hp} {R : V -> V -> Hp -> Prop} (I : Inv X pins σ H s)
  (h : ta σ H fun x H1 => tb σ H1 fun y H2 => R x y H2) {Q : Value -> Shared -> Prop} {f : Value -> Value -> Sem Value}
  (hf : ∀ v u s2 x y H2, Inv X pins σ H2 s2 -> RelV x v -> RelV y u -> R x y H2 -> wpAny (model X.prog X.w) X.A (f v u) Q X.xe s2) :
  wpAny (model X.prog X.w) X.A (eval a X.env) (fun v s₁ => wpAny (model X.prog X.w) X.A (eval b X.env) (fun u s₂ => wpAny (model X.prog X.w) X.A (f v u) Q X.xe s₂) X.xe s₁) X.xe s := by
 refine thn (ha pins s σ H _ I h) fun v s1 ⟨x, H1, I1, r1, q1⟩ => ?_
 refine thn (hb pins s1 σ H1 _ I1 q1) fun u s2 ⟨y, H2, I2, r2, q2⟩ => ?_
 exact hf v u s2 x y H2 I2 r1 r2 q2
theorem pe_op {op : Operator} {r : R2} (ho : OpR X (binaryOp op) r) (ha : PE X a ta) (hb : PE X b tb) : PE X (.BinOp a op b pos) (tOp r ta tb) := by
 intro pins s σ H Q I h
 exact wpAny_BinOp (binT ha hb I h fun v u s2 x y H2 I2 rx ry q => ho pins s2 σ H2 x y v u Q I2 rx ry q)
theorem pe_un {op : UnaryOp} {r : V -> Hp -> VK -> Prop} (ho : UnR X (unaryOp op) r) (ha : PE X a ta) : PE X (.UnaryOp op a pos) (tUn r ta) := by
 intro pins s σ H Q I h
 exact UnaryOp_ (thn (ha pins s σ H _ I h) fun v s1 ⟨x, H1, I1, r1, q1⟩ => ho pins s1 σ H1 x v Q I1 r1 q1)
theorem opI {f : Value -> Value -> Sem Value} {C : Int -> Int -> Prop} {g : Int -> Int -> Int}
  (rule : ∀ (i j : Int) (t u : Tok) (s : Shared) (Q : Value -> Shared -> Prop) (E : Value -> Shared -> Prop), C i j -> Q (.int (g i j) s.toks) { s with toks := s.toks + 1 } -> wpAny (model X.prog X.w) X.A (f (.int i t) (.int j u)) Q E s) :
  OpR X f (rI C fun i j => .int (g i j)) := by
 intro pins s σ H x y v u Q I rx ry h
 obtain ⟨i, j, rfl, rfl, hc, q⟩ := h
 obtain ⟨t, rfl⟩ := rx
 obtain ⟨t', rfl⟩ := ry
 exact rule i j t t' s _ _ hc ⟨.int (g i j), H, I.tok _, ⟨_, rfl⟩, q⟩
theorem opI0 {f : Value -> Value -> Sem Value} {g : Int -> Int -> Int}
  (rule : ∀ (i j : Int) (t u : Tok) (s : Shared) (Q : Value -> Shared -> Prop) (E : Value -> Shared -> Prop), Q (.int (g i j) s.toks) { s with toks := s.toks + 1 } -> wpAny (model X.prog X.w) X.A (f (.int i t) (.int j u)) Q E s) :
  OpR X f (rI0 fun i j => .int (g i j)) := by
 intro pins s σ H x y v u Q I rx ry h
 obtain ⟨i, j, rfl, rfl, q⟩ := h
 obtain ⟨t, rfl⟩ := rx
 obtain ⟨t', rfl⟩ := ry
 exact rule i j t t' s _ _ ⟨.int (g i j), H, I.tok _, ⟨_, rfl⟩, q⟩
theorem opB0 {f : Value -> Value -> Sem Value} {g : Int -> Int -> Bool}
  (rule : ∀ (i j : Int) (t u : Tok) (s : Shared) (Q : Value -> Shared -> Prop) (E : Value -> Shared -> Prop), Q (.bool (g i j)) s -> wpAny (model X.prog X.w) X.A (f (.int i t) (.int j u)) Q E s) :
  OpR X f (rI0 fun i j => .bl (g i j)) := by
 intro pins s σ H x y v u Q I rx ry h
 obtain ⟨i, j, rfl, rfl, q⟩ := h
 obtain ⟨t, rfl⟩ := rx
 obtain ⟨t', rfl⟩ := ry
 exact rule i j t t' s _ _ ⟨.bl (g i j), H, I, rfl, q⟩
def CDiv (i j : Int) : Prop := 0 < j /\ j < 1073741824
def CPow (i j : Int) : Prop := 0 <= j /\ j <= 1000000 /\ i.natAbs < 2 ^ 64
def CMul (i j : Int) : Prop := (-(2 ^ 64) < i /\ i < 2 ^ 64) \/ (-(2 ^ 64) < j /\ j < 2 ^ 64)
theorem CMul.ok {i j : Int} (h : CMul i j) : IntMulOk i j := by
 rcases h with ⟨h1, h2⟩ | ⟨h1, h2⟩
 ·exact .of_left (intBits_le_64 h1 h2)
 ·exact .of_right (intBits_le_64 h1 h2)
theorem op_add : OpR X (binaryOp .Add) (rI0 fun i j => .int (i + j)) := opI0 fun _ _ _ _ _ _ _ q => add_int q
theorem op_sub : OpR X (binaryOp .Sub) (rI0 fun i j => .int (i - j)) := opI0 fun _ _ _ _ _ _ _ q => sub_int q
theorem op_mul : OpR X (binaryOp .Mult) (rI CMul fun i j => .int (i * j)) := opI fun _ _ _ _ _ _ _ hc q => mul_int q hc.ok
theorem op_fdiv : OpR X (binaryOp .FloorDiv) (rI CDiv fun i j => .int (i / j)) := opI fun i j _ _ _ _ _ hc q => by
 have h1 : (0 : Int) < j := hc.1
 have h2 : j < 1073741824 := hc.2
 exact floordiv_int (by omega) (by rw [Int.fdiv_eq_ediv_of_nonneg i (by omega)]; exact q) (.inl (PyProof.noPylong_small (by omega)))
theorem op_mod : OpR X (binaryOp .Mod) (rI (fun _ j => 0 < j) fun i j => .int (i % j)) := opI fun i j _ _ _ _ _ hc q => by
 have h1 : (0 : Int) < j := hc
 exact mod_int' (by omega) (by rw [Int.fmod_eq_emod_of_nonneg i (by omega)]; exact q)
theorem op_pow : OpR X (binaryOp .Pow) (rI CPow fun i j => .int (i ^ j.toNat)) := opI fun _ _ _ _ _ _ _ hc q => pow_int_small hc.1 hc.2.1 hc.2.2 q
theorem unI {f : Value -> Sem Value} {g : Int -> Int}
  (rule : ∀ (i : Int) (t : Tok) (s : Shared) (Q : Value -> Shared -> Prop) (E : Value -> Shared -> Prop), Q (.int (g i) s.toks) { s with toks := s.toks + 1 } -> wpAny (model X.prog X.w) X.A (f (.int i t)) Q E s) :
  UnR X f (rU fun i => .int (g i)) := by
 intro pins s σ H x v Q I rx h
 obtain ⟨i, rfl, q⟩ := h
 obtain ⟨t, rfl⟩ := rx
 exact rule i t s _ _ ⟨.int (g i), H, I.tok _, ⟨_, rfl⟩, q⟩
theorem un_neg : UnR X (unaryOp .USub) (rU fun i => .int (-i)) := unI fun _ _ _ _ _ q => neg_int q
end
def scal : V -> V -> Bool
 | .non, .non => true | .non, .int _ => true | .int _, .non => true | .non, .bl _ => true | .bl _, .non => true | .non, .str _ => true | .str _, .non => true
 | .int _, .int _ => true | .bl _, .bl _ => true | .str _, .str _ => true | .byt _, .byt _ => true
 | .int _, .str _ => true | .str _, .int _ => true | .bl _, .str _ => true | .str _, .bl _ => true
 | _, _ => false
def rEq : R2 := fun x y H Q => scal x y = true /\ Q (.bl (decide (x = y))) H
def rNe : R2 := fun x y H Q => scal x y = true /\ Q (.bl (!decide (x = y))) H
theorem dec_int {i j : Int} : decide (V.int i = V.int j) = (i == j) := by
 rw [Bool.eq_iff_iff]
 simp
theorem dec_bl {i j : Bool} : decide (V.bl i = V.bl j) = (i == j) := by
 rw [Bool.eq_iff_iff]
 simp
theorem dec_str {i j : Str} : decide (V.str i = V.str j) = (i == j) := by
 rw [Bool.eq_iff_iff]
 simp
theorem dec_byt {i j : Array UInt8} : decide (V.byt i = V.byt j) = (i.toList == j.toList) := by
 rw [Bool.eq_iff_iff]
 cases i
 cases j
 simp
section
variable {X : Cx} {a b c : Expr} {ta tb tc : TE} {pos : Pos}
theorem fin_bl {pins : List (Addr × Obj)} {σ : St} {H : Hp} {s : Shared} {Q : VK} {k k' : Bool} (I : Inv X pins σ H s) (q : Q (.bl k) H) (e : k = k') : EP X pins σ Q (.bool k') s := by
 subst e
 exact ⟨.bl k, H, I, rfl, q⟩
theorem op_eq : OpR X (compareOp .Eq) rEq := by
 intro pins s σ H x y v u Q I rx ry h
 obtain ⟨hs, q⟩ := h
 cases x with
 | non =>
  cases rx
  cases y with
  | non => cases ry; exact PySem.EqNone.eq_none_none (fin_bl I q (by simp))
  | bl j => cases ry; exact PySem.EqNone.eq_none_bool (fin_bl I q (by simp))
  | int j => obtain ⟨t', rfl⟩ := ry; exact PySem.EqNone.eq_none_int (fin_bl I q (by simp))
  | str j => obtain ⟨t', rfl⟩ := ry; exact PySem.EqNone.eq_none_str (fin_bl I q (by simp))
  | _ => exact absurd (show false = true from hs) Bool.false_ne_true
 | bl i =>
  cases rx
  cases y with
  | non => cases ry; exact PySem.EqNone.eq_bool_none (fin_bl I q (by simp))
  | bl j => cases ry; exact eq_bool (fin_bl I q dec_bl)
  | str j => obtain ⟨t', rfl⟩ := ry; exact PySem.EqMixed.eq_bool_str (fin_bl I q (by simp))
  | _ => exact absurd (show false = true from hs) Bool.false_ne_true
 | int i =>
  obtain ⟨t, rfl⟩ := rx
  cases y with
  | non => cases ry; exact PySem.EqNone.eq_int_none (fin_bl I q (by simp))
  | int j => obtain ⟨t', rfl⟩ := ry; exact eq_int (fin_bl I q dec_int)
  | str j => obtain ⟨t', rfl⟩ := ry; exact PySem.EqMixed.eq_int_str (fin_bl I q (by simp))
  | _ => exact absurd (show false = true from hs) Bool.false_ne_true
 | str i =>
  obtain ⟨t, rfl⟩ := rx
  cases y with
  | non => cases ry; exact PySem.EqNone.eq_str_none (fin_bl I q (by simp))
  | bl j => cases ry; exact PySem.EqMixed.eq_str_bool (fin_bl I q (by simp))
  | int j => obtain ⟨t', rfl⟩ := ry; exact PySem.EqMixed.eq_str_int (fin_bl I q (by simp))
  | str j => obtain ⟨t', rfl⟩ := ry; exact eq_str (fin_bl I q dec_str)
  | _ => exact absurd (show false = true from hs) Bool.false_ne_true
 | byt i =>
  obtain ⟨t, rfl⟩ := rx
  cases y with
  | byt j => obtain ⟨t', rfl⟩ := ry; exact PySem.W.eq_bytes (fin_bl I q dec_byt)
  | _ => exact absurd (show false = true from hs) Bool.false_ne_true
 | _ => cases y <;> exact absurd (show false = true from hs) Bool.false_ne_true
theorem op_ne : OpR X (compareOp .NotEq) rNe := by
 intro pins s σ H x y v u Q I rx ry h
 obtain ⟨hs, q⟩ := h
 cases x with
 | non =>
  cases rx
  cases y with
  | non => cases ry; exact PySem.EqNone.ne_none_none (fin_bl I q (by simp))
  | bl j => cases ry; exact PySem.EqNone.ne_none_bool (fin_bl I q (by simp))
  | int j => obtain ⟨t', rfl⟩ := ry; exact PySem.EqNone.ne_none_int (fin_bl I q (by simp))
  | str j => obtain ⟨t', rfl⟩ := ry; exact PySem.EqNone.ne_none_str (fin_bl I q (by simp))
  | _ => exact absurd (show false = true from hs) Bool.false_ne_true
 | bl i =>
  cases rx
  cases y with
  | non => cases ry; exact PySem.EqNone.ne_bool_none (fin_bl I q (by simp))
  | bl j => cases ry; exact ne_bool (fin_bl I q (congrArg not dec_bl))
  | str j => obtain ⟨t', rfl⟩ := ry; exact PySem.EqMixed.ne_bool_str (fin_bl I q (by simp))
  | _ => exact absurd (show false = true from hs) Bool.false_ne_true
 | int i =>
  obtain ⟨t, rfl⟩ := rx
  cases y with
  | non => cases ry; exact PySem.EqNone.ne_int_none (fin_bl I q (by simp))
  | int j => obtain ⟨t', rfl⟩ := ry; exact ne_int (fin_bl I q (congrArg not dec_int))
  | str j => obtain ⟨t', rfl⟩ := ry; exact PySem.EqMixed.ne_int_str (fin_bl I q (by simp))
  | _ => exact absurd (show false = true from hs) Bool.false_ne_true
 | str i =>
  obtain ⟨t, rfl⟩ := rx
  cases y with
  | non => cases ry; exact PySem.EqNone.ne_str_none (fin_bl I q (by simp))
  | bl j => cases ry; exact PySem.EqMixed.ne_str_bool (fin_bl I q (by simp))
  | int j => obtain ⟨t', rfl⟩ := ry; exact PySem.EqMixed.ne_str_int (fin_bl I q (by simp))
  | str j => obtain ⟨t', rfl⟩ := ry; exact ne_str (fin_bl I q (congrArg not dec_str))
  | _ => exact absurd (show false = true from hs) Bool.false_ne_true
 | byt i =>
  obtain ⟨t, rfl⟩ := rx
  cases y with
  | byt j => obtain ⟨t', rfl⟩ := ry; exact PySem.W.ne_bytes (fin_bl I q (congrArg not dec_byt))
  | _ => exact absurd (show false = true from hs) Bool.false_ne_true
 | _ => cases y <;> exact absurd (show false = true from hs) Bool.false_ne_true
theorem op_lt : OpR X (compareOp .Lt) (rI0 fun i j => .bl (decide (i < j))) := opB0 fun _ _ _ _ _ _ _ q => lt_int q
theorem op_le : OpR X (compareOp .LtE) (rI0 fun i j => .bl (decide (i <= j))) := opB0 fun _ _ _ _ _ _ _ q => le_int q
theorem op_gt : OpR X (compareOp .Gt) (rI0 fun i j => .bl (decide (j < i))) := opB0 fun _ _ _ _ _ _ _ q => gt_int q
theorem op_ge : OpR X (compareOp .GtE) (rI0 fun i j => .bl (decide (j <= i))) := opB0 fun _ _ _ _ _ _ _ q => ge_int q
theorem OpR.or {f : Value -> Value -> Sem Value} {r r' : R2} (h : OpR X f r) (h' : OpR X f r') : OpR X f (fun x y H Q => r x y H Q \/ r' x y H Q) := by
 intro pins s σ H x y v u Q I rx ry q
 rcases q with q | q
 ·exact h pins s σ H x y v u Q I rx ry q
 ·exact h' pins s σ H x y v u Q I rx ry q
theorem nomark (b : Expr) {op : CmpOp} (h : op ≠ .In := by decide) (h2 : op ≠ .NotIn := by decide) : behindInMarks op b = false := by
 have e1 : (op == CmpOp.In) = false := by cases op <;> first | rfl | exact absurd rfl h
 have e2 : (op == CmpOp.NotIn) = false := by cases op <;> first | rfl | exact absurd rfl h2
 cases b <;> simp [behindInMarks, e1, e2]
theorem pe_cmpR {op : CmpOp} {r : R2} (ho : OpR X (compareOp op) r) (ha : PE X a ta) (hb : PE X b tb) (hm : behindInMarks op b = false) : PE X (.Compare a [op] [b] pos) (tOp r ta tb) := by
 intro pins s σ H Q I h
 exact wpAny_Compare1 (binT ha hb I h fun v u s2 x y H2 I2 rx ry q => ho pins s2 σ H2 x y v u Q I2 rx ry q) hm
def tTest (t : TE) : TT := fun σ H Q => t σ H fun x H' => ∃ k, x = .bl k /\ Q k H'
theorem pt_cmpR {op : CmpOp} {r : R2} (ho : OpR X (compareOp op) r) (ha : PE X a ta) (hb : PE X b tb) (hm : behindInMarks op b = false) : PT X (.Compare a [op] [b] pos) (tTest (tOp r ta tb)) := by
 intro pins s σ H Q I h
 refine wpAny_isTrue_Compare1 (thn (ha pins s σ H _ I h) fun v s1 ⟨x, H1, I1, r1, q1⟩ => thn (hb pins s1 σ H1 _ I1 q1) fun u s2 ⟨y, H2, I2, r2, q2⟩ =>
  thn (ho pins s2 σ H2 x y v u _ I2 r1 r2 q2) fun c s3 ⟨z, H3, I3, r3, k, e, q3⟩ => ?_) hm
 subst e
 cases r3
 exact wpAny_truthy_bool ⟨H3, I3, q3⟩
def tChain (r r' : R2) (ta tb tc : TE) : TE := fun σ H Q => ta σ H fun x H1 => tb σ H1 fun y H2 => r x y H2 fun z H3 => ∃ k, z = .bl k /\
 (if k = true then tc σ H3 fun w' H4 => r' y w' H4 Q else Q (.bl false) H3)
theorem pe_chain {op op' : CmpOp} {r r' : R2} (ho : OpR X (compareOp op) r) (ho' : OpR X (compareOp op') r') (ha : PE X a ta) (hb : PE X b tb) (hc : PE X c tc)
  (hm : lastMarks [op, op'] [b, c] = false := by with_unfolding_all rfl) : PE X (.Compare a [op, op'] [b, c] pos) (tChain r r' ta tb tc) := by
 intro pins s σ H Q I h
 refine Compare_chain (thn (ha pins s σ H _ I h) fun v s1 ⟨x, H1, I1, r1, q1⟩ => chain_link (thn (hb pins s1 σ H1 _ I1 q1) fun u s2 ⟨y, H2, I2, r2, q2⟩ =>
  thn (ho pins s2 σ H2 x y v u _ I2 r1 r2 q2) fun d s3 ⟨z, H3, I3, r3, k, e, q3⟩ => ?_)) hm
 subst e
 cases r3
 refine wpAny_truthy_bool ?_
 cases k with
 | false => exact ite_ff ⟨.bl false, H3, I3, rfl, q3⟩
 | true => exact ite_tt (chain_last (thn (hc pins s3 σ H3 _ I3 q3) fun w' s4 ⟨z', H4, I4, r4, q4⟩ => ho' pins s4 σ H4 y z' u w' Q I4 r2 r4 q4))
theorem pt_chain {op op' : CmpOp} {r r' : R2} (ho : OpR X (compareOp op) r) (ho' : OpR X (compareOp op') r') (ha : PE X a ta) (hb : PE X b tb) (hc : PE X c tc)
  (hm : lastMarks [op, op'] [b, c] = false := by with_unfolding_all rfl) : PT X (.Compare a [op, op'] [b, c] pos) (tTest (tChain r r' ta tb tc)) := by
 intro pins s σ H Q I h
 refine isTrue_chain (thn (ha pins s σ H _ I h) fun v s1 ⟨x, H1, I1, r1, q1⟩ => test_link (thn (hb pins s1 σ H1 _ I1 q1) fun u s2 ⟨y, H2, I2, r2, q2⟩ =>
  thn (ho pins s2 σ H2 x y v u _ I2 r1 r2 q2) fun d s3 ⟨z, H3, I3, r3, k, e, q3⟩ => ?_)) hm
 subst e
 cases r3
 refine wpAny_truthy_bool ?_
 cases k with
 | false =>
  obtain ⟨k', e', q'⟩ := q3
  cases e'
  exact ite_ff ⟨H3, I3, q'⟩
 | true =>
  refine ite_tt (test_last (thn (hc pins s3 σ H3 _ I3 q3) fun w' s4 ⟨z', H4, I4, r4, q4⟩ => thn (ho' pins s4 σ H4 y z' u w' _ I4 r2 r4 q4) fun d' s5 ⟨z2, H5, I5, r5, k2, e2, q5⟩ => ?_))
  subst e2
  cases r5
  exact wpAny_truthy_bool ⟨H5, I5, q5⟩
def TruV (K : PySem.W.Frag) (x : V) (H : Hp) (k : Bool) : Prop :=
 match x with
 | .non => k = false
 | .bl b => k = b
 | .int i => k = (i != 0)
 | .str y => y.length <= sizeLine /\ k = ((y.length : Int) != 0)
 | .byt y => y.size <= sizeLine /\ k = ((y.size : Int) != 0)
 | .ref p => (∃ xs, SqL K H p xs /\ k = !xs.isEmpty) \/ (∃ xs, SqT K H p xs /\ k = !xs.isEmpty) \/ ∃ kvs, H p = some (.dK kvs) /\ k = !kvs.isEmpty
 | _ => False
theorem isEmpty_kv {κ : Type} {kvs : List (κ × V)} {vs : List (κ × Value)} (r : KV kvs vs) : (!vs.isEmpty) = !kvs.isEmpty := by
 cases r <;> rfl
theorem isEmpty_of {xs : List V} {its : List Value} (r : Vals xs its) : (!its.toArray.isEmpty) = !xs.isEmpty := by
 cases r <;> simp
theorem line63 : (sizeLine : Nat) < 2 ^ 63 := by rw [sizeLine_eq]; decide
theorem tru_ok : TruR X (fun x H Q => ∃ k, TruV X.K x H k /\ Q k H) := by
 intro pins s σ H x v Q I rx h
 obtain ⟨k, e, q⟩ := h
 have hl := line63
 have hs : sizeLine = 16777216 := sizeLine_eq
 cases x with
 | non =>
  cases rx
  have e' : k = false := e
  subst e'
  exact truthy_none ⟨H, I, q⟩
 | bl b =>
  cases rx
  have e' : k = b := e
  subst e'
  exact wpAny_truthy_bool ⟨H, I, q⟩
 | int i =>
  obtain ⟨t, rfl⟩ := rx
  have e' : k = (i != 0) := e
  subst e'
  exact PySem.P.truthy_int ⟨H, I, q⟩
 | str y =>
  obtain ⟨t, rfl⟩ := rx
  obtain ⟨hy, e'⟩ : y.length <= sizeLine /\ k = ((y.length : Int) != 0) := e
  subst e'
  exact PySem.P.truthy_str (by omega) ⟨H, I.tok _, q⟩
 | byt y =>
  obtain ⟨t, rfl⟩ := rx
  obtain ⟨hy, e'⟩ : y.size <= sizeLine /\ k = ((y.size : Int) != 0) := e
  subst e'
  exact PySem.W.truthy_bytes (by omega) ⟨H, I.tok _, q⟩
 | ref p =>
  cases rx
  have e' : (∃ xs, SqL X.K H p xs /\ k = !xs.isEmpty) \/ (∃ xs, SqT X.K H p xs /\ k = !xs.isEmpty) \/ ∃ kvs, H p = some (.dK kvs) /\ k = !kvs.isEmpty := e
  rcases e' with ⟨xs, hx, e'⟩ | ⟨xs, hx, e'⟩ | ⟨kvs, hx, e'⟩
  ·subst e'
   obtain ⟨its, r, pl, hz⟩ := I.list hx
   have hlen := r.length
   exact wpAny_truthy_list pl.isList (by simp only [List.size_toArray]; omega) ⟨H, I.tok _, by rw [isEmpty_of r]; exact q⟩
  ·subst e'
   obtain ⟨its, r, pl, hz⟩ := I.tuple hx
   have hlen := r.length
   exact truthy_tuple pl (by simp only [List.size_toArray]; omega) ⟨H, I.tok _, by rw [isEmpty_of r]; exact q⟩
  ·subst e'
   obtain ⟨hz, hS, vs, r, m⟩ : kvs.length <= sizeLine /\ (p == sysModules) = false /\ ∃ vs, KV kvs vs /\ s.heap.DictOf (mixKind X.prog X.w) p vs := I.hok p _ hx
   have hlen : kvs.length = vs.length := Paired.length r
   exact wpAny_truthy_dict hS m (by omega) ⟨H, I.tok _, by rw [isEmpty_kv r]; exact q⟩
 | _ => exact (show False from e).elim
theorem pt_truth (ha : PE X a ta) (he : ∀ whole, isTrue a X.env whole = (do let v <- whole; standAt a.pos; holding [v] (truthy v))) :
  PT X a (fun σ H Q => ta σ H fun x H' => ∃ k, TruV X.K x H' k /\ Q k H') := by
 intro pins s σ H Q I h
 exact isTrue_plain (thn (ha pins s σ H _ I h) fun v s1 ⟨x, H1, I1, r1, q1⟩ => tru_ok pins s1 σ H1 x v Q I1 r1 q1) (he _)
theorem op_add_str : OpR X (binaryOp .Add) (fun x y H Q => ∃ i j, x = .str i /\ y = .str j /\ i.length + j.length <= sizeLine /\ Q (.str (i ++ j)) H) := by
 intro pins s σ H x y v u Q I rx ry h
 obtain ⟨i, j, rfl, rfl, hz, q⟩ := h
 obtain ⟨t, rfl⟩ := rx
 obtain ⟨t', rfl⟩ := ry
 exact add_str (fun t' tk => ⟨.str (i ++ j), H, I.tok _, ⟨_, rfl⟩, q⟩) hz
theorem vals1 {x : V} {us : List Value} (r : Vals [x] us) : ∃ u, us = [u] /\ RelV x u := by
 cases r with
 | cons r1 r2 => cases r2; exact ⟨_, rfl, r1⟩
theorem vals2 {x y : V} {us : List Value} (r : Vals [x, y] us) : ∃ u w', us = [u, w'] /\ RelV x u /\ RelV y w' := by
 cases r with
 | cons r1 r2 =>
  cases r2 with
  | cons r3 r4 => cases r4; exact ⟨_, _, rfl, r1, r3⟩
theorem call_max2 (hc : X.calm = true) : CallR X (.builtin "max") (fun xs H Q => ∃ i j, xs = [.int i, .int j] /\ Q (.int (if j > i then j else i)) H) := by
 intro pins s σ H xs us Q I r h
 obtain ⟨i, j, rfl, q⟩ := h
 obtain ⟨u, w', rfl, ⟨t, rfl⟩, ⟨t', rfl⟩⟩ := vals2 r
 refine max_two_ints (I.ok.hd hc) fun h' tk k => ⟨_, H, I.kept k, ?_, q⟩
 by_cases hj : j > i
 ·rw [if_pos hj, if_pos hj]; exact ⟨_, rfl⟩
 ·rw [if_neg hj, if_neg hj]; exact ⟨_, rfl⟩
theorem call_int1 : CallR X (.type "int") (fun xs H Q => (∃ i, xs = [.int i] /\ Q (.int i) H) \/ ∃ k, xs = [.bl k] /\ Q (.int (if k then 1 else 0)) H) := by
 intro pins s σ H xs us Q I r h
 rcases h with ⟨i, rfl, q⟩ | ⟨k, rfl, q⟩
 ·obtain ⟨u, rfl, t, rfl⟩ := vals1 r
  exact call_int_int ⟨.int i, H, I, ⟨_, rfl⟩, q⟩
 ·obtain ⟨u, rfl, r1⟩ := vals1 r
  cases r1
  exact call_int_bool ⟨.int (if k then 1 else 0), H, I.tok _, ⟨_, rfl⟩, q⟩
def LenV (K : PySem.W.Frag) (x : V) (H : Hp) (n : Nat) : Prop :=
 match x with
 | .str y => y.length <= sizeLine /\ n = y.length
 | .byt y => y.size <= sizeLine /\ n = y.size
 | .ref p => (∃ xs, SqL K H p xs /\ n = xs.length) \/ ∃ xs, SqT K H p xs /\ n = xs.length
 | _ => False
theorem call_len : CallR X (.builtin "len") (fun xs H Q => ∃ x n, xs = [x] /\ LenV X.K x H n /\ Q (.int n) H) := by
 intro pins s σ H xs us Q I r h
 obtain ⟨x, n, rfl, e, q⟩ := h
 obtain ⟨u, rfl, rx⟩ := vals1 r
 have hl := line63
 have hs : sizeLine = 16777216 := sizeLine_eq
 cases x with
 | str y =>
  obtain ⟨t, rfl⟩ := rx
  obtain ⟨hy, e'⟩ : y.length <= sizeLine /\ n = y.length := e
  subst e'
  exact len_str (by omega) ⟨.int _, H, I.tok _, ⟨_, rfl⟩, q⟩
 | byt y =>
  obtain ⟨t, rfl⟩ := rx
  obtain ⟨hy, e'⟩ : y.size <= sizeLine /\ n = y.size := e
  subst e'
  exact PySem.W.len_bytes (by omega) ⟨.int _, H, I.tok _, ⟨_, rfl⟩, q⟩
 | ref p =>
  cases rx
  have e' : (∃ xs, SqL X.K H p xs /\ n = xs.length) \/ ∃ xs, SqT X.K H p xs /\ n = xs.length := e
  rcases e' with ⟨xs, hx, e'⟩ | ⟨xs, hx, e'⟩
  ·subst e'
   obtain ⟨its, r', pl, hz⟩ := I.list hx
   have hlen := r'.length
   exact Calls.call_len_list pl.isList (by simp only [List.size_toArray]; omega) ⟨.int xs.length, H, I.tok _, ⟨_, by simp only [List.size_toArray]; rw [hlen]⟩, q⟩
  ·subst e'
   obtain ⟨its, r', pl, hz⟩ := I.tuple hx
   have hlen := r'.length
   exact len_tuple pl (by simp only [List.size_toArray]; omega) ⟨.int xs.length, H, I.tok _, ⟨_, by simp only [List.size_toArray]; rw [hlen]⟩, q⟩
 | _ => exact (show False from e).elim
end
end L2
namespace L2
open PySem PySem.Spec PyProof.Rows
structure ObjM (h : Heap) (x dx C : Addr) (mA : Str -> Option Value) : Prop where
 obj : h.get? x = some (instObj C dx)
 ns : h.Ns1 dx mA
 ne : dx ≠ x
theorem lookIn_ns {h : Heap} {dx : Addr} {mA : Str -> Option Value} (n : h.Ns1 dx mA) : ∃ od, h.get? dx = some od /\ ∀ name, lookIn name od = some (mA name) := by
 obtain ⟨o, es, ep, ho, hd, hk, _, hm⟩ := n
 refine ⟨o, ho, fun name => ?_⟩
 have e := hm name
 unfold nsFind findBy at e
 rw [<- Array.find?_toList] at e
 unfold lookIn
 rw [hd]
 dsimp only
 split
 ·rename_i y q
  rw [q] at e
  exact congrArg some e
 ·rename_i q
  rw [q] at e
  have a : es.toList.any (·.refKey) = false := by
   rw [List.any_eq_false]
   intro y hy
   obtain ⟨z, t, hkey⟩ := hk y (Array.mem_toList_iff.mp hy)
   simp [DictEntry.refKey, hkey]
  have a' : ¬ es.toList.any (·.refKey) = true := by rw [a]; exact Bool.false_ne_true
  rw [if_neg a']
  exact congrArg some e
theorem ObjM.look {h : Heap} {x dx C : Addr} {mA : Str -> Option Value} (I : ObjM h x dx C mA) : ∃ od, PySem.W.InstAt h x (instObj C dx) C (some od) /\ ∀ name, lookIn name od = some (mA name) :=
 let ⟨od, ho, hl⟩ := lookIn_ns I.ns
 ⟨od, ⟨I.obj, rfl, rfl, ho⟩, hl⟩
section
variable {prog : Program} {w : World} {A : Around} {E : Value -> Shared -> Prop} {s : Shared} {K : PySem.W.Frag} {x dx C f : Addr} {mA : Str -> Option Value} {name : Str} {v : Value}
theorem get_map {expr : Bool} {Q : Value -> Shared -> Prop} (X : K.In s.heap) (I : ObjM s.heap x dx C mA) (hg : plainGet K C name = true) (hh : PySem.W.hasDictIn K C = true)
  (ha : PySem.W.findIn K (.ref C) name = some none) (hv : mA name = some v) (hv' : PySem.W.handedIn v = true) (h : Q v { s with toks := s.toks + 1 }) :
  wpAny (model prog w) A (getAttr (.ref x) name expr) Q E s := by
 obtain ⟨od, J, hl⟩ := I.look
 exact PySem.W.get_value X J (PySem.W.plainGet_of hg).1 (PySem.W.findObj_own hh ha rfl (by rw [hl, hv])) hv' h
theorem get_meth {pl : Sem Bool} {Q : Value × List Value -> Shared -> Prop} (X : K.In s.heap) (I : ObjM s.heap x dx C mA) (hg : plainGet K C name = true)
  (hf : PySem.W.findIn K (.ref C) name = some (some (.ref f))) (ht : isFn K (.ref f) = true) (hv : mA name = none) (h : Q (.ref f, [.ref x]) s) :
  wpAny (model prog w) A (getMethod (.ref x) name pl) Q E s := by
 obtain ⟨od, J, hl⟩ := I.look
 exact PySem.W.method_fn X J (PySem.W.plainGet_of hg).1 (PySem.W.plainGet_of hg).2 hf (beq_iff_eq.mp ht) (by show (lookIn name od).map (·.isSome) = some false; rw [hl, hv]; rfl) h
theorem set_map {ns : List Str} {Q : Unit -> Shared -> Prop} (X : K.In s.heap) (I : ObjM s.heap x dx C mA)
  (hs : PySem.W.findIn K (.ref C) "__setattr__" = some (some (.builtin "object.__setattr__"))) (hp : plainOver K C = true) (ht : PySem.W.takerIn K C name = some none) (hh : PySem.W.hasDictIn K C = true)
  (hw : PySem.Within mA ns) (hsz : ns.length <= sizeLine)
  (h : ∀ h', ObjM h' x dx C (fun y => if y = name then some v else mA y) -> Heap.SameBut dx s.heap h' -> Q () { s with heap := h', toks := s.toks + 2 }) :
  wpAny (model prog w) A (setAttr (.ref x) name v) Q E s := by
 obtain ⟨od, J, hl⟩ := I.look
 refine PySem.W.set_plain X J hs (PySem.W.osa_open (s := { s with toks := s.toks + 1 }) (r := none) X J hp ht fun b => ?_)
 obtain ⟨cd, hc, hd'⟩ := PySem.W.any_some hh
 have hx : s.heap.get? x = some ⟨.ref C, some dx, .plain, #[]⟩ := I.obj
 refine wpAny_bind (wpAny_pure (wpAny_bind (wpAny_bind (wpAny_loadPart hx (wpAny_bind (PySem.W.Looks.here (s := { s with toks := s.toks + 1 }) (PySem.W.looks_clsIn X hc) ?_))))))
 rw [hd']
 refine wpAny_pure (a := some dx) (wpAny_bind (wpAny_pure (wpAny_bind ?_)))
 refine wpAny_nsSet1 (s := { s with toks := s.toks + 1 }) I.ns fun h' hn2 hs2 => ?_
 obtain ⟨oD, esD, epD, hoD, hdD, hcD⟩ := hn2.count (PySem.Within.cons name v hw)
 refine wpAny_bind (wpAny_lookBehind hoD (by rw [hdD]; exact pastItsLine_dict (Nat.le_trans hcD (by rw [List.length_cons]; omega))) ?_)
 exact wpAny_pure (h _ ⟨(hs2.2 _ (Ne.symm I.ne)).trans I.obj, hn2, I.ne⟩ hs2)
theorem make_map {R : Result -> Shared -> Prop} {vs : List Value} {kw : List (Str × Value)} (X : K.In s.heap) (hm : makesIn K C = true)
  (hi : PySem.W.findIn K (.ref C) "__init__" = some (some (.ref f))) (hf : PySem.W.typeIn K (.ref f) = some (.type "function"))
  (h : codeAny (model prog w) (A.under (.builtin "type.__call__" ⟨.ref C :: vs, kw⟩)) (.call (.ref f) ⟨.ref (s.heap.objs.size + 1) :: vs, kw⟩) (PySem.W.InitBack (s.heap.objs.size + 1) R)
   { s with heap := (s.heap.push emptyDict).push (instObj C s.heap.objs.size) }) :
  codeAny (model prog w) A (.call (.ref C) ⟨vs, kw⟩) R s := by
 obtain ⟨hh, g, d, t, os⟩ := s
 exact PySem.W.make_core (PySem.W.makes_of X hm) (PySem.W.looks_findIn X hi) (fun self => PySem.W.bind_fn X self hf) (.inl rfl) h
end
def putF (f : Str) (v : V) : List (Str × V) -> List (Str × V)
 | [] => [(f, v)]
 | (g, x) :: r => if g = f then (g, v) :: r else (g, x) :: putF f v r
theorem lookup_putF (f g : Str) (v : V) : ∀ fs : List (Str × V), (putF f v fs).lookup g = if g = f then some v else fs.lookup g
 | [] => by
  show List.lookup g [(f, v)] = _
  by_cases h : g = f
  ·have hb : (g == f) = true := beq_iff_eq.mpr h
   simp only [List.lookup, hb, if_pos h]
  ·have hb : (g == f) = false := beq_eq_false_iff_ne.mpr h
   simp only [List.lookup, hb, if_neg h]
 | (k, x) :: r => by
  have ih := lookup_putF f g v r
  rw [show putF f v ((k, x) :: r) = (if k = f then (k, v) :: r else (k, x) :: putF f v r) from rfl]
  by_cases hk : k = f
  ·rw [if_pos hk]
   by_cases h : g = k
   ·have hb : (g == k) = true := beq_iff_eq.mpr h
    simp only [List.lookup, hb, if_pos (h.trans hk)]
   ·have hb : (g == k) = false := beq_eq_false_iff_ne.mpr h
    simp only [List.lookup, hb, if_neg (fun e : g = f => h (e.trans hk.symm))]
  ·rw [if_neg hk]
   by_cases h : g = k
   ·have hb : (g == k) = true := beq_iff_eq.mpr h
    simp only [List.lookup, hb, if_neg (fun e : g = f => hk (h.symm.trans e))]
   ·have hb : (g == k) = false := beq_eq_false_iff_ne.mpr h
    simp only [List.lookup, hb]
    exact ih
theorem keys_putF (f : Str) (v : V) : ∀ fs : List (Str × V), f ∈ (putF f v fs).map (·.1) /\ ∀ g, g ∈ fs.map (·.1) -> g ∈ (putF f v fs).map (·.1)
 | [] => ⟨by simp [putF], fun g h => by simp at h⟩
 | (k, x) :: r => by
  obtain ⟨i1, i2⟩ := keys_putF f v r
  rw [show putF f v ((k, x) :: r) = (if k = f then (k, v) :: r else (k, x) :: putF f v r) from rfl]
  by_cases hk : k = f
  ·rw [if_pos hk]
   subst hk
   exact ⟨by simp, fun g h => by simpa using h⟩
  ·rw [if_neg hk]
   refine ⟨?_, fun g h => ?_⟩
   ·rw [List.map_cons]
    exact List.mem_cons_of_mem _ i1
   ·rw [List.map_cons] at h ⊢
    rcases List.mem_cons.mp h with e | e
    ·exact List.mem_cons.mpr (.inl e)
    ·exact List.mem_cons_of_mem _ (i2 g e)
theorem length_putF (f : Str) (v : V) : ∀ fs : List (Str × V), (putF f v fs).length <= fs.length + 1
 | [] => by simp [putF]
 | (k, x) :: r => by
  have ih := length_putF f v r
  rw [show putF f v ((k, x) :: r) = (if k = f then (k, v) :: r else (k, x) :: putF f v r) from rfl]
  by_cases hk : k = f
  ·rw [if_pos hk, List.length_cons, List.length_cons]; omega
  ·rw [if_neg hk, List.length_cons, List.length_cons]; omega
theorem RelO.some_of {v : V} {o : Option Value} (r : RelO (some v) o) : ∃ u, o = some u /\ RelV v u := by
 cases o with
 | none => exact (show False from r).elim
 | some u => exact ⟨u, rfl, r⟩
theorem RelO.none_of {o : Option Value} (r : RelO none o) : o = none := by
 cases o with
 | none => rfl
 | some u => exact (show False from r).elim
theorem handed_of {v : V} {u : Value} (r : RelV v u) : PySem.W.handedIn u = true := by
 cases v with
 | non => cases (show u = Value.none from r); rfl
 | bl b => cases (show u = Value.bool b from r); rfl
 | int i => obtain ⟨t, e⟩ := (show ∃ t, u = Value.int i t from r); cases e; rfl
 | str x => obtain ⟨t, e⟩ := (show ∃ t, u = Value.str x t from r); cases e; rfl
 | byt b => obtain ⟨t, e⟩ := (show ∃ t, u = Value.bytes b t from r); cases e; rfl
 | flt b => obtain ⟨t, e⟩ := (show ∃ t, u = Value.float b t from r); cases e; rfl
 | ref a => cases (show u = Value.ref a from r); rfl
 | ty n => cases (show u = Value.type n from r); rfl
section
variable {P : Program} {w : World} {H H' : Hp} {h h' : Heap} {a C dx : Addr} {fs fs' : List (Str × V)}
theorem ins_get (hok : HOk P w H h) (e : H a = some (.ins C dx fs)) : ∃ mA, ObjM h a dx C mA /\ (∀ f, RelO (fs.lookup f) (mA f)) /\ PySem.Within mA (fs.map (·.1)) /\ fs.length <= 1000 /\ H dx = some (.own a) := by
 obtain ⟨d, z, ne, ob, mA, n, r, q⟩ := (show ObjOk P w H h a (.ins C dx fs) from hok a _ e)
 exact ⟨mA, ⟨ob, n, ne⟩, r, q, z, d⟩
end
structure Cls (K : PySem.W.Frag) (C : Addr) : Prop where
 pg : plainGet K C Str.empty = true
 hd : PySem.W.hasDictIn K C = true
 po : plainOver K C = true
 sa : PySem.W.findIn K (.ref C) "__setattr__" = some (some (.builtin "object.__setattr__"))
theorem Cls.get {K : PySem.W.Frag} {C : Addr} (c : Cls K C) (f : Str) : plainGet K C f = true := c.pg
def NoAttr (K : PySem.W.Frag) (C : Addr) (f : Str) : Prop := PySem.W.findIn K (.ref C) f = some none
theorem NoAttr.taker {K : PySem.W.Frag} {C : Addr} {f : Str} (n : NoAttr K C f) : PySem.W.takerIn K C f = some none := by
 unfold PySem.W.takerIn
 rw [show PySem.W.findIn K (.ref C) f = some none from n]
 rfl
structure Meth (K : PySem.W.Frag) (C : Addr) (m : Str) (f : Addr) : Prop where
 at_ : PySem.W.findIn K (.ref C) m = some (some (.ref f))
 fn : isFn K (.ref f) = true
 kp : keepIn K (.ref f) = true
section
variable {X : Cx} {pins : List (Addr × Obj)} {σ : St} {H : Hp} {s : Shared} {a C dx : Addr} {fs : List (Str × V)} {f : Str} {v : V} {A : Around} {E : Value -> Shared -> Prop}
theorem getattr_ok {b : Bool} {Q : Value -> Shared -> Prop} (I : Inv X pins σ H s) (e : H a = some (.ins C dx fs)) (c : Cls X.K C) (n : NoAttr X.K C f) (l : fs.lookup f = some v)
  (h : ∀ u s', Inv X pins σ H s' -> RelV v u -> Q u s') : wpAny (model X.prog X.w) A (getAttr (.ref a) f b) Q E s := by
 obtain ⟨mA, O, r, _, _, _⟩ := ins_get I.hok e
 obtain ⟨u, hu, ru⟩ := RelO.some_of (v := v) (o := mA f) (by rw [<- l]; exact r f)
 exact get_map I.kIn O (c.get f) c.hd n hu (handed_of ru) (h u _ (I.tok _) ru)
theorem getmeth_ok {m : Str} {g : Addr} {pl : Sem Bool} {Q : Value × List Value -> Shared -> Prop} (I : Inv X pins σ H s) (e : H a = some (.ins C dx fs)) (c : Cls X.K C) (k : Meth X.K C m g) (l : fs.lookup m = none)
  (h : Q (.ref g, [.ref a]) s) : wpAny (model X.prog X.w) A (getMethod (.ref a) m pl) Q E s := by
 obtain ⟨mA, O, r, _, _, _⟩ := ins_get I.hok e
 have hn : mA m = none := RelO.none_of (by rw [<- l]; exact r m)
 exact get_meth I.kIn O (c.get m) k.at_ k.fn hn h
theorem setattr_ok {y : V} {u : Value} {Q : Unit -> Shared -> Prop} (I : Inv X pins σ H s) (e : H a = some (.ins C dx fs)) (c : Cls X.K C) (n : NoAttr X.K C f) (hl : fs.length < 1000) (ry : RelV y u)
  (h : ∀ s', Inv X pins σ (upd H a (.ins C dx (putF f y fs))) s' -> Q () s') : wpAny (model X.prog X.w) A (setAttr (.ref a) f u) Q E s := by
 obtain ⟨mA, O, r, wi, _, ho⟩ := ins_get I.hok e
 have hz : (fs.map (·.1)).length <= sizeLine := by rw [List.length_map, sizeLine_eq]; omega
 refine set_map I.kIn O c.sa c.po n.taker c.hd wi hz fun h' O' sb => h _ ?_
 have hd : ∃ o, h'.get? dx = some o := let ⟨o, _, _, e', _⟩ := O'.ns; ⟨o, e'⟩
 refine I.write (x := a) (e := dx) (by rw [e]; exact True.intro) (.inr ho) (fun b q hb z => (sb.2 b hb).trans z) hd ?_
 refine ⟨by rw [upd_ne O.ne]; exact ho, ?_, O.ne, O'.obj, _, O'.ns, fun g => ?_, fun g hg => ?_⟩
 ·have := length_putF f y fs; omega
 ·show RelO ((putF f y fs).lookup g) (if g = f then some u else mA g)
  rw [lookup_putF]
  by_cases q : g = f
  ·rw [if_pos q, if_pos q]; exact ry
  ·rw [if_neg q, if_neg q]; exact r g
 ·by_cases q : g = f
  ·rw [q]; exact (keys_putF f y fs).1
  ·refine (keys_putF f y fs).2 g (wi g fun z => hg ?_)
   show (if g = f then some u else mA g) = none
   rw [if_neg q]; exact z
theorem Inv.made (I : Inv X pins σ H s) : Inv X pins σ (upd (upd H s.heap.objs.size (.own (s.heap.objs.size + 1))) (s.heap.objs.size + 1) (.ins C s.heap.objs.size []))
  { s with heap := (s.heap.push emptyDict).push (instObj C s.heap.objs.size) } := by
 have e1 : (s.heap.push emptyDict).get? s.heap.objs.size = some emptyDict := Heap.get?_push_size s.heap rfl
 have e2 : ((s.heap.push emptyDict).push (instObj C s.heap.objs.size)).get? (s.heap.objs.size + 1) = some (instObj C s.heap.objs.size) := by
  have := Heap.get?_push_size (s.heap.push emptyDict) (o := instObj C s.heap.objs.size) rfl
  rwa [Heap.size_push] at this
 have e3 : (s.heap.push emptyDict).Ns s.heap.objs.size (fun _ => none) := ⟨emptyDict, #[], _, e1, rfl, (fun e he => absurd he (by simp)), fun _ => rfl⟩
 have I1 := I.laid (a := s.heap.objs.size) (o := .own (s.heap.objs.size + 1)) (h' := s.heap.push emptyDict) (t' := s.toks) (fun b u q => Heap.get?_push_of_some _ q) (Nat.le_refl _) ⟨_, e1⟩
 refine I1.laid (a := s.heap.objs.size + 1) (o := .ins C s.heap.objs.size []) (t' := s.toks) (fun b u q => Heap.get?_push_of_some _ q) (Nat.le_of_eq (Heap.size_push _ _)) ?_
 have ne : s.heap.objs.size ≠ s.heap.objs.size + 1 := Nat.ne_of_lt (Nat.lt_succ_self _)
 refine ⟨by rw [upd_ne ne, upd_same], Nat.zero_le _, ne, e2, fun _ => none, (Heap.Ns1.of_empty e3).at fun o q => Heap.get?_push_of_some _ q, fun _ => True.intro, fun y hy => absurd rfl hy⟩
theorem attr_of {prog : Program} {w : World} {env : Env} {e : Expr} {f : Str} {pos : Pos} {s : Shared} {Q : Value -> Shared -> Prop} (hb : attributeBase e f env (eval e env) = eval e env)
  (h : wpAny (model prog w) A (eval e env) (fun o s₁ => wpAny (model prog w) A (getAttr o f true) Q E s₁) E s) : wpAny (model prog w) A (eval (.Attribute e f pos) env) Q E s :=
 Attribute_any_ h (by rw [arm_eval_Attribute, hb])
end
def tFld (K : PySem.W.Frag) (ta : TE) (f : Str) : TE := fun σ H Q => ta σ H fun x H1 => ∃ a C dx fs v, x = .ref a /\ H1 a = some (.ins C dx fs) /\ Cls K C /\ NoAttr K C f /\ fs.lookup f = some v /\ Q v H1
def sFld (K : PySem.W.Frag) (ta tv : TE) (f : Str) : TS := fun D σ H => tv σ H fun y H1 => ta σ H1 fun x H2 => ∃ a C dx fs, x = .ref a /\ H2 a = some (.ins C dx fs) /\ Cls K C /\ NoAttr K C f /\ fs.length < 1000 /\
 D.nx σ (upd H2 a (.ins C dx (putF f y fs)))
def InOp (X : Cx) (op : Operator) (rd : V -> V -> Hp -> VK -> Prop) : Prop :=
 ∀ (pins : List (Addr × Obj)) (s : Shared) (σ : St) (H : Hp) (x y : V) (u v : Value) (Q : VK), Inv X pins σ H s -> RelV x u -> RelV y v -> rd x y H Q -> wpAny (model X.prog X.w) X.A (inplaceOp op u v) (EP X pins σ Q) X.xe s
def sFldAug (K : PySem.W.Frag) (ta tv : TE) (rd : V -> V -> Hp -> VK -> Prop) (f : Str) : TS := fun D σ H => ta σ H fun x H1 => ∃ a C dx fs v, x = .ref a /\ H1 a = some (.ins C dx fs) /\ Cls K C /\ NoAttr K C f /\ fs.lookup f = some v /\
 tv σ H1 fun y H2 => rd v y H2 fun z H3 => ∃ dx' fs', H3 a = some (.ins C dx' fs') /\ fs'.length < 1000 /\ D.nx σ (upd H3 a (.ins C dx' (putF f z fs')))
section
variable {X : Cx} {o e value : Expr} {f : Str} {pos pos' tpos : Pos} {ta tv : TE}
theorem pe_fld (he : PE X e ta) (hb : attributeBase e f X.env (eval e X.env) = eval e X.env) : PE X (.Attribute e f pos) (tFld X.K ta f) := by
 intro pins s σ H Q I h
 refine attr_of hb (thn (he pins s σ H _ I h) fun u s1 ⟨x, H1, I1, rx, a, C, dx, fs, v, ex, ea, c, n, l, q⟩ => ?_)
 subst ex
 obtain rfl : u = Value.ref a := rx
 exact getattr_ok I1 ea c n l fun u' s2 I2 ru => ⟨v, H1, I2, ru, q⟩
theorem ps_fld (ha : PE X o ta) (hv : PE X value tv) (hs : swapsWith value (some (.Attribute o f pos')) pos.line X.env = pure false) : PS X (.Assign [.Attribute o f pos'] value pos) (sFld X.K ta tv f) := by
 intro pins s σ H D I h
 refine plainObj_wpAny_Assign_Attribute (thn (hv pins s σ H _ I h) fun u s1 ⟨y, H1, I1, ry, q⟩ => thn (ha pins s1 σ H1 _ I1 q) fun ov s2 ⟨x, H2, I2, rx, a, C, dx, fs, ex, ea, c, n, l, q2⟩ => ?_) hs
 subst ex
 obtain rfl : ov = Value.ref a := rx
 exact setattr_ok I2 ea c n l ry fun s3 I3 => ⟨σ, _, I3, q2⟩
theorem ps_fldaug {op : Operator} {rd : V -> V -> Hp -> VK -> Prop} (ha : PE X o ta) (hv : PE X value tv) (hop : InOp X op rd) : PS X (.AugAssign (.Attribute o f tpos) op value pos) (sFldAug X.K ta tv rd f) := by
 intro pins s σ H D I h
 refine wpAny_AugAssign_AttributeAny (thn (ha pins s σ H _ I h) fun ov s1 ⟨x, H1, I1, rx, a, C, dx, fs, v, ex, ea, c, n, l, q⟩ => ?_)
 subst ex
 obtain rfl : ov = Value.ref a := rx
 refine getattr_ok I1 ea c n l fun u s2 I2 ru => thn (hv pins s2 σ H1 _ I2 q) fun w3 s3 ⟨y, H2, I3, ry, q3⟩ => thn (hop pins s3 σ H2 v y u w3 _ I3 ru ry q3) fun w4 s4 ⟨z, H3, I4, rz, dx', fs', ea', l', q4⟩ => ?_
 exact setattr_ok I4 ea' c n l' rz fun s5 I5 => ⟨σ, _, I5, q4⟩
def rAdd : V -> V -> Hp -> VK -> Prop := fun x y H Q => ∃ i j, x = .int i /\ y = .int j /\ Q (.int (i + j)) H
theorem in_add : InOp X .Add rAdd := by
 rintro pins s σ H x y u v Q I rx ry ⟨i, j, rfl, rfl, q⟩
 obtain ⟨t, rfl⟩ := (show ∃ t, u = Value.int i t from rx)
 obtain ⟨t', rfl⟩ := (show ∃ t', v = Value.int j t' from ry)
 exact PyProof.Rows.iadd_int ⟨.int (i + j), H, I.tok _, ⟨_, rfl⟩, q⟩
end
section
variable {X : Cx} {pins : List (Addr × Obj)} {σ : St} {H : Hp} {s : Shared} {A : Around} {E : Value -> Shared -> Prop} {Q : Value -> Shared -> Prop} {c : Value} {b : Bool}
inductive TyOf (K : PySem.W.Frag) (H : Hp) : V -> Value -> Prop where
 | non : TyOf K H .non (.type "NoneType")
 | bl (x : Bool) : TyOf K H (.bl x) (.type "bool")
 | int (i : Int) : TyOf K H (.int i) (.type "int")
 | str (x : Str) : TyOf K H (.str x) (.type "str")
 | flt (x : UInt64) : TyOf K H (.flt x) (.type "float")
 | lst {a : Addr} {xs : List V} (e : H a = some (.lst xs)) : TyOf K H (.ref a) (.type "list")
 | frz {a : Addr} {o : Obj} {xs : List V} (e : H a = some (.frz o (.lst xs))) : TyOf K H (.ref a) (.type "list")
 | tup {a : Addr} {xs : List V} (e : H a = some (.tup xs)) : TyOf K H (.ref a) (.type "tuple")
 | dK {a : Addr} {kvs : List (Key × V)} (e : H a = some (.dK kvs)) : TyOf K H (.ref a) (.type "dict")
 | dT {a : Addr} {kvs : List (List Key × V)} (e : H a = some (.dT kvs)) : TyOf K H (.ref a) (.type "dict")
 | ins {a C dx : Addr} {fs : List (Str × V)} (e : H a = some (.ins C dx fs)) (cl : Cls K C) (ha : PySem.W.findIn K (.ref C) "__class__" = some (some (.builtin "object.__class__")))
   (hn : PySem.W.specialIn K (.builtin "object.__class__") "__get__" = some (some (.builtin "getset_descriptor.__get__"))) (htk : PySem.W.takesIn K (.builtin "object.__class__") = some true)
   (hm : PySem.W.mroIn K C (.type "object") = some true) : TyOf K H (.ref a) (.ref C)
theorem isinst_ok {x : V} {u t : Value} (I : Inv X pins σ H s) (rx : RelV x u) (ty : TyOf X.K H x t) (e : kitOne X.K t c = some b) (h : ∀ tk, Q (.bool b) { s with toks := tk }) :
  wpAny (model X.prog X.w) A (call (.builtin "isinstance") [u, c]) Q E s := by
 cases ty with
 | non => cases (show u = Value.none from rx); exact kia_one PySem.W.kitx_none I.kIn True.intro e (fun z => nomatch z) h
 | bl y => cases (show u = Value.bool y from rx); exact kia_one PySem.W.kitx_bool I.kIn True.intro e (fun z => nomatch z) h
 | int i => obtain ⟨t, q⟩ := (show ∃ t, u = Value.int i t from rx); cases q; exact kia_one PySem.W.kitx_int I.kIn True.intro e (fun z => nomatch z) h
 | str y => obtain ⟨t, q⟩ := (show ∃ t, u = Value.str y t from rx); cases q; exact kia_one PySem.W.kitx_str I.kIn True.intro e (fun z => nomatch z) h
 | flt y => obtain ⟨t, q⟩ := (show ∃ t, u = Value.float y t from rx); cases q; exact kia_one PySem.W.kitx_float I.kIn True.intro e (fun z => nomatch z) h
 | @lst a xs ea =>
  cases (show u = Value.ref a from rx)
  obtain ⟨_, _, n, _, h1⟩ := (show ObjOk X.prog X.w H s.heap a (.lst xs) from I.hok a _ ea)
  exact kia_one PySem.W.kitx_list I.kIn ⟨_, h1, rfl⟩ e (fun z => nomatch z) h
 | @frz a ob xs ea =>
  cases (show u = Value.ref a from rx)
  obtain ⟨_, _, _, n, _, h1⟩ := (show ObjOk X.prog X.w H s.heap a (.frz ob (.lst xs)) from I.hok a _ ea)
  exact kia_one PySem.W.kitx_list I.kIn ⟨_, h1, rfl⟩ e (fun z => nomatch z) h
 | @tup a xs ea =>
  cases (show u = Value.ref a from rx)
  obtain ⟨_, _, _, p⟩ := (show ObjOk X.prog X.w H s.heap a (.tup xs) from I.hok a _ ea)
  obtain ⟨o, h1, h2, _⟩ := p
  exact kia_one PySem.W.kitx_tuple I.kIn ⟨o, h1, h2⟩ e (fun z => nomatch z) h
 | @dK a kvs ea =>
  cases (show u = Value.ref a from rx)
  obtain ⟨_, _, vs, _, p⟩ := (show ObjOk X.prog X.w H s.heap a (.dK kvs) from I.hok a _ ea)
  obtain ⟨o, es, ep, h1, h2, _⟩ := p
  exact kia_one PySem.W.kitx_dict I.kIn ⟨o, h1, h2.1⟩ e (fun z => nomatch z) h
 | @dT a kvs ea =>
  cases (show u = Value.ref a from rx)
  obtain ⟨_, _, xs, _, o, es, ep, h1, h2, _⟩ := (show ObjOk X.prog X.w H s.heap a (.dT kvs) from I.hok a _ ea)
  exact kia_one PySem.W.kitx_dict I.kIn ⟨o, h1, h2.1⟩ e (fun z => nomatch z) h
 | @ins a C dx fs ea cl ha hn htk hm =>
  cases (show u = Value.ref a from rx)
  obtain ⟨mA, O, _⟩ := ins_get I.hok ea
  obtain ⟨od, J, _⟩ := O.look
  exact kia_one (PySem.W.kitx_own (cl.get _) cl.hd ha hn htk hm) I.kIn J e (fun z => nomatch z) h
end
end L2
namespace L2
open PySem PySem.Spec PyProof.Rows
structure Room (k : Nat) (A : Around) : Prop where
 hd : A.handled = none
 dp : A.depth + 3 * k + 5 < recursionLimit
 un : A.units + 16 * k + 200 < cLine
theorem Room.mono {j k : Nat} {A : Around} (r : Room k A) (h : j <= k) : Room j A := ⟨r.hd, by have := r.dp; omega, by have := r.un; omega⟩
theorem Room.deeper {k : Nat} {A : Around} (r : Room (k + 1) A) (env : Env) : Room k (A.deeper env) :=
 ⟨r.hd, by have := r.dp; show A.depth + 1 + 3 * k + 5 < _; omega, by have := r.un; show A.units + 3 + 16 * k + 200 < _; omega⟩
theorem make_depth {A : Around} {C : Addr} {us : List Value} {kw : List (Str × Value)} : (A.under (.builtin "type.__call__" ⟨.ref C :: us, kw⟩)).depth = A.depth + 1 := by
 first | rfl | simp [Around.under, Code.weight, Code.isCreation, Code.isGuard, Code.isCaller, Code.frames, Code.isFrame, guardIds]
theorem make_units {A : Around} {C : Addr} {us : List Value} {kw : List (Str × Value)} : (A.under (.builtin "type.__call__" ⟨.ref C :: us, kw⟩)).units = A.units + 1 := by
 first | rfl | simp [Around.under, Code.cUnits, Code.frames, Code.isFrame]
theorem Room.make {k : Nat} {A : Around} (r : Room (k + 1) A) (C : Addr) (us : List Value) (kw : List (Str × Value)) : Room k (A.under (.builtin "type.__call__" ⟨.ref C :: us, kw⟩)) :=
 ⟨r.hd, by have := r.dp; rw [make_depth]; omega, by have := r.un; rw [make_units]; omega⟩
theorem Room.depth {k : Nat} {A : Around} (r : Room k A) : A.depth < recursionLimit := by have := r.dp; omega
theorem Room.units {k : Nat} {A : Around} (r : Room k A) : A.units + 64 < cLine := by have := r.un; omega
def tNil : TA := fun _ H Q => Q [] H
def tCons (ta : TE) (tr : TA) : TA := fun σ H Q => ta σ H fun x H1 => tr σ H1 fun xs H2 => Q (x :: xs) H2
section
variable {X : Cx} {e : Expr} {es : List Expr} {te : TE} {t : TA} {pos : Pos}
theorem pa_nil : PA X [] tNil := fun _ _ _ _ H Q I h => Calls.spliced_nil ⟨[], H, I, .nil, h⟩
theorem pa_cons (ha : PE X e te) (hr : PA X es t) (hs : starEach (e :: es) X.env = (false, eval e X.env) :: starEach es X.env := by rfl) : PA X (e :: es) (tCons te t) := by
 intro pos pins s σ H Q I h
 rw [hs]
 show wpAny _ _ (spliced ((false, eval e X.env) :: backTo pos (starEach es X.env))) _ _ s
 refine Calls.spliced_cons (thn (ha pins s σ H _ I h) fun u s1 ⟨x, H1, I1, r1, q1⟩ => ?_)
 exact thn (hr pos pins s1 σ H1 _ I1 q1) fun us s2 ⟨xs, H2, I2, r2, q2⟩ => ⟨x :: xs, H2, I2, .cons r1 r2, q2⟩
def tTup (t : TA) : TE := fun σ H Q => t σ H fun xs H1 => xs.length <= sizeLine /\ ∀ p, H1 p = none -> Q (.ref p) (upd H1 p (.tup xs))
def tLst (t : TA) : TE := fun σ H Q => t σ H fun xs H1 => xs.length <= sizeLine /\ ∀ p, H1 p = none -> Q (.ref p) (upd H1 p (.lst xs))
theorem pe_tup {x1} (h : PA X es t) : PE X (.Tuple es x1 pos) (tTup t) := by
 intro pins s σ H Q I hq
 refine wpAny_Tuple_spliced (thn (h pos pins s σ H _ I hq) fun us s1 ⟨xs, H1, I1, r, z, q⟩ => ⟨by rw [<- r.length]; exact z, ?_⟩)
 have hf : H1 s1.heap.objs.size = none := I1.hok.fresh (Nat.le_refl _)
 refine ⟨.ref s1.heap.objs.size, upd H1 s1.heap.objs.size (.tup xs), I1.laid (t' := s1.toks) (fun b u e => Heap.get?_push_of_some _ e) (Nat.le_refl _) ?_, rfl, q _ hf⟩
 exact ⟨z, us, r, ⟨_, Heap.get?_push_size _ rfl, rfl, _, rfl⟩⟩
theorem pe_lst (h : PA X es t) : PE X (.List es pos) (tLst t) := by
 intro pins s σ H Q I hq
 refine wpAny_List_spliced (thn (h pos pins s σ H _ I hq) fun us s1 ⟨xs, H1, I1, r, z, q⟩ => ⟨by rw [<- r.length]; exact z, ?_⟩)
 have hf : H1 s1.heap.objs.size = none := I1.hok.fresh (Nat.le_refl _)
 refine ⟨.ref s1.heap.objs.size, upd H1 s1.heap.objs.size (.lst xs), I1.laid (t' := s1.toks) (fun b u e => Heap.get?_push_of_some _ e) (Nat.le_refl _) ?_, rfl, q _ hf⟩
 exact ⟨z, us, 0, r, Heap.get?_push_size _ rfl⟩
end
abbrev Sp := List V -> Hp -> VK -> XK -> Prop
abbrev CXT := List Env -> Hp -> Shared -> XK -> Value -> Shared -> Prop
structure Env0 (P : Program) (w : World) (K : PySem.W.Frag) (mg : Str -> Option Value) (base : Heap) (A : Around) (outer : List Env) (s : Shared) (H : Hp) : Prop where
 frames : A.frames = some outer
 mod : Mod K mg base
 bs : ∀ b o, base.get? b = some o -> s.heap.get? b = some o /\ H b = none
 bsz : base.objs.size <= s.heap.objs.size
 funs : s.heap.FunFrames base outer
 frf : ∀ b ∈ frs outer, H b = none
 hok : HOk P w H s.heap
 bare : AllBare s.gens
def CE (outer : List Env) (P : Program) (w : World) (H : Hp) (s : Shared) (Q : VK) (u : Value) (s' : Shared) : Prop :=
 ∃ v H', s'.os = s.os /\ AllBare s'.gens /\ Un (frs outer) [] H H' s.heap s'.heap /\ HOk P w H' s'.heap /\ RelV v u /\ Q v H'
def CR (CX : CXT) (outer : List Env) (P : Program) (w : World) (H : Hp) (s : Shared) (Q : VK) (E : XK) (r : Result) (s' : Shared) : Prop :=
 match r with
 | .ok (.ret u) => CE outer P w H s Q u s'
 | .ok _ => False
 | .error e => CX outer H s E e s'
structure FnOk (P : Program) (w : World) (K : PySem.W.Frag) (mg : Str -> Option Value) (base : Heap) (CX : CXT) (k : Nat) (f : Addr) (fd : FuncData) (ps : List Str) (sp : Sp) : Prop where
 len : ∀ vs H Q E, sp vs H Q E -> vs.length = ps.length
 run : ∀ (A : Around) (outer : List Env) (s : Shared) (H : Hp) (args : Args) (us : List Value) (vs : List V) (Q : VK) (E : XK), Room k A -> Env0 P w K mg base A outer s H -> BindsTo s fd args (ps.zip us) -> Vals vs us -> sp vs H Q E ->
  codeAny (model P w) A (.call (.ref f) args) (CR CX outer P w H s Q E) s
theorem Env0.make {P : Program} {w : World} {K : PySem.W.Frag} {mg : Str -> Option Value} {base : Heap} {A : Around} {outer : List Env} {s : Shared} {H : Hp} (e : Env0 P w K mg base A outer s H) (C : Addr) (us : List Value) (kw : List (Str × Value)) :
  Env0 P w K mg base (A.under (.builtin "type.__call__" ⟨.ref C :: us, kw⟩)) outer s H := ⟨by first | exact e.frames | (simpa [Around.under, Code.envs, Code.isFrame, pushEnvs] using e.frames), e.mod, e.bs, e.bsz, e.funs, e.frf, e.hok, e.bare⟩
section
variable {X : Cx} {pins : List (Addr × Obj)} {σ : St} {H : Hp} {s s' : Shared}
theorem Inv.env0 (I : Inv X pins σ H s) : Env0 X.prog X.w X.K X.mg X.base X.A X.stack s H :=
 ⟨I.ok.frames, I.ok.mod, I.bs, Nat.le_trans I.ok.bsz I.sz, I.stack, I.stkFree, I.hok, I.bare⟩
theorem Inv.after {Q : VK} {u : Value} (I : Inv X pins σ H s) (h : CE X.stack X.prog X.w H s Q u s') : EP X pins σ Q u s' := by
 obtain ⟨v, H', os, bare, un, hok, r, q⟩ := h
 obtain ⟨hh, g, d, t, os'⟩ := s'
 obtain rfl : os' = s.os := os
 exact ⟨v, H', I.call (h' := hh) (g' := g) (d' := d) (t' := t) (ch := []) un hok bare (fun b z => absurd z (by simp)), r, q⟩
end
def tCall (sp : Sp) (dvs : List V) (E : XK) (t : TA) : TE := fun σ H Q => t σ H fun vs H1 => sp (vs ++ dvs) H1 Q E
def tMeth (C : Addr) (m : Str) (sp : Sp) (dvs : List V) (E : XK) (ta : TE) (t : TA) : TE := fun σ H Q => ta σ H fun x H1 => ∃ a dx fs, x = .ref a /\ H1 a = some (.ins C dx fs) /\ fs.lookup m = none /\
 t σ H1 fun vs H2 => sp (x :: (vs ++ dvs)) H2 Q E
def tMake (C : Addr) (sp : Sp) (dvs : List V) (E : XK) (t : TA) : TE := fun σ H Q => t σ H fun vs H1 => ∀ x dx, H1 x = none -> H1 dx = none -> dx ≠ x ->
 sp (.ref x :: (vs ++ dvs)) (upd (upd H1 dx (.own x)) x (.ins C dx [])) (fun v H2 => v = .non /\ Q (.ref x) H2) E
def Binds (K : PySem.W.Frag) (fd : FuncData) (ps : List Str) (ds : List Value) : Prop :=
 ∀ (s : Shared) (us : List Value), K.In s.heap -> (us ++ ds).length = ps.length -> BindsTo s fd ⟨us, []⟩ (ps.zip (us ++ ds))
theorem Binds.all {K : PySem.W.Frag} {fd : FuncData} {ps : List Str} (h : ∀ us : List Value, us.length = ps.length -> bindArgs fd ⟨us, []⟩ = pure (ps.zip us)) : Binds K fd ps [] := fun s us _ hl => by
 rw [List.append_nil] at hl ⊢
 exact .of_eq (h us hl)
def Passes (CX : CXT) (X : Cx) (E : XK) : Prop := ∀ (pins : List (Addr × Obj)) (σ : St) (H : Hp) (s : Shared) (e : Value) (s' : Shared), Inv X pins σ H s -> CX X.stack H s E e s' -> X.xe e s'
section
variable {X : Cx} {CX : CXT} {k : Nat} {f C : Addr} {fd : FuncData} {ps : List Str} {sp : Sp} {dvs : List V} {ds : List Value} {E : XK} {x m : Str} {p pos apos : Pos} {e o : Expr} {es : List Expr} {ta : TE} {t : TA}
theorem run_fn {pins : List (Addr × Obj)} {σ : St} {H : Hp} {s : Shared} {Q : VK} {us : List Value} {vs : List V} (F : FnOk X.prog X.w X.K X.mg X.base CX k f fd ps sp) (hr : Room k X.A) (hb : Binds X.K fd ps ds) (hd : Vals dvs ds) (hx : Passes CX X E)
  (I : Inv X pins σ H s) (r : Vals vs us) (h : sp (vs ++ dvs) H Q E) : wpAny (model X.prog X.w) X.A (call (.ref f) us) (EP X pins σ Q) X.xe s := by
 have r2 : Vals (vs ++ dvs) (us ++ ds) := r.append hd
 have hl : (us ++ ds).length = ps.length := by rw [<- r2.length]; exact F.len _ _ _ _ h
 refine wpAny_call (codeAny_mono (F.run X.A X.stack s H ⟨us, []⟩ (us ++ ds) (vs ++ dvs) Q E hr I.env0 (hb s us I.kIn hl) r2 h) fun r s' hq => ?_)
 cases r with
 | error e => exact hx pins σ H s e s' I hq
 | ok fl =>
  cases fl with
  | ret u => exact I.after hq
  | next => exact False.elim hq
  | brk => exact False.elim hq
  | cont => exact False.elim hq
theorem pe_call (F : FnOk X.prog X.w X.K X.mg X.base CX k f fd ps sp) (hr : Room k X.A) (hg : Gl X x) (hm : X.mg x = some (.ref f)) (hk : keepIn X.K (.ref f) = true) (hb : Binds X.K fd ps ds) (hd : Vals dvs ds) (hx : Passes CX X E)
  (ha : PA X (e :: es) t) (hdb : (x == ("__debug__" : Str)) = false := by decide) (he : starEach (e :: es) X.env = (false, eval e X.env) :: starEach es X.env := by rfl) (hpl : (backTo pos (starEach es X.env)).any (·.1) = false := by rfl) :
  PE X (.Call (.Name x p) (e :: es) [] pos) (tCall sp dvs E t) := by
 intro pins s σ H Q I h
 refine wpAny_Call_Name_kw (ld_glob I hg hm ?_ hdb)
 refine callWith_K (h₀ := X.base) I.ok.mod.kin hk (thn (ha pos pins s σ H _ I h) fun us s1 ⟨vs, H1, I1, r, q⟩ => ⟨I1.kIn, ?_⟩) he hpl
 exact run_fn F hr hb hd hx I1 r q
theorem pe_meth {pl : Sem Bool} (he : PE X o ta) (c : Cls X.K C) (hm : Meth X.K C m f) (F : FnOk X.prog X.w X.K X.mg X.base CX k f fd ps sp) (hr : Room k X.A) (hb : Binds X.K fd ps ds) (hd : Vals dvs ds) (hx : Passes CX X E) (ha : PA X (e :: es) t)
  (hst : starEach (e :: es) X.env = (false, eval e X.env) :: starEach es X.env := by rfl) (hpl : (backTo pos (starEach es X.env)).any (·.1) = false := by rfl)
  (ht : eval (.Call (.Attribute o m apos) (e :: es) [] pos) X.env = (do
   let ov <- eval o X.env
   standAt apos.atName
   let (f, first) <- holding [ov] (getMethod ov m pl)
   callWith pos f first (backTo pos (starEach (e :: es) X.env)) (backToKw pos (keywordEach [] X.env))) := by rfl) :
  PE X (.Call (.Attribute o m apos) (e :: es) [] pos) (tMeth C m sp dvs E ta t) := by
 intro pins s σ H Q I h
 refine methodCall_KW (pl := pl) (thn (he pins s σ H _ I h) fun u s1 ⟨x, H1, I1, rx, a, dx, fs, ex, ea, l, q⟩ => ?_) ht
 subst ex
 obtain rfl : u = Value.ref a := rx
 refine getmeth_ok I1 ea c hm l ?_
 refine callWith_K (first := [.ref a]) (h₀ := X.base) I.ok.mod.kin hm.kp (thn (ha pos pins s1 σ H1 _ I1 q) fun us s2 ⟨vs, H2, I2, r, q2⟩ => ⟨I2.kIn, ?_⟩) hst hpl
 exact run_fn (us := .ref a :: us) (vs := .ref a :: vs) F hr hb hd hx I2 (.cons rfl r) q2
theorem pe_meth0 {pl : Sem Bool} (he : PE X o ta) (c : Cls X.K C) (hm : Meth X.K C m f) (F : FnOk X.prog X.w X.K X.mg X.base CX k f fd ps sp) (hr : Room k X.A) (hb : Binds X.K fd ps ds) (hd : Vals dvs ds) (hx : Passes CX X E)
  (ht : eval (.Call (.Attribute o m apos) [] [] pos) X.env = (do
   let ov <- eval o X.env
   standAt apos.atName
   let (f, first) <- holding [ov] (getMethod ov m pl)
   callWith pos f first (backTo pos (starEach [] X.env)) (backToKw pos (keywordEach [] X.env))) := by rfl) :
  PE X (.Call (.Attribute o m apos) [] [] pos) (tMeth C m sp dvs E ta tNil) := by
 intro pins s σ H Q I h
 refine methodCall_KW (pl := pl) (thn (he pins s σ H _ I h) fun u s1 ⟨x, H1, I1, rx, a, dx, fs, ex, ea, l, q⟩ => ?_) ht
 subst ex
 obtain rfl : u = Value.ref a := rx
 refine getmeth_ok I1 ea c hm l ?_
 exact PySem.W.callWith_K0 (first := [.ref a]) I1.kIn hm.kp (run_fn (us := [.ref a]) (vs := [.ref a]) F hr hb hd hx I1 (.cons rfl .nil) q)
structure Mk (K : PySem.W.Frag) (C f : Addr) : Prop where
 makes : makesIn K C = true
 init : PySem.W.findIn K (.ref C) "__init__" = some (some (.ref f))
 fn : isFn K (.ref f) = true
 kp : keepIn K (.ref C) = true
theorem run_make {pins : List (Addr × Obj)} {σ : St} {H : Hp} {s : Shared} {Q : VK} {us : List Value} {vs : List V} (M : Mk X.K C f) (F : FnOk X.prog X.w X.K X.mg X.base CX k f fd ps sp) (hr : Room (k + 1) X.A) (hb : Binds X.K fd ps ds) (hd : Vals dvs ds)
  (hx : Passes CX X E) (I : Inv X pins σ H s) (r : Vals vs us)
  (h : ∀ x dx, H x = none -> H dx = none -> dx ≠ x -> sp (.ref x :: (vs ++ dvs)) (upd (upd H dx (.own x)) x (.ins C dx [])) (fun v H2 => v = .non /\ Q (.ref x) H2) E) :
  wpAny (model X.prog X.w) X.A (call (.ref C) us) (EP X pins σ Q) X.xe s := by
 have hq := h (s.heap.objs.size + 1) s.heap.objs.size (I.hok.fresh (Nat.le_succ _)) (I.hok.fresh (Nat.le_refl _)) (Nat.ne_of_lt (Nat.lt_succ_self _))
 have I2 := Inv.made (C := C) I
 have r2 : Vals (V.ref (s.heap.objs.size + 1) :: (vs ++ dvs)) (Value.ref (s.heap.objs.size + 1) :: (us ++ ds)) := .cons rfl (r.append hd)
 have hl : (Value.ref (s.heap.objs.size + 1) :: us ++ ds).length = ps.length := by
  have e := r2.length
  rw [F.len _ _ _ _ hq] at e
  exact e.symm
 refine wpAny_call (make_map (f := f) I.kIn M.makes M.init (beq_iff_eq.mp M.fn) (codeAny_mono (F.run _ X.stack _ _ ⟨Value.ref (s.heap.objs.size + 1) :: us, []⟩ (Value.ref (s.heap.objs.size + 1) :: (us ++ ds)) _ _ E (hr.make C us [])
  (I2.env0.make C us []) (hb _ (Value.ref (s.heap.objs.size + 1) :: us) I2.kIn hl) r2 hq) fun r s' hq' => ?_))
 cases r with
 | error e => exact hx pins σ _ _ e s' I2 hq'
 | ok fl =>
  cases fl with
  | ret u =>
   obtain ⟨v, H', I3, rv, ev, q3⟩ := I2.after hq'
   subst ev
   exact ⟨rv, ⟨V.ref (s.heap.objs.size + 1), H', I3, rfl, q3⟩⟩
  | next => exact False.elim hq'
  | brk => exact False.elim hq'
  | cont => exact False.elim hq'
theorem pe_make (M : Mk X.K C f) (F : FnOk X.prog X.w X.K X.mg X.base CX k f fd ps sp) (hr : Room (k + 1) X.A) (hg : Gl X x) (hm : X.mg x = some (.ref C)) (hb : Binds X.K fd ps ds) (hd : Vals dvs ds) (hx : Passes CX X E)
  (ha : PA X (e :: es) t) (hdb : (x == ("__debug__" : Str)) = false := by decide) (he : starEach (e :: es) X.env = (false, eval e X.env) :: starEach es X.env := by rfl) (hpl : (backTo pos (starEach es X.env)).any (·.1) = false := by rfl) :
  PE X (.Call (.Name x p) (e :: es) [] pos) (tMake C sp dvs E t) := by
 intro pins s σ H Q I h
 refine wpAny_Call_Name_kw (ld_glob I hg hm ?_ hdb)
 refine callWith_K (h₀ := X.base) I.ok.mod.kin M.kp (thn (ha pos pins s σ H _ I h) fun us s1 ⟨vs, H1, I1, r, q⟩ => ⟨I1.kIn, ?_⟩) he hpl
 exact run_make M F hr hb hd hx I1 r q
end
section
variable {X : Cx} {CX : CXT} {k : Nat} {f C : Addr} {fd : FuncData} {ps ks : List Str} {sp : Sp} {E : XK} {x m : Str} {p pos apos kpos : Pos} {e o : Expr} {es : List Expr} {kws : List Keyword} {te ta : TE} {t tk : TA} {nm : Option Str}
variable {g : List Value -> List Value -> List Value} {gV : List V -> List V -> List V}
end
structure FnScope (N P : List Str) (sc : Scope) : Prop where
 kind : sc.kind = .function
 co : sc.isCoroutine = false
 gen : sc.isGenerator = false
 nd : N.Nodup
 pre : N.take P.length = P
 par : ∀ x ∈ P, sc.names.lookup x = some .local \/ sc.names.lookup x = some .cell
 nofree : ∀ y ∈ sc.names, y.2 ≠ .free
theorem bindL_out {kindOf : Str -> Option NameKind} {x : Str} : ∀ {binds : List (Str × Value)} {m : Str -> Option Value}, (∀ v, (x, v) ∉ binds) -> bindL kindOf binds m x = m x
 | [], _, _ => rfl
 | (n, v) :: r, m, h => by
  unfold bindL
  rw [bindL_out fun w hw => h w (List.mem_cons_of_mem _ hw)]
  split
  ·have : x ≠ n := by rintro rfl; exact h v List.mem_cons_self
   simp [this]
  ·rfl
theorem bindC_out {kindOf : Str -> Option NameKind} {x : Str} : ∀ {binds : List (Str × Value)} {m : Str -> Option Value}, (∀ v, (x, v) ∉ binds) -> bindC kindOf binds m x = m x
 | [], _, _ => rfl
 | (n, v) :: r, m, h => by
  unfold bindC
  rw [bindC_out fun w hw => h w (List.mem_cons_of_mem _ hw)]
  split
  ·rfl
  ·have : x ≠ n := by rintro rfl; exact h v List.mem_cons_self
   simp [this]
theorem bindL_get {kindOf : Str -> Option NameKind} {x : Str} {v : Value} : ∀ {P : List Str} {vs : List Value} {i : Nat} {m : Str -> Option Value}, P.Nodup -> P[i]? = some x -> vs[i]? = some v -> kindOf x = some .local ->
  bindL kindOf (P.zip vs) m x = some v
 | [], _, _, _, _, h, _, _ => by simp at h
 | _ :: _, [], _, _, _, _, h, _ => by simp at h
 | p :: P, w :: vs, 0, m, nd, h1, h2, hk => by
  simp at h1 h2; subst h1; subst h2
  show bindL kindOf ((p, w) :: P.zip vs) m p = _
  unfold bindL
  rw [bindL_out fun v hv => (List.nodup_cons.mp nd).1 (List.of_mem_zip hv).1, if_pos hk]
  simp
 | p :: P, w :: vs, i + 1, m, nd, h1, h2, hk => by
  show bindL kindOf ((p, w) :: P.zip vs) m x = _
  unfold bindL
  exact bindL_get (i := i) (List.nodup_cons.mp nd).2 (by simpa using h1) (by simpa using h2) hk
theorem bindC_get {kindOf : Str -> Option NameKind} {x : Str} {v : Value} : ∀ {P : List Str} {vs : List Value} {i : Nat} {m : Str -> Option Value}, P.Nodup -> P[i]? = some x -> vs[i]? = some v -> kindOf x ≠ some .local ->
  bindC kindOf (P.zip vs) m x = some v
 | [], _, _, _, _, h, _, _ => by simp at h
 | _ :: _, [], _, _, _, _, h, _ => by simp at h
 | p :: P, w :: vs, 0, m, nd, h1, h2, hk => by
  simp at h1 h2; subst h1; subst h2
  show bindC kindOf ((p, w) :: P.zip vs) m p = _
  unfold bindC
  rw [bindC_out fun v hv => (List.nodup_cons.mp nd).1 (List.of_mem_zip hv).1, if_neg hk]
  simp
 | p :: P, w :: vs, i + 1, m, nd, h1, h2, hk => by
  show bindC kindOf ((p, w) :: P.zip vs) m x = _
  unfold bindC
  exact bindC_get (i := i) (List.nodup_cons.mp nd).2 (by simpa using h1) (by simpa using h2) hk
def start (N : List Str) (vs : List V) : St := vs.map some ++ List.replicate (N.length - vs.length) none
def cxOf (CX : CXT) (P : Program) (w : World) (K : PySem.W.Frag) (mg : Str -> Option Value) (base : Heap) (N : List Str) (qual : Str) (scope : Scope) (f : Addr) (cd : Value) (A : Around) (outer : List Env) (s : Shared) (H : Hp) (E : XK) : Cx where
 prog := P
 w := w
 K := K
 mg := mg
 base := base
 A := A.deeper (envOfC qual scope s.heap.objs.size f cd)
 N := N
 s₀ := s
 H₀ := H
 env := envOfC qual scope s.heap.objs.size f cd
 outer := outer
 stack := envOfC qual scope s.heap.objs.size f cd :: outer
 ex := []
 calm := true
 fn := fun _ => true
 pn := []
 xe := fun e s' => wpAny (model P w) (A.deeper (envOfC qual scope s.heap.objs.size f cd)) (leaving (envOfC qual scope s.heap.objs.size f cd) e) (fun _ s'' => CX outer H s E e s'') (fun e' s'' => CX outer H s E e' s'') s'
theorem cell_has {sc : Scope} {n : Nat} {x : Str} (h : sc.names.lookup x = some .cell) : ∃ c, (cellsFrom n sc.names []).lookup x = some c := by
 have q := PySem.W.cellsFrom_some sc.names n [] (.inl h)
 exact Option.isSome_iff_exists.mp q
theorem inv_start {CX : CXT} {P : Program} {w : World} {K : PySem.W.Frag} {mg : Str -> Option Value} {base : Heap} {N ps : List Str} {qual : Str} {scope : Scope} {f : Addr} {cd : Value} {A : Around} {outer : List Env} {s s1 : Shared} {H : Hp} {E : XK} {us : List Value} {vs : List V}
  (S : FnScope N ps scope) (hd : A.handled = none) (e0 : Env0 P w K mg base A outer s H) (hl : vs.length = ps.length) (r : Vals vs us)
  (x : InCallC s s.heap.objs.size (bindL (envOfC qual scope s.heap.objs.size f cd).kindOf (ps.zip us) fun _ => none) (cellsFrom (s.heap.objs.size + 1) scope.names []) (bindC (envOfC qual scope s.heap.objs.size f cd).kindOf (ps.zip us) fun _ => none) s1) :
  Inv (cxOf CX P w K mg base N qual scope f cd A outer s H E) [] (start N vs) H s1 := by
 have hpl : ps.length <= N.length := by have := congrArg List.length S.pre; rw [List.length_take] at this; omega
 obtain ⟨h1, tk, rfl, hk⟩ := x.done
 have noA : ∀ b : Addr, b ∉ (cxOf CX P w K mg base N qual scope f cd A outer s H E).ex := fun b z => absurd (show b ∈ ([] : List Addr) from z) (by simp)
 refine ⟨⟨e0.mod, S.kind, rfl, rfl, Nat.le_refl _, fun y z c h1 h2 => ?_, fun y hy => ?_, fun y c _ h => ?_, fun _ => hd, Around.frames_deeper e0.frames, .inr ⟨rfl, rfl⟩, fun b z => absurd z (noA b), e0.bs, e0.bsz, fun b _ _ => noA b, fun b z => absurd z (noA b), e0.funs, e0.frf⟩,
  rfl, e0.bare, Un.kept hk, ⟨_, x.toInCall.ns, fun i y v h1 h2 h3 => ?_⟩, fun y c h => ⟨_, x.cell y c h⟩, e0.hok.fresh (Nat.le_refl _), fun y c h => ?_, fun p hp => absurd (show p ∈ ([] : List (Addr × Obj)) from hp) (by simp), e0.hok.kept hk, ?_⟩
 ·exact name_of_addr x.apart (PySem.mem_of_lookup h1) (PySem.mem_of_lookup h2)
 ·have hy : scope.names.lookup y = some .cell \/ scope.names.lookup y = some .free := hy
  rcases hy with hy | hy
  ·exact cell_has hy
  ·exact absurd rfl (S.nofree _ (PySem.mem_of_lookup hy))
 ·exact Nat.le_of_lt (x.above y c (PySem.mem_of_lookup h))
 ·have hi : i < vs.length := by
   unfold start at h2
   by_cases hi : i < vs.length
   ·exact hi
   ·rw [List.getElem?_append_right (by simpa using hi)] at h2
    rw [List.getElem?_replicate] at h2
    split at h2 <;> cases h2
  have ha : vs[i]? = some v := by
   unfold start at h2
   rw [List.getElem?_append_left (by simpa using hi), List.getElem?_map] at h2
   cases e : vs[i]? with
   | none => rw [e] at h2; cases h2
   | some a => rw [e] at h2; cases h2; rfl
  obtain ⟨u, hu, rv⟩ := r.get ha
  have hp : ps[i]? = some y := by
   rw [<- S.pre, List.getElem?_take_of_lt (by omega)]; exact h1
  have ndP : ps.Nodup := by rw [<- S.pre]; exact S.nd.sublist (List.take_sublist _ _)
  refine ⟨u, rv, ?_⟩
  rcases S.par y (List.mem_of_getElem? hp) with k | k
  ·exact .inl ⟨k, bindL_get ndP hp hu k⟩
  ·obtain ⟨c, e⟩ := cell_has (n := s.heap.objs.size + 1) k
   refine .inr ⟨.inl k, c, e, ?_⟩
   have q := x.cell y c e
   rw [bindC_get ndP hp hu (by show scope.names.lookup y ≠ _; rw [k]; decide)] at q
   exact q
 ·exact e0.hok.fresh (Nat.le_of_lt (x.above y c (PySem.mem_of_lookup h)))
 ·unfold start
  show _ = N.length
  rw [List.length_append, List.length_map, List.length_replicate]
  omega
theorem fn_of {CX : CXT} {P : Program} {w : World} {K : PySem.W.Frag} {mg : Str -> Option Value} {base : Heap} {k : Nat} {f : Addr} {name qual : Str} {params : Arguments} {body : List Stmt} {scope : Scope} {dV kV doc pm cdv ct oc : Value} {an od : Option Addr}
  {osl : Array (Option Value)} {N ps : List Str} {sp : Sp} (lk : K.lookup f = some ⟨oc, od, .func (fnOf name qual params body scope dV kV doc pm an cdv ct), osl⟩) (hcd : codeIn K cdv qual = true) (S : FnScope N ps scope)
  (len : ∀ vs H Q E, sp vs H Q E -> vs.length = ps.length)
  (hbody : ∀ (A : Around) (outer : List Env) (s : Shared) (H : Hp) (vs : List V) (Q : VK) (E : XK), Room k (A.deeper (envOfC qual scope s.heap.objs.size f cdv)) -> sp vs H Q E ->
   ∃ t, PSs (cxOf CX P w K mg base N qual scope f cdv A outer s H E) body t /\ t { nx := fun _ H' => Q .non H', rt := Q } (start N vs) H) :
  FnOk P w K mg base CX (k + 1) f (fnOf name qual params body scope dV kV doc pm an cdv ct) ps sp := by
 refine ⟨len, fun A outer s H args us vs Q E hr e0 hb r hsp => ?_⟩
 have hl := len _ _ _ _ hsp
 have KX : K.In s.heap := e0.mod.kin.keeps fun b o e => (e0.bs b o e).1
 have lim : s.heap.NoLimit := e0.mod.nolimit.keeps fun b o e => (e0.bs b o e).1
 have hkind : ∀ y ∈ ps.zip us, scope.names.lookup y.1 = some .local \/ (scope.names.lookup y.1 = some .cell /\ ((cellsFrom (s.heap.objs.size + 1) scope.names []).lookup y.1).isSome = true) := fun ⟨n, v⟩ hy => by
  rcases S.par n (List.of_mem_zip hy).1 with q | q
  ·exact .inl q
  ·exact .inr ⟨q, PySem.W.cellsFrom_some _ _ _ (.inl q)⟩
 refine codeAny_call_function hr.depth (KX _ _ lk) rfl S.co S.gen rfl (PySem.W.codeRec_of KX hcd) (hb _ _ _ _ ?_)
 refine wpAny_newFunctionEnv_cells S.kind hkind fun env he s1 x => ?_
 subst he
 refine ⟨lim.keeps x.toInCall.keep, codeAny_func ?_⟩
 obtain ⟨t, ht, hq⟩ := hbody A outer s H vs Q E (hr.deeper _) hsp
 have I : Inv (cxOf CX P w K mg base N qual scope f cdv A outer s H E) [] (start N vs) H s1 := inv_start S hr.hd e0 hl r x
 refine wpAny_mono (ht [] s1 (start N vs) H _ I hq) (fun fl s' hs => ?_) fun e s' hs => hs
 have fin : ∀ {σ' : St} {H' : Hp} {v : V} {u : Value}, Inv (cxOf CX P w K mg base N qual scope f cdv A outer s H E) [] σ' H' s' -> RelV v u -> Q v H' -> CE outer P w H s Q u s' :=
  fun {σ' H' v u} J rv q => ⟨v, H', J.os, J.bare, J.base, J.hok, rv, q⟩
 cases fl with
 | ret u =>
  obtain ⟨v, σ', H', J, rv, q⟩ := hs
  exact fin J rv q
 | next =>
  obtain ⟨σ', H', J, q⟩ := hs
  exact fin (v := V.non) (u := Value.none) J rfl q
 | brk =>
  obtain ⟨_, _, _, q⟩ := hs
  exact False.elim q
 | cont =>
  obtain ⟨_, _, _, q⟩ := hs
  exact False.elim q
end L2
namespace L2
open PySem PySem.Spec PyProof.Rows
section
variable {X : Cx} {x : Str} {p pos : Pos} {e : Expr} {es : List Expr} {t : TA} {id T : String} {r : List V -> Hp -> VK -> Prop}
def tCB (r : List V -> Hp -> VK -> Prop) (t : TA) : TE := fun σ H Q => t σ H fun vs H1 => r vs H1 Q
theorem pe_callB (hc : CallR X (.builtin id) r) (hg : Gl X x) (hm : X.mg x = none) (hv : bootBuiltins x = some (.builtin id)) (ha : PA X (e :: es) t) (hn : x ≠ "__name__" := by decide) (hdb : (x == ("__debug__" : Str)) = false := by decide)
  (he : starEach (e :: es) X.env = (false, eval e X.env) :: starEach es X.env := by rfl) (hpl : (backTo pos (starEach es X.env)).any (·.1) = false := by rfl) : PE X (.Call (.Name x p) (e :: es) [] pos) (tCB r t) := by
 intro pins s σ H Q I h
 refine wpAny_Call_Name_kw (ld_blt I hg hm hv ?_ hn hdb)
 exact PyProof.Rows.callWith_builtin1 (thn (ha pos pins s σ H _ I h) fun us s1 ⟨vs, H1, I1, r1, q1⟩ => hc pins s1 σ H1 vs us Q I1 r1 q1) he hpl
theorem pe_callTy (hc : CallR X (.type T) r) (hg : Gl X x) (hm : X.mg x = none) (hv : bootBuiltins x = some (.type T)) (ha : PA X (e :: es) t) (hn : x ≠ "__name__" := by decide) (hdb : (x == ("__debug__" : Str)) = false := by decide)
  (he : starEach (e :: es) X.env = (false, eval e X.env) :: starEach es X.env := by rfl) (hpl : (backTo pos (starEach es X.env)).any (·.1) = false := by rfl) : PE X (.Call (.Name x p) (e :: es) [] pos) (tCB r t) := by
 intro pins s σ H Q I h
 refine wpAny_Call_Name_kw (ld_blt I hg hm hv ?_ hn hdb)
 exact PyProof.Rows.callWith_type1 (thn (ha pos pins s σ H _ I h) fun us s1 ⟨vs, H1, I1, r1, q1⟩ => hc pins s1 σ H1 vs us Q I1 r1 q1) he hpl
end
end L2
namespace HT
open PySem PyProof.Rows
section
open PySem.SeqAt
open PySem.AutoSeq1 (wpAny_loadPart')
open PySem.MeetsSeq PySem.MeetsSeq2 PySem.MeetsSeq3
end
section
variable {prog : Program} {w : World} {A : Around} {E : Value -> Shared -> Prop} {s : Shared}
theorem cat_tup {t b : Addr} {vs ws : List Value} {Q : Value -> Shared -> Prop} (ht : IsTup s.heap t vs.toArray) (hb : IsTup s.heap b ws.toArray) (hv : vs ≠ [])
  (h1 : ws = [] -> Q (.ref t) s) (h2 : ws ≠ [] -> Q (.ref s.heap.objs.size) { s with heap := s.heap.push { cls := .type "tuple", data := .seq (vs ++ ws).toArray } })
  (hsz : vs.length + ws.length <= sizeLine) : wpAny (model prog w) A (binaryOp .Add (.ref t) (.ref b)) Q E s := by
 obtain ⟨⟨cls, dd, data, sl⟩, ho, hc, n, hd⟩ := id ht
 obtain ⟨⟨cls2, dd2, data2, sl2⟩, ho2, hc2, n2, hd2⟩ := id hb
 simp only at hc hd hc2 hd2
 subst hc hd hc2 hd2
 have e : vs.toArray ++ ws.toArray = (vs ++ ws).toArray := by simp
 by_cases hw : ws = []
 ·exact concat_meets ⟨_, ho, rfl⟩ ⟨_, ho2, rfl⟩ noFill_tuple_add seq_tuple_add PySem.F.slot_tuple_add PySem.F.entry_tuple_add (PySem.F.args_tuple_add_2 _ _)
   (tuple_addW1 t b vs.toArray ws.toArray n n2 dd dd2 sl sl2 (by simpa using hv) (by simp [hw])) ⟨ho, ho2, h1 hw⟩
 ·refine concat_meets ⟨_, ho, rfl⟩ ⟨_, ho2, rfl⟩ noFill_tuple_add seq_tuple_add PySem.F.slot_tuple_add PySem.F.entry_tuple_add (PySem.F.args_tuple_add_2 _ _)
   (tuple_addW2 t b vs.toArray ws.toArray n n2 dd dd2 sl sl2 (by simpa using hv) (by simpa using hw) (by rw [List.size_toArray, List.size_toArray]; exact hsz)) ⟨ho, ho2, ?_⟩
  rw [e]
  exact h2 hw
def sIx (n d : Nat) : Option Int -> Nat
 | none => d
 | some v => if v < 0 then (v + (n : Int)).toNat else min v.toNat n
theorem sIx_none (n d : Nat) : sIx n d none = d := rfl
theorem sIx_nat (n d k : Nat) : sIx n d (some (k : Int)) = min k n := by
 show (if (k : Int) < 0 then ((k : Int) + (n : Int)).toNat else min (k : Int).toNat n) = min k n
 rw [if_neg (by omega), Int.toNat_natCast]
end
end HT
namespace L2
open PySem PySem.Spec PyProof.Rows
abbrev TO := St -> Hp -> (Option Int -> Hp -> Prop) -> Prop
def PO (X : Cx) (e : Option Expr) (t : TO) : Prop :=
 ∀ (pins : List (Addr × Obj)) (s : Shared) (σ : St) (H : Hp) (Q : Option Int -> Hp -> Prop), Inv X pins σ H s -> t σ H Q ->
  wpAny (model X.prog X.w) X.A (evalPart e X.env) (fun u s' => ∃ o H', Inv X pins σ H' s' /\ IsPart u o /\ Q o H') X.xe s
def tNoPart : TO := fun _ H Q => Q none H
def tPart (t : TE) : TO := fun σ H Q => t σ H fun x H1 => ∃ i, x = .int i /\ Q (some i) H1
theorem intsAre_of {ns : List Int} : ∀ {us : List Value}, Vals (ns.map V.int) us -> IntsAre us ns := by
 induction ns with
 | nil => intro us r; rw [List.map_nil] at r; cases r; exact .nil
 | cons n ns ih =>
  intro us r
  rw [List.map_cons] at r
  cases r with
  | cons r1 r2 =>
   obtain ⟨t, e⟩ := r1
   subst e
   exact .cons n t (ih r2)
section
variable {X : Cx} {e : Expr} {te : TE} {lo hi : Option Expr} {tl th : TO} {pos p2 : Pos}
theorem po_none : PO X none tNoPart := by
 intro pins s σ H Q I h
 rw [evalPart_none]
 exact wpAny_pure ⟨none, H, I, .none, h⟩
theorem po_some (h : PE X e te) : PO X (some e) (tPart te) := by
 intro pins s σ H Q I hw
 rw [evalPart_some]
 refine thn (h pins s σ H _ I hw) fun u s1 ⟨x, H1, I1, r1, q1⟩ => ?_
 obtain ⟨i, rfl, q⟩ := q1
 obtain ⟨t, rfl⟩ := r1
 exact ⟨some i, H1, I1, .int i t, q⟩
def SlR (X : Cx) (r : V -> Option Int -> Option Int -> Hp -> VK -> Prop) : Prop :=
 ∀ (pins : List (Addr × Obj)) (s : Shared) (σ : St) (H : Hp) (x : V) (v vl vu : Value) (lo hi : Option Int) (sl : Addr) (Q : VK), Inv X pins σ H s -> RelV x v -> s.heap.IsSliceOf sl vl vu .none -> IsPart vl lo -> IsPart vu hi -> r x lo hi H Q ->
  ∃ T id, typeLookup (.type T) "__getitem__" = pure (some (.builtin id)) /\ s.TypeIs v T /\ wpAny (model X.prog X.w) X.A (getItem v (.ref sl)) (EP X pins σ Q) X.xe s
def tSl (r : V -> Option Int -> Option Int -> Hp -> VK -> Prop) (te : TE) (tl th : TO) : TE := fun σ H Q => te σ H fun x H1 => tl σ H1 fun l H2 => th σ H2 fun u H3 => r x l u H3 Q
theorem pe_slice {r : V -> Option Int -> Option Int -> Hp -> VK -> Prop} (hr : SlR X r) (he : PE X e te) (hl : PO X lo tl) (hu : PO X hi th) : PE X (.Subscript e (.Slice lo hi none p2) pos) (tSl r te tl th) := by
 intro pins s σ H Q I h
 refine Subscript_ (thn (he pins s σ H _ I h) fun v s1 ⟨x, H1, I1, r1, q1⟩ => ?_)
 refine wpAny_Slice (thn (hl pins s1 σ H1 _ I1 q1) fun vl s2 ⟨l, H2, I2, pl, q2⟩ => thn (hu pins s2 σ H2 _ I2 q2) fun vu s3 ⟨u, H3, I3, pu, q3⟩ => ?_)
 rw [evalPart_none]
 refine wpAny_pure ?_
 have I4 : Inv X pins σ H3 { s3 with heap := s3.heap.push { cls := .type "slice", data := .fields #[vl, vu, .none] } } := I3.kept (t' := s3.toks) fun b ob q => Heap.get?_push_of_some _ q
 obtain ⟨T, id, hT, ht, hg⟩ := hr pins { s3 with heap := s3.heap.push { cls := .type "slice", data := .fields #[vl, vu, .none] } } σ H3 x v vl vu l u s3.heap.objs.size Q I4 r1 (Heap.IsSliceOf.new ..) pl pu q3
 show wpAny (model X.prog X.w) X.A (subscriptTail e (.Slice lo hi none p2) v (.ref s3.heap.objs.size)) (EP X pins σ Q) X.xe { s3 with heap := s3.heap.push { cls := .type "slice", data := .fields #[vl, vu, .none] } }
 exact tail_any (ops := [.ref s3.heap.objs.size, v]) ht hT hg (by with_unfolding_all rfl)
def cutV (xs : List V) (lo hi : Option Int) : List V := (xs.drop (HT.sIx xs.length 0 lo)).take (HT.sIx xs.length xs.length hi - HT.sIx xs.length 0 lo)
theorem cutV_length (xs : List V) (lo hi : Option Int) : (cutV xs lo hi).length <= xs.length := by
 unfold cutV
 rw [List.length_take, List.length_drop]
 omega
def rCatT (K : PySem.W.Frag) : R2 := fun x y H Q => ∃ a b xs ys, x = .ref a /\ y = .ref b /\ SqT K H a xs /\ SqT K H b ys /\ xs ≠ [] /\ xs.length + ys.length <= sizeLine /\
 (ys = [] -> Q (.ref a) H) /\ (ys ≠ [] -> ∀ p, H p = none -> Q (.ref p) (upd H p (.tup (xs ++ ys))))
theorem Vals.nil_iff {xs : List V} {us : List Value} (r : Vals xs us) : us = [] ↔ xs = [] := by
 cases r with
 | nil => simp
 | cons _ _ => simp
theorem op_catT : OpR X (binaryOp .Add) (rCatT X.K) := by
 intro pins s σ H x y v u Q I rx ry h
 obtain ⟨a, b, xs, ys, rfl, rfl, ha, hb, hx, hz, q1, q2⟩ := h
 cases rx
 cases ry
 obtain ⟨its, r1, p1, _⟩ := I.tuple ha
 obtain ⟨its2, r2, p2, _⟩ := I.tuple hb
 refine HT.cat_tup p1 p2 (fun z => hx (r1.nil_iff.mp z)) (fun z => ⟨.ref a, H, I, rfl, q1 (r2.nil_iff.mp z)⟩) (fun z => ?_) (by rw [<- r1.length, <- r2.length]; exact hz)
 refine ⟨.ref s.heap.objs.size, _, I.laid (t' := s.toks) (o := .tup (xs ++ ys)) (fun b ob q => Heap.get?_push_of_some _ q) (Nat.le_refl _) ?_, rfl, q2 (fun w => z (r2.nil_iff.mpr w)) _ (I.hok.fresh (Nat.le_refl _))⟩
 exact ⟨by rw [List.length_append]; exact hz, _, r1.append r2, IsTup.new _ _⟩
end
end L2
namespace L2
open PySem PySem.Spec PyProof.Rows
def ixN (n : Nat) (i : Int) : Option Nat := if 0 <= i then (if i < n then some i.toNat else none) else if -(n : Int) <= i then some (i + n).toNat else none
def atI {α : Type} (xs : List α) (i : Int) : Option α := (ixN xs.length i).bind fun j => xs[j]?
theorem ixN_seq {n : Nat} {i : Int} {j : Nat} (h : ixN n i = some j) : seqIndex? i n = some j /\ j < n /\ -(n : Int) <= i /\ i < n := by
 unfold ixN at h
 by_cases h0 : 0 <= i
 ·rw [if_pos h0] at h
  by_cases h1 : i < n
  ·rw [if_pos h1] at h
   have e : i.toNat = j := Option.some.inj h
   exact ⟨by rw [seqIndex_of h0 h1, e], by omega, by omega, h1⟩
  ·rw [if_neg h1] at h; cases h
 ·rw [if_neg h0] at h
  by_cases h1 : -(n : Int) <= i
  ·rw [if_pos h1] at h
   have e : (i + n).toNat = j := Option.some.inj h
   exact ⟨by rw [seqIndex_neg (by omega) h1, e], by omega, h1, by omega⟩
  ·rw [if_neg h1] at h; cases h
theorem atI_get {α : Type} {xs : List α} {i : Int} {v : α} (h : atI xs i = some v) : ∃ j, seqIndex? i xs.length = some j /\ xs[j]? = some v /\ j < xs.length /\ -(xs.length : Int) <= i /\ i < xs.length := by
 unfold atI at h
 cases e : ixN xs.length i with
 | none => rw [e] at h; cases h
 | some j =>
  rw [e] at h
  obtain ⟨h1, h2, h3, h4⟩ := ixN_seq e
  exact ⟨j, h1, h, h2, h3, h4⟩
theorem atI_nat {α : Type} {xs : List α} {j : Nat} {v : α} (h : xs[j]? = some v) : atI xs (j : Int) = some v := by
 have hj : j < xs.length := (List.getElem?_eq_some_iff.mp h).1
 have e : ixN xs.length (j : Int) = some j := by
  unfold ixN
  rw [if_pos (by omega), if_pos (by omega)]; simp
 unfold atI; rw [e]; exact h
def PlainIx (b : Expr) : Prop := ∀ o i, subscripted b false o i = operate [o, i] (getItem o i)
def IxR (X : Cx) (r : R2) : Prop :=
 ∀ (value slice : Expr) (pins : List (Addr × Obj)) (s : Shared) (σ : St) (H : Hp) (x y : V) (v u : Value) (Q : VK), Inv X pins σ H s -> RelV x v -> RelV y u -> r x y H Q ->
  subscripted slice false v u = operate [v, u] (getItem v u) -> wpAny (model X.prog X.w) X.A (subscriptTail value slice v u) (EP X pins σ Q) X.xe s
def MtR (X : Cx) (id : String) (r : V -> List V -> Hp -> VK -> Prop) : Prop :=
 ∀ (pins : List (Addr × Obj)) (s : Shared) (σ : St) (H : Hp) (x : V) (xs : List V) (v : Value) (us : List Value) (Q : VK), Inv X pins σ H s -> RelV x v -> Vals xs us -> r x xs H Q ->
  wpAny (model X.prog X.w) X.A (call (.builtin id) (v :: us)) (EP X pins σ Q) X.xe s
section
variable {X : Cx} {a b : Expr} {ta tb : TE} {pos : Pos}
theorem IxR.or {r r' : R2} (h : IxR X r) (h' : IxR X r') : IxR X (fun x y H Q => r x y H Q \/ r' x y H Q) := by
 intro value slice pins s σ H x y v u Q I rx ry q hs
 rcases q with q | q
 ·exact h value slice pins s σ H x y v u Q I rx ry q hs
 ·exact h' value slice pins s σ H x y v u Q I rx ry q hs
theorem MtR.or {id : String} {r r' : V -> List V -> Hp -> VK -> Prop} (h : MtR X id r) (h' : MtR X id r') : MtR X id (fun x xs H Q => r x xs H Q \/ r' x xs H Q) := by
 intro pins s σ H x xs v us Q I rx rs q
 rcases q with q | q
 ·exact h pins s σ H x xs v us Q I rx rs q
 ·exact h' pins s σ H x xs v us Q I rx rs q
theorem pe_ix {r : R2} (hr : IxR X r) (ha : PE X a ta) (hb : PE X b tb) (hs : PlainIx b) : PE X (.Subscript a b pos) (tOp r ta tb) := by
 intro pins s σ H Q I h
 exact Subscript_ (binT ha hb I h fun v u s2 x y H2 I2 rx ry q => hr a b pins s2 σ H2 x y v u Q I2 rx ry q (hs _ _))
def rIxL (K : PySem.W.Frag) : R2 := fun x y H Q => ∃ p xs i v, x = .ref p /\ y = .int i /\ SqL K H p xs /\ atI xs i = some v /\ Q v H
def rIxT (K : PySem.W.Frag) : R2 := fun x y H Q => ∃ p xs i v, x = .ref p /\ y = .int i /\ SqT K H p xs /\ atI xs i = some v /\ Q v H
theorem ix_list : IxR X (rIxL X.K) := by
 intro value slice pins s σ H x y v u Q I rx ry h hs
 obtain ⟨p, xs, i, z, rfl, rfl, hq, he, q⟩ := h
 cases rx
 obtain ⟨t, rfl⟩ := ry
 obtain ⟨its, r, pl, hz⟩ := I.list hq
 obtain ⟨j, h1, h2, h3, h4, h5⟩ := atI_get he
 obtain ⟨w, ew, rw'⟩ := r.get h2
 have hl := r.length
 have hn := line63
 have fin : EP X pins σ Q w s := ⟨z, H, I, rw', q⟩
 by_cases h0 : 0 <= i
 ·have hj : i.toNat = j := by
   rw [seqIndex_of h0 h5] at h1
   exact Option.some.inj h1
  exact item_listR pl.isList h0 (by omega) (by rw [hj]; simpa using ew) fin hs
 ·have hj : (i + (its.toArray.size : Int)).toNat = j := by
   rw [seqIndex_neg (by omega) h4] at h1
   rw [List.size_toArray, <- hl]
   exact Option.some.inj h1
  exact subscriptTail_builtinR (x := w) pl.isList.typeIs slot_list_getitem.lookup
   (wpAny_getItem_list_neg (Q := fun r s' => r = w /\ EP X pins σ Q r s') pl.isList (by omega) (by rw [List.size_toArray] <;> omega) (by omega) (by rw [hj]; simpa using ew) ⟨rfl, fin⟩) hs
theorem ix_tup : IxR X (rIxT X.K) := by
 intro value slice pins s σ H x y v u Q I rx ry h hs
 obtain ⟨p, xs, i, z, rfl, rfl, hq, he, q⟩ := h
 cases rx
 obtain ⟨t, rfl⟩ := ry
 obtain ⟨its, r, pl, hz⟩ := I.tuple hq
 obtain ⟨j, h1, h2, h3, h4, h5⟩ := atI_get he
 obtain ⟨w, ew, rw'⟩ := r.get h2
 have hl := r.length
 have hn := line63
 have fin : EP X pins σ Q w s := ⟨z, H, I, rw', q⟩
 exact subscriptTail_builtinR (x := w) pl.typeIs slot_tuple_getitem.lookup
  (getItem_tuple (j := j) (Q := fun r s' => r = w /\ EP X pins σ Q r s') pl (by omega) (by omega) (by rw [List.size_toArray, <- hl]; exact h1) (by simpa using ew) ⟨rfl, fin⟩) hs
theorem mapSeq_set (its : List Value) (n j : Nat) (u : Value) : Obj.mapSeq (·.setIfInBounds j u) { cls := .type "list", data := .seq its.toArray n } = { cls := .type "list", data := .seq (its.set j u).toArray n } := by
 simp [Obj.mapSeq]
theorem Inv.lst {pins : List (Addr × Obj)} {σ : St} {H : Hp} {s : Shared} {p : Addr} {xs : List V} (I : Inv X pins σ H s) (h : H p = some (.lst xs)) :
  ∃ (its : List Value) (n : Nat), Vals xs its /\ s.heap.get? p = some { cls := .type "list", data := .seq its.toArray n } /\ xs.length <= sizeLine := by
 obtain ⟨z, its, n, r, e⟩ := I.hok p _ h
 exact ⟨its, n, r, e, z⟩
theorem Inv.lstUpd {pins : List (Addr × Obj)} {σ : St} {H : Hp} {s : Shared} {p : Addr} {xs ys : List V} {its its' : List Value} {n n' : Nat} {f : Obj -> Obj} (I : Inv X pins σ H s) (h : H p = some (.lst xs))
  (ho : s.heap.get? p = some { cls := .type "list", data := .seq its.toArray n }) (hf : f { cls := .type "list", data := .seq its.toArray n } = { cls := .type "list", data := .seq its'.toArray n' }) (r : Vals ys its') (hz : ys.length <= sizeLine) (t : Nat) :
  Inv X pins σ (upd H p (.lst ys)) { s with heap := s.heap.update p f, toks := t } := by
 have e : (s.heap.update p f).get? p = some { cls := .type "list", data := .seq its'.toArray n' } := by
  rw [Heap.get?_update_self f ho (by rw [hf] <;> rfl), hf]
 refine I.write (x := p) (e := p) (by rw [h]; trivial) (.inl rfl) (fun b u hb q => (Heap.get?_update_other _ _ (Ne.symm hb)).trans q) ⟨_, e⟩ ?_
 exact ⟨hz, its', n', r, e⟩
def rSetL : V -> V -> V -> Hp -> (Hp -> Prop) -> Prop := fun o i v H Q => ∃ p xs k j, o = .ref p /\ i = .int k /\ H p = some (.lst xs) /\ ixN xs.length k = some j /\ Q (upd H p (.lst (xs.set j v)))
theorem set_list : PSet X rSetL := by
 intro pins s σ H o i v ov iv u Q I ro ri rv h
 obtain ⟨p, xs, k, j, rfl, rfl, hp, hj, q⟩ := h
 cases ro
 obtain ⟨t, rfl⟩ := ri
 obtain ⟨its, n, r, ho, hz⟩ := I.lst hp
 obtain ⟨h1, h2, h3, h4⟩ := ixN_seq hj
 have hl := r.length
 have hn := line63
 have I' : Inv X pins σ (upd H p (.lst (xs.set j v))) { s with heap := s.heap.update p (Obj.mapSeq (·.setIfInBounds j u)) } :=
  I.lstUpd hp ho (mapSeq_set its n j u) (r.set rv j) (by rw [List.length_set]; exact hz) s.toks
 by_cases h0 : 0 <= k
 ·have hk : k.toNat = j := by
   rw [seqIndex_of h0 h4] at h1
   exact Option.some.inj h1
  exact PySem.W.ki_setAt ho h0 (by omega) (by rw [List.size_toArray, <- hl]; exact h4) (by rw [hk]; exact ⟨_, I', q⟩)
 ·have hk : (k + (its.toArray.size : Int)).toNat = j := by
   rw [seqIndex_neg (by omega) h3] at h1
   rw [List.size_toArray, <- hl]
   exact Option.some.inj h1
  exact PySem.W.ki_setBack ho (by omega) (by rw [List.size_toArray, <- hl]; exact h3) (by omega) (by rw [hk]; exact ⟨_, I', q⟩)
theorem slice_bounds (lo hi : Option Int) (n : Nat) : (sliceBounds lo hi none n).1 = ((HT.sIx n 0 lo : Nat) : Int) /\ (sliceBounds lo hi none n).2.1 = ((HT.sIx n n hi : Nat) : Int) /\ (sliceBounds lo hi none n).2.2 = 1 := by
 refine ⟨?_, ?_, rfl⟩
 ·cases lo with
  | none => simp [sliceBounds, HT.sIx]
  | some i =>
   simp only [sliceBounds, HT.sIx, Option.getD_none, show (1 : Int) > 0 by decide, if_true]
   by_cases h : i < 0
   ·simp only [h, if_true] <;> omega
   ·simp only [h, if_false] <;> omega
 ·cases hi with
  | none => simp [sliceBounds, HT.sIx]
  | some i =>
   simp only [sliceBounds, HT.sIx, Option.getD_none, show (1 : Int) > 0 by decide, if_true]
   by_cases h : i < 0
   ·simp only [h, if_true] <;> omega
   ·simp only [h, if_false] <;> omega
theorem slicePick_cut (its : List Value) (lo hi : Option Int) : slicePick its.toArray lo hi none = ((its.drop (HT.sIx its.length 0 lo)).take (HT.sIx its.length its.length hi - HT.sIx its.length 0 lo)).toArray := by
 obtain ⟨h1, h2, h3⟩ := slice_bounds lo hi its.toArray.size
 unfold slicePick
 rw [h1, h2, h3]
 simp only [sliceRange_one, pick_run, List.size_toArray] <;> rfl
def rSlL (K : PySem.W.Frag) : V -> Option Int -> Option Int -> Hp -> VK -> Prop := fun x lo hi H Q => ∃ a xs, x = .ref a /\ SqL K H a xs /\ ∀ p, H p = none -> Q (.ref p) (upd H p (.lst (cutV xs lo hi)))
theorem sl_list : SlR X (rSlL X.K) := by
 intro pins s σ H x v vl vu lo hi sl Q I rx hs pl pu h
 obtain ⟨a, xs, rfl, hx, q⟩ := h
 cases rx
 obtain ⟨its, r, ht, hz⟩ := I.list hx
 have hlen := r.length
 refine ⟨"list", _, slot_list_getitem.lookup, ht.isList.typeIs, ?_⟩
 refine wpAny_getItem_list_slice ht.isList hs pl pu .none (by simp) ?_ (by rw [List.size_toArray] <;> omega)
 rw [slicePick_cut, <- hlen]
 refine ⟨.ref s.heap.objs.size, _, I.laid (t' := s.toks) (o := .lst (cutV xs lo hi)) (fun b ob q => Heap.get?_push_of_some _ q) (Nat.le_refl _) ?_, rfl, q _ (I.hok.fresh (Nat.le_refl _))⟩
 exact ⟨Nat.le_trans (cutV_length xs lo hi) hz, _, 0, (r.drop (HT.sIx xs.length 0 lo)).take (HT.sIx xs.length xs.length hi - HT.sIx xs.length 0 lo), Heap.get?_push_size _ rfl⟩
def flatV : V -> Bool
 | .non => true
 | .bl _ => true
 | .int _ => true
 | .str _ => true
 | _ => false
def eqV : V -> V -> Bool
 | .non, .non => true
 | .bl a, .bl b => a == b
 | .bl a, .int b => (if a then 1 else 0) == b
 | .int a, .bl b => a == (if b then 1 else 0)
 | .int a, .int b => a == b
 | .str a, .str b => a == b
 | _, _ => false
theorem eqAt_V {A : Around} {s : Shared} {y x : V} {u v : Value} (ry : RelV y u) (rx : RelV x v) (fy : flatV y = true) (fx : flatV x = true) : SeqAt.EqAt A s u v (eqV y x) := by
 cases y with
 | non =>
  cases ry
  cases x with
  | non => cases rx; exact SeqAt.EqAt.same _
  | bl b => cases rx; exact SeqAt.EqAt.none_bool b
  | int b => obtain ⟨t, rfl⟩ := rx; exact SeqAt.EqAt.none_int b t
  | str b => obtain ⟨t, rfl⟩ := rx; exact SeqAt.EqAt.none_str b t
  | _ => exact absurd (show false = true from fx) Bool.false_ne_true
 | bl a =>
  cases ry
  cases x with
  | non => cases rx; exact SeqAt.EqAt.bool_none a
  | bl b => cases rx; exact SeqAt.EqAt.bool_bool a b
  | int b => obtain ⟨t, rfl⟩ := rx; exact SeqAt.EqAt.bool_int a b t
  | str b => obtain ⟨t, rfl⟩ := rx; exact SeqAt.EqAt.bool_str a b t
  | _ => exact absurd (show false = true from fx) Bool.false_ne_true
 | int a =>
  obtain ⟨t', rfl⟩ := ry
  cases x with
  | non => cases rx; exact SeqAt.EqAt.int_none a t'
  | bl b => cases rx; exact SeqAt.EqAt.int_bool a t' b
  | int b => obtain ⟨t, rfl⟩ := rx; exact SeqAt.EqAt.int_int a t' b t
  | str b => obtain ⟨t, rfl⟩ := rx; exact SeqAt.EqAt.int_str a t' b t
  | _ => exact absurd (show false = true from fx) Bool.false_ne_true
 | str a =>
  obtain ⟨t', rfl⟩ := ry
  cases x with
  | non => cases rx; exact SeqAt.EqAt.str_none a t'
  | bl b => cases rx; exact SeqAt.EqAt.str_bool a t' b
  | int b => obtain ⟨t, rfl⟩ := rx; exact SeqAt.EqAt.str_int a t' b t
  | str b => obtain ⟨t, rfl⟩ := rx; exact SeqAt.EqAt.str_str a t' b t
  | _ => exact absurd (show false = true from fx) Bool.false_ne_true
 | _ => exact absurd (show false = true from fy) Bool.false_ne_true
def eqU (x : V) (u : Value) : Bool := match u with
 | .none => eqV .non x
 | .bool b => eqV (.bl b) x
 | .int i _ => eqV (.int i) x
 | .str z _ => eqV (.str z) x
 | _ => false
theorem eqU_of {x y : V} {u : Value} (r : RelV y u) (f : flatV y = true) : eqU x u = eqV y x := by
 cases y with
 | non => cases r; rfl
 | bl b => cases r; rfl
 | int i => obtain ⟨t, rfl⟩ := r; rfl
 | str z => obtain ⟨t, rfl⟩ := r; rfl
 | _ => exact absurd (show false = true from f) Bool.false_ne_true
theorem any_eqU {x : V} : ∀ {xs : List V} {us : List Value}, Vals xs us -> xs.all flatV = true -> us.any (eqU x) = xs.any fun y => eqV y x
 | _, _, .nil, _ => rfl
 | y :: xs, u :: us, .cons r t, f => by
  rw [List.all_cons, Bool.and_eq_true] at f
  rw [List.any_cons, List.any_cons, eqU_of r f.1, any_eqU t f.2]
theorem mem_eqAt {A : Around} {s : Shared} {x : V} {v : Value} (rx : RelV x v) (fx : flatV x = true) : ∀ {xs : List V} {us : List Value}, Vals xs us -> xs.all flatV = true -> ∀ u ∈ us, SeqAt.EqAt A s u v (eqU x u)
 | _, _, .nil, _ => fun u hu => by cases hu
 | y :: xs, u :: us, .cons r t, f => fun u' hu => by
  rw [List.all_cons, Bool.and_eq_true] at f
  rcases List.mem_cons.mp hu with rfl | hu
  ·rw [eqU_of r f.1]; exact eqAt_V r rx f.1 fx
  ·exact mem_eqAt rx fx t f.2 u' hu
def inV (x : V) (xs : List V) : Bool := xs.any fun y => eqV y x
def rIn (K : PySem.W.Frag) (neg : Bool) : R2 := fun x y H Q => ∃ p xs, y = .ref p /\ (SqL K H p xs \/ SqT K H p xs) /\ flatV x = true /\ xs.all flatV = true /\ Q (.bl (if neg then !inV x xs else inV x xs)) H
theorem op_notIn_seq : OpR X (compareOp .NotIn) (rIn X.K true) := by
 intro pins s σ H x y v u Q I rx ry h
 obtain ⟨p, xs, rfl, hq, fx, fs, q⟩ := h
 cases ry
 rcases hq with hq | hq
 ·obtain ⟨its, r, pl, hz⟩ := I.list hq
  refine SeqAt.notIn_listAt (eqU x) pl.isList (fun w hw => mem_eqAt rx fx r fs w (by simpa using hw)) ⟨.bl _, H, I, rfl, ?_⟩
  rw [show its.toArray.any (eqU x) = its.any (eqU x) by simp, any_eqU r fs]
  exact q
 ·obtain ⟨its, r, pl, hz⟩ := I.tuple hq
  refine SeqAt.notIn_tupleAt (eqU x) pl (fun w hw => mem_eqAt rx fx r fs w (by simpa using hw)) ⟨.bl _, H, I, rfl, ?_⟩
  rw [show its.toArray.any (eqU x) = its.any (eqU x) by simp, any_eqU r fs]
  exact q
theorem call_list_of : CallR X (.type "list") (fun xs H Q => ∃ p ys, xs = [.ref p] /\ (SqL X.K H p ys \/ SqT X.K H p ys) /\ ∀ l, H l = none -> Q (.ref l) (upd H l (.lst ys))) := by
 intro pins s σ H xs us Q I r h
 obtain ⟨p, ys, rfl, hq, q⟩ := h
 obtain ⟨u, rfl, rx⟩ := vals1 r
 cases rx
 have fin : ∀ (its : List Value), Vals ys its -> ys.length <= sizeLine -> ∀ (h' : Heap) (c' : Nat), (∀ b o', s.heap.get? b = some o' -> h'.get? b = some o') ->
   h'.get? s.heap.objs.size = some { cls := .type "list", dict := none, data := .seq its.toArray c', slots := #[] } -> EP X pins σ Q (.ref s.heap.objs.size) { s with heap := h' } := fun its r' hz h' c' kp e =>
  ⟨.ref s.heap.objs.size, _, I.laid (t' := s.toks) kp (Nat.le_refl _) (show ObjOk X.prog X.w _ h' _ (.lst ys) from ⟨hz, its, c', r', e⟩), rfl, q _ (I.hok.fresh (Nat.le_refl _))⟩
 rcases hq with hq | hq
 ·obtain ⟨its, r', pl, hz⟩ := I.list hq
  have hlen := r'.length
  obtain ⟨o, ho, hc, n, hd⟩ := pl.isList
  exact call_list_seq p (.inl rfl) ho hc hd (fun h' c' kp e => fin its r' hz h' c' kp e) (by simp only [List.size_toArray] <;> omega)
 ·obtain ⟨its, r', pl, hz⟩ := I.tuple hq
  have hlen := r'.length
  obtain ⟨o, ho, hc, n, hd⟩ := pl
  exact call_list_seq p (.inr rfl) ho hc hd (fun h' c' kp e => fin its r' hz h' c' kp e) (by simp only [List.size_toArray] <;> omega)
def tyV (K : PySem.W.Frag) (T : String) (x : V) (H : Hp) : Prop := match x with
 | .str _ => T = "str"
 | .int _ => T = "int"
 | .ref p => (T = "list" /\ ∃ xs, SqL K H p xs) \/ (T = "tuple" /\ ∃ o, K.lookup p = some o /\ o.cls = .type "tuple" /\ o.dict = none) \/
   (T = "dict" /\ ((∃ kvs, H p = some (.dK kvs)) \/ ∃ kvs, H p = some (.dT kvs))) \/ (T = "set" /\ ∃ S n, H p = some (.set S n))
 | _ => False
theorem tyV_is {pins : List (Addr × Obj)} {σ : St} {H : Hp} {s : Shared} {T : String} {x : V} {v : Value} (I : Inv X pins σ H s) (r : RelV x v) (ty : tyV X.K T x H) :
  s.TypeIs v T /\ ∀ a, v = .ref a -> ∃ ob, s.heap.get? a = some ob /\ ob.dict = none := by
 cases x with
 | str z =>
  obtain ⟨t, rfl⟩ := r
  cases (show T = "str" from ty)
  exact ⟨typeIs_str s z t, fun _ e => nomatch e⟩
 | int i =>
  obtain ⟨t, rfl⟩ := r
  cases (show T = "int" from ty)
  exact ⟨typeIs_int s i t, fun _ e => nomatch e⟩
 | ref p =>
  cases r
  rcases ty with ⟨rfl, xs, hq⟩ | ⟨rfl, o, hk, hc, hd⟩ | ⟨rfl, hk⟩ | ⟨rfl, S, n, hk⟩
  ·obtain ⟨its, _, pl, _⟩ := I.list hq
   refine ⟨pl.isList.typeIs, fun a e => ?_⟩
   cases e
   obtain ⟨o, n, e, c, hd, _⟩ := pl
   exact ⟨o, e, hd⟩
  ·refine ⟨⟨o, I.kIn p o hk, hc⟩, fun a e => ?_⟩
   cases e
   exact ⟨o, I.kIn _ o hk, hd⟩
  ·have z : ∃ o, s.heap.get? p = some o /\ o.ExactDict := by
    rcases hk with ⟨kvs, hk⟩ | ⟨kvs, hk⟩
    ·obtain ⟨_, _, _, _, o, _, _, e, ex, _⟩ := I.hok p _ hk
     exact ⟨o, e, ex⟩
    ·obtain ⟨_, _, _, _, o, _, _, e, ex, _⟩ := I.hok p _ hk
     exact ⟨o, e, ex⟩
   obtain ⟨o, e, ex⟩ := z
   refine ⟨⟨o, e, ex.1⟩, fun a e2 => ?_⟩
   cases e2
   exact ⟨o, e, ex.2.1⟩
  ·obtain ⟨o, _, _, _, e, ex, _⟩ := I.hok p _ hk
   refine ⟨⟨o, e, ex.1⟩, fun a e2 => ?_⟩
   cases e2
   exact ⟨o, e, ex.2.1⟩
 | _ => exact False.elim ty
def tBM0 (K : PySem.W.Frag) (T : String) (r : V -> List V -> Hp -> VK -> Prop) (to : TE) : TE := fun σ H Q => to σ H fun x H1 => tyV K T x H1 /\ r x [] H1 Q
def tBM (K : PySem.W.Frag) (T : String) (r : V -> List V -> Hp -> VK -> Prop) (to : TE) (t : TA) : TE := fun σ H Q => to σ H fun x H1 => tyV K T x H1 /\ t σ H1 fun xs H2 => r x xs H2 Q
variable {o e : Expr} {es : List Expr} {to : TE} {t : TA} {name : Str} {apos cpos : Pos} {T id : String} {r : V -> List V -> Hp -> VK -> Prop}
theorem pe_bm0 (pa : PlainAttrs T) (slot : Slot T name id) (hty : typeOf (.builtin id) = pure (.type "method_descriptor")) (hm : MtR X id r) (ho : PE X o to)
  (hbase : attributeBase o name X.env (eval o X.env) = eval o X.env := by rfl) (hline : (apos.endLine == cpos.line) = true := by rfl) : PE X (.Call (.Attribute o name apos) [] [] cpos) (tBM0 X.K T r to) := by
 intro pins s σ H Q I h
 refine wpAny_Call_method0_late hbase hline (thn (ho pins s σ H _ I h) fun v s1 ⟨x, H1, I1, r1, ty, q1⟩ => ?_)
 obtain ⟨h1, h2⟩ := tyV_is I1 r1 ty
 exact ⟨T, id, pa, slot, hty, h1, h2, Calls.callWith_builtin rfl (PySem.evalArgs_none (hm pins s1 σ H1 x [] v [] Q I1 r1 .nil q1))⟩
theorem pe_bm (pa : PlainAttrs T) (slot : Slot T name id) (hty : typeOf (.builtin id) = pure (.type "method_descriptor")) (hm : MtR X id r) (ho : PE X o to) (ha : PA X (e :: es) t)
  (hbase : attributeBase o name X.env (eval o X.env) = eval o X.env := by rfl)
  (hfew : ((backTo cpos (starEach (e :: es) X.env)).all (fun x => !x.1) && (backToKw cpos (keywordEach [] X.env)).all (fun x => x.1.isSome)
   && decide ((e :: es).length + ([] : List Keyword).length + (if ([] : List Keyword).isEmpty then 0 else 1) < 30)) = true := by rfl)
  (hline : (apos.endLine == cpos.line) = true := by rfl) (hs : starEach (e :: es) X.env = (false, eval e X.env) :: starEach es X.env := by rfl) (hplain : (backTo cpos (starEach es X.env)).any (·.1) = false := by rfl) :
  PE X (.Call (.Attribute o name apos) (e :: es) [] cpos) (tBM X.K T r to t) := by
 intro pins s σ H Q I h
 refine wpAny_Call_method_late hbase hfew hline rfl (thn (ho pins s σ H _ I h) fun v s1 ⟨x, H1, I1, r1, ty, q1⟩ => ?_)
 obtain ⟨h1, h2⟩ := tyV_is I1 r1 ty
 refine ⟨T, id, pa, slot, hty, h1, h2, ?_⟩
 have hA := ha cpos pins s1 σ H1 _ I1 q1
 rw [hs] at hA ⊢
 refine Calls.callWith_builtin (by show (false || (backTo cpos (starEach es X.env)).any (·.1)) = false; rw [hplain] <;> rfl) (Calls.evalArgs_plain ?_)
 exact thn hA fun us s2 ⟨vs, H2, I2, r2, q2⟩ => hm pins s2 σ H2 x vs v us Q I2 r1 r2 q2
end
end L2
namespace L2
open PySem PySem.Spec PyProof.Rows
def MtM (X : Cx) (id : String) (r : V -> List V -> Hp -> VK -> Prop) : Prop :=
 ∀ (pins : List (Addr × Obj)) (s : Shared) (σ : St) (H : Hp) (x : V) (xs : List V) (v : Value) (us : List Value) (Q : VK), Inv X pins σ H s -> RelV x v -> Vals xs us -> r x xs H Q ->
  wpAny (model X.prog X.w) X.A (call (.builtin id) (v :: us)) (EP X pins σ Q) X.xe s
theorem Vals.one : ∀ {x : V} {us : List Value}, Vals [x] us -> ∃ u, us = [u] /\ RelV x u
 | _, _, .cons r .nil => ⟨_, rfl, r⟩
theorem Vals.zero : ∀ {us : List Value}, Vals [] us -> us = []
 | _, .nil => rfl
theorem Vals.dropLast {xs : List V} {us : List Value} (h : Vals xs us) : Vals xs.dropLast us.dropLast := by
 induction h with
 | nil => exact .nil
 | cons r t ih =>
  cases t with
  | nil => exact .nil
  | cons q t' => exact .cons r ih
theorem Vals.eraseIdx : ∀ {xs : List V} {us : List Value} (i : Nat), Vals xs us -> Vals (xs.eraseIdx i) (us.eraseIdx i)
 | _, _, _, .nil => .nil
 | _, _, 0, .cons _ t => t
 | _, _, i + 1, .cons r t => .cons r (Vals.eraseIdx i t)
theorem Vals.reverse {xs : List V} {us : List Value} (h : Vals xs us) : Vals xs.reverse us.reverse := by
 induction h with
 | nil => exact .nil
 | cons r t ih => rw [List.reverse_cons, List.reverse_cons]; exact Vals.append ih (.cons r .nil)
theorem Vals.rep {xs : List V} {us : List Value} (h : Vals xs us) : ∀ k : Nat, Vals (List.replicate k xs).flatten (List.replicate k us).flatten
 | 0 => .nil
 | k + 1 => by
  rw [List.replicate_succ, List.replicate_succ, List.flatten_cons, List.flatten_cons]
  exact Vals.append h (Vals.rep h k)
theorem erase_last {α : Type} (l : List α) : l.eraseIdx (l.length - 1) = l.dropLast := by
 induction l with
 | nil => rfl
 | cons a r ih =>
  cases r with
  | nil => rfl
  | cons b r =>
   have e : (a :: b :: r).length - 1 = ((b :: r).length - 1) + 1 := by
    have h1 : (a :: b :: r).length = r.length + 2 := rfl
    have h2 : (b :: r).length = r.length + 1 := rfl
    omega
   rw [e, List.eraseIdx_cons_succ, ih]
   all_goals rfl
theorem len_erase {α : Type} : ∀ (l : List α) (i : Nat), (l.eraseIdx i).length <= l.length
 | [], _ => Nat.le_refl _
 | _ :: _, 0 => Nat.le_succ _
 | _ :: r, i + 1 => Nat.succ_le_succ (len_erase r i)
theorem foldl_rep (its : List Value) : ∀ (k : Nat) (acc : List Value),
  List.foldl (fun x1 x2 => x1 ++ x2) acc.toArray (List.replicate k its.toArray) = (acc ++ (List.replicate k its).flatten).toArray
 | 0, acc => by simp
 | k + 1, acc => by
  have e : acc.toArray ++ its.toArray = (acc ++ its).toArray := by simp
  have e2 : (acc ++ its) ++ (List.replicate k its).flatten = acc ++ (List.replicate (k + 1) its).flatten := by
   rw [List.replicate_succ, List.flatten_cons, List.append_assoc]
  rw [<- e2, <- foldl_rep its k (acc ++ its), <- e, List.replicate_succ, List.foldl_cons]
section
variable {X : Cx} {pins : List (Addr × Obj)} {σ : St} {H : Hp} {s : Shared} {l b : Addr} {xs ys zs : List V}
theorem Inv.lset {its its' : List Value} {n : Nat} {f : Array Value -> Array Value} {t' : Nat} (I : Inv X pins σ H s) (hH : H l = some (.lst xs))
  (e : s.heap.get? l = some { cls := .type "list", data := .seq its.toArray n }) (hf : f its.toArray = its'.toArray) (hv : Vals ys its') (hz : ys.length <= sizeLine) :
  Inv X pins σ (upd H l (.lst ys)) { s with heap := s.heap.update l (Obj.mapSeq f), toks := t' } := by
 have q := PySem.IsL.update e f
 rw [hf] at q
 refine I.write (x := l) (e := l) (by rw [hH]; exact trivial) (.inl rfl) (fun b' u hb hu => (Heap.get?_update_other s.heap (Obj.mapSeq f) (Ne.symm hb)).trans hu) ⟨_, q⟩ ?_
 exact ⟨hz, its', _, hv, q⟩
theorem Inv.lnew {its : List Value} {t' : Nat} (I : Inv X pins σ H s) (hv : Vals ys its) (hz : ys.length <= sizeLine) :
  Inv X pins σ (upd H s.heap.objs.size (.lst ys)) { s with heap := s.heap.push { cls := .type "list", data := .seq its.toArray }, toks := t' } :=
 I.laid (fun _ _ q => Heap.get?_push_of_some _ q) (Nat.le_refl _) ⟨hz, its, 0, hv, Heap.get?_push_size _ rfl⟩
theorem Inv.fresh (I : Inv X pins σ H s) : H s.heap.objs.size = none := I.hok.fresh (Nat.le_refl _)
theorem Inv.lstM (I : Inv X pins σ H s) (hH : H l = some (.lst xs)) : xs.length <= sizeLine /\ ∃ (its : List Value) (n : Nat), Vals xs its /\ xs.length = its.length /\ s.heap.get? l = some { cls := .type "list", data := .seq its.toArray n } := by
 obtain ⟨z, its, n, r, e⟩ := I.hok l _ hH
 exact ⟨z, its, n, r, r.length, e⟩
theorem notLongL {n : Nat} (h : n <= sizeLine) : Builtin.List.listTooLong n = false := by
 unfold Builtin.List.listTooLong
 exact decide_eq_false (by omega)
end
section
variable {X : Cx}
def rAppend : V -> List V -> Hp -> VK -> Prop := fun x vs H Q => ∃ l xs y, x = .ref l /\ vs = [y] /\ H l = some (.lst xs) /\ xs.length < sizeLine /\ Q .non (upd H l (.lst (xs ++ [y])))
theorem mt_append : MtM X "list.append" rAppend := by
 intro pins s σ H x vs v us Q I rx rv h
 obtain ⟨l, xs, y, rfl, rfl, hH, hz, q⟩ := h
 cases rx
 obtain ⟨u, rfl, ru⟩ := rv.one
 obtain ⟨z, its, n, r, hl, e⟩ := I.lstM hH
 refine call_meets F.slot_list_append ⟨_, e, rfl⟩ F.entry_list_append (F.args_list_append_2 _ _) (PySem.list_append l its.toArray n u (by rw [List.size_toArray]; omega)) ⟨e, ?_⟩
 refine ⟨.non, _, I.lset (its' := its ++ [u]) hH e (by simp) (r.append (.cons ru .nil)) ?_, rfl, q⟩
 rw [List.length_append, List.length_singleton]
 omega
def rPop : V -> List V -> Hp -> VK -> Prop := fun x vs H Q => ∃ l xs y, x = .ref l /\ vs = [] /\ H l = some (.lst xs) /\ xs[xs.length - 1]? = some y /\ Q y (upd H l (.lst xs.dropLast))
theorem mt_pop : MtM X "list.pop" rPop := by
 intro pins s σ H x vs v us Q I rx rv h
 obtain ⟨l, xs, y, rfl, rfl, hH, hy, q⟩ := h
 cases rx
 have hus := rv.zero
 subst hus
 obtain ⟨z, its, n, r, hl, e⟩ := I.lstM hH
 obtain ⟨u, hu, ru⟩ := r.get hy
 have hy' : its.toArray[its.toArray.size - 1]? = some u := by
  show its.toArray[its.length - 1]? = some u
  rw [<- Array.getElem?_toList, <- hl]
  exact hu
 refine call_meets F.slot_list_pop ⟨_, e, rfl⟩ F.entry_list_pop (F.args_list_pop_1 _) (MeetsSeq.list_pop_last l its.toArray n u hy' (by rw [List.size_toArray]; omega)) ⟨e, ?_⟩
 refine ⟨y, _, I.lset (its' := its.dropLast) hH e ?_ r.dropLast ?_, ru, q⟩
 ·show its.toArray.eraseIdxIfInBounds (its.toArray.size - 1) = its.dropLast.toArray
  rw [List.size_toArray, List.eraseIdxIfInBounds_toArray, erase_last]
 ·rw [List.length_dropLast]
  omega
def rPopAt : V -> List V -> Hp -> VK -> Prop := fun x vs H Q => ∃ l xs i k y, x = .ref l /\ vs = [.int i] /\ H l = some (.lst xs) /\ -(2 ^ 63) <= i /\ i < 2 ^ 63 /\ seqIndex? i xs.length = some k /\ xs[k]? = some y /\ Q y (upd H l (.lst (xs.eraseIdx k)))
theorem mt_popAt : MtM X "list.pop" rPopAt := by
 intro pins s σ H x vs v us Q I rx rv h
 obtain ⟨l, xs, i, k, y, rfl, rfl, hH, h1, h2, hk, hy, q⟩ := h
 cases rx
 obtain ⟨u, rfl, ru⟩ := rv.one
 obtain ⟨t, rfl⟩ := ru
 obtain ⟨z, its, n, r, hl, e⟩ := I.lstM hH
 obtain ⟨w, hw, rw'⟩ := r.get hy
 refine call_meets F.slot_list_pop ⟨_, e, rfl⟩ F.entry_list_pop (F.args_list_pop_2 _ _)
  (MeetsSeq.list_pop_at l its.toArray n i t k w (fitsIndex_both h1 h2) (by rw [List.size_toArray, <- hl]; exact hk) (by rw [<- Array.getElem?_toList]; exact hw) (by rw [List.size_toArray]; omega)) ⟨e, ?_⟩
 refine ⟨y, _, I.lset (its' := its.eraseIdx k) hH e ?_ (r.eraseIdx k) ?_, rw', q⟩
 ·show its.toArray.eraseIdxIfInBounds k = (its.eraseIdx k).toArray
  rw [List.eraseIdxIfInBounds_toArray]
 ·have := len_erase xs k
  omega
def rCat : R2 := fun x y H Q => ∃ l b xs zs, x = .ref l /\ y = .ref b /\ H l = some (.lst xs) /\ H b = some (.lst zs) /\ xs.length + zs.length <= sizeLine /\ ∀ p, H p = none -> Q (.ref p) (upd H p (.lst (xs ++ zs)))
theorem op_cat : OpR X (binaryOp .Add) rCat := by
 intro pins s σ H x y v u Q I rx ry h
 obtain ⟨l, b, xs, zs, rfl, rfl, hH, hB, hz, q⟩ := h
 cases rx
 cases ry
 obtain ⟨z, its, n, r, hl, e⟩ := I.lstM hH
 obtain ⟨z2, its2, n2, r2, hl2, e2⟩ := I.lstM hB
 refine PySem.P.add_list e e2 ?_ (by rw [List.size_toArray, List.size_toArray]; omega)
 have ea : its.toArray ++ its2.toArray = (its ++ its2).toArray := by simp
 rw [ea]
 exact ⟨.ref _, _, I.lnew (t' := s.toks) (r.append r2) (by rw [List.length_append]; omega), rfl, q _ I.fresh⟩
def rRep : R2 := fun x y H Q => ∃ l k xs, x = .ref l /\ y = .int k /\ H l = some (.lst xs) /\ -(2 ^ 63) <= k /\ k < 2 ^ 63 /\ xs.length * k.toNat <= sizeLine /\
 ∀ p, H p = none -> Q (.ref p) (upd H p (.lst (List.replicate k.toNat xs).flatten))
theorem len_rep {α : Type} (xs : List α) (k : Nat) : (List.replicate k xs).flatten.length = k * xs.length := by
 induction k with
 | zero => simp
 | succ k ih => rw [List.replicate_succ, List.flatten_cons, List.length_append, ih, Nat.succ_mul, Nat.add_comm]
theorem op_rep : OpR X (binaryOp .Mult) rRep := by
 intro pins s σ H x y v u Q I rx ry h
 obtain ⟨l, k, xs, rfl, rfl, hH, h1, h2, hz, q⟩ := h
 cases rx
 obtain ⟨t, rfl⟩ := ry
 obtain ⟨z, its, n, r, hl, e⟩ := I.lstM hH
 have hlen : its.toArray.size * k.toNat <= sizeLine := by rw [List.size_toArray, <- hl]; exact hz
 have hcap : ¬ its.toArray.size * k.toNat > (2 ^ 63 - 1) / 8 := by
  have : (sizeLine : Nat) <= (2 ^ 63 - 1) / 8 := by decide
  omega
 have hfit : ¬ (!Builtin.List.listFitsIndex k) = true := by
  rw [fitsIndex_both h1 h2]
  exact Bool.false_ne_true
 have hlong : ¬ Builtin.List.listTooLong (its.toArray.size * k.toNat) = true := by
  rw [notLongL hlen]
  exact Bool.false_ne_true
 have hnew : List.foldl (fun x1 x2 => x1 ++ x2) #[] (List.replicate (if its.toArray.isEmpty = true then 0 else k.toNat) its.toArray) = (List.replicate k.toNat its).flatten.toArray := by
  have f0 : ∀ m : Nat, List.foldl (fun x1 x2 => x1 ++ x2) #[] (List.replicate m its.toArray) = (List.replicate m its).flatten.toArray := fun m => by
   have := foldl_rep its m []
   rw [List.nil_append] at this
   exact this
  rw [f0]
  cases its with
  | nil => simp
  | cons a r' => rw [if_neg (by simp)]
 refine wpAny_binaryOp_repeat_ref (T := "list") (U := "int") (by decide) ⟨_, e, rfl⟩ (fun s' => typeIs_int s' k t) noFill_list_mul F.fills_int_mul F.slot_int_rmul repeat_list F.slot_int_index.lookup
  (call_meets F.slot_int_rmul (typeIs_int s k t) F.entry_int_rmul (F.args_int_rmul_2 _ _) (int___rmul___int_list k t l its.toArray n)
   ⟨e, rfl, ⟨_, e, rfl⟩, call_meets F.slot_list_mul ⟨_, e, rfl⟩ F.entry_list_mul (F.args_list_mul_2 _ _) (AutoListH.list___mul___list_int_3 l its.toArray n k t hfit hcap hlong) ⟨e, ?_⟩⟩)
 rw [hnew]
 exact ⟨.ref _, _, I.lnew (t' := s.toks) (r.rep k.toNat) (by rw [len_rep, Nat.mul_comm]; exact hz), rfl, q _ I.fresh⟩
end
section
variable {prog : Program} {w : World} {A : Around} {E : Value -> Shared -> Prop} {s : Shared}
set_option maxRecDepth 100000 in
end
section
variable {X : Cx}
end
end L2
namespace Att
open PySem PySem.W PySem.Calls PyProof.Rows
theorem ints_of_wellAll {P : Params} {h : Heap} : ∀ (ns : List Int) (vs : List Value), WellAll P h vs (ns.map WData.int) -> IntsAre vs ns := by
 intro ns
 induction ns with
 | nil =>
  intro vs w
  rw [List.map_nil] at w
  cases w
  exact .nil
 | cons n ns ih =>
  intro vs w
  rw [List.map_cons] at w
  cases w with
  | cons a b =>
   cases a
   exact .cons _ _ (ih _ b)
theorem script_of {l : OpenLaw} {n : Nat} (hn : l.most = some n) {P : Params} {h : Heap} {args : List WData} {vals : List Value}
  (hpre : l.row.toRowW.claim.pre args = true) (hwl : WellAll P h vals args) :
  ∃ a vs ns, vals = [Value.ref a] /\ args = [WData.list (ns.map WData.int)] /\ h.get? a = some { cls := .type "list", data := .seq vs.toArray } /\ IntsAre vs ns /\ ns.length <= n := by
 have hsh : WShape.hasAll [] args [.list .int] = true := (pre_splitW hpre).1
 have hc : l.pre.holds [] { args := args } = true := (pre_splitW hpre).2
 obtain ⟨d, r, rfl, h1, h2⟩ := hasAllW_cons hsh
 obtain rfl := hasAllW_nil h2
 obtain ⟨xs, rfl, h3⟩ := hasW_list h1
 obtain ⟨ns, rfl⟩ := items_int h3
 have hlen : ns.length <= n := by
  unfold OpenLaw.pre at hc
  have h4 : (WTm.not (.lt (.lit (.int (n : Int))) (.len (.arg 0)))).holds [] { args := [.list (ns.map .int)] } = true := by
   have h4 := (holds_andW hc).1
   rw [hn] at h4
   exact h4
  have h5 := condW_of h4 (w_not (w_lt w_lit (w_len_list (w_arg rfl))))
  rw [List.length_map] at h5
  refine Nat.le_of_not_lt fun q => ?_
  have q' : (n : Int) < ((ns.length : Nat) : Int) := by omega
  first
   | (rw [decide_eq_true q'] at h5; exact absurd h5 (by decide))
   | (simp at h5; omega)
 cases hwl with
 | cons w1 w2 =>
  cases w2
  cases w1 with
  | list ho hall => exact ⟨_, _, ns, rfl, rfl, ho, ints_of_wellAll ns _ hall, hlen⟩
theorem post_true (l : OpenLaw) (args : List WData) : l.row.toRowW.claim.post args (.bool true) args = true :=
 postW_of (r := l.row.toRowW) (X := (true == true))
  (show WShape.has [] (.bool true) .bool = true by first | rfl | decide | simp [WShape.has, WShape.arms, WShape.armsAll])
  (show (WTm.eq .res (.lit (.bool true))).value [] { args := args, res := some (.bool true), after := args } = some (.bool (true == true)) from w_eq_bool (w_res rfl) w_lit) rfl
theorem attach_call {l : OpenLaw} {n : Nat} {q : Program} {loose : List Str} {XP : (Str -> Option Value) -> Heap -> Prop} {YP : World -> Heap -> Prop} {d : DefRec}
  (hn : l.most = some n) (hdf : d.params.defaults = [])
  (call : ∀ (w : World) (s₀ s₁ : Shared) (mg mb : Str -> Option Value) (fa : Addr) (o : Obj) (pm cd doc : Value) (a : Addr) (vs : List Value) (ns : List Int),
   Ground q loose [] XP w s₀ mg mb s₁.heap -> YP w s₁.heap ->
   s₁.heap.get? fa = some o -> o.data = .func (docDef d.name d.params d.body d.scope pm cd doc) -> s₁.heap.CodeRec cd d.name -> mg d.name = some (.ref fa) ->
   s₁.heap.get? a = some { cls := .type "list", data := .seq vs.toArray } -> IntsAre vs ns -> ns.length <= n -> s₁.gens = #[] ->
   codeAny (model l.prog w) callerA (.call (.ref fa) ⟨[.ref a], []⟩) (fun r s' => r = .ok (.ret (.bool true)) /\ OldK s₁.heap s'.heap /\ s'.os = s₁.os /\ AllBare s'.gens) s₁) :
  WalkO q loose XP YP l.row.toRowW d [] (fun f vs => PySem.call f vs) := by
 intro w s₀ s₁ mg mb G Y fa o pm cd doc dV kV ho hd hcd hD hmg hg args vals as hpre hlay hrd hwl hlo
 obtain rfl : dV = .none := Dflts.none hD hdf
 obtain rfl : kV = .none := Dflts.noKw hD
 obtain ⟨a, vs, ns, rfl, rfl, hobj, hints, hlen⟩ := script_of hn hpre hwl
 refine enter_call (codeAny_mono (call w s₀ s₁ mg mb fa o pm cd doc a vs ns G Y ho (fd_plain hd) hcd hmg hobj hints hlen hg) fun r s' hq => ?_)
 obtain ⟨rfl, h2, h3, h4⟩ := hq
 exact ⟨.inl ⟨.bool true, .bool true, [], rfl, fun _ => rfl, .bool true, post_true l _, fun _ => ⟨List.Pairwise.nil, fun _ hm => (nomatch hm)⟩⟩, h2, h3, h4⟩
section
variable {prog : Program} {w : World} {A : Around} {E : Value -> Shared -> Prop} {s : Shared} {K : Frag}
end
end Att
namespace L2
open PySem PySem.Spec PyProof.Rows
theorem vals_ints : ∀ {vs : List Value} {ns : List Int}, IntsAre vs ns -> Vals (ns.map V.int) vs
 | _, _, .nil => .nil
 | _, _, .cons n t h => .cons ⟨t, rfl⟩ (vals_ints h)
end L2
namespace L2
open PySem PySem.Spec PyProof.Rows
def inClass (s : Stmt) (j : Nat) : Stmt := match s with
 | .ClassDef _ _ _ body _ _ _ _ _ _ _ => body.getD j (.Pass ⟨0, 0, 0, 0⟩)
 | _ => .Pass ⟨0, 0, 0, 0⟩
def defArgs (s : Stmt) : Arguments := match s with
 | .FunctionDef _ a _ _ _ _ _ _ _ _ => a
 | _ => { posonlyargs := [], args := [], vararg := none, kwonlyargs := [], kw_defaults := [], kwarg := none, defaults := [] }
def defBody (s : Stmt) : List Stmt := match s with
 | .FunctionDef _ _ b _ _ _ _ _ _ _ => b
 | _ => []
def defScope (s : Stmt) : Scope := match s with
 | .FunctionDef _ _ _ _ _ _ sc _ _ _ => sc
 | _ => { kind := .function, names := [], isGenerator := false, isCoroutine := false }
abbrev CX0 : CXT := fun _ _ _ _ _ _ => False
abbrev E0 : XK := fun _ _ _ => False
theorem pass0 {X : Cx} : Passes CX0 X E0 := fun _ _ _ _ _ _ _ h => h.elim
structure Fun (K : PySem.W.Frag) (x qual : Str) (st : Stmt) (f : Addr) (fd : FuncData) : Prop where
 ex : ∃ (oc : Value) (od : Option Addr) (kV doc pm : Value) (an : Option Addr) (cdv ct : Value) (osl : Array (Option Value)),
  fd = fnOf x qual (defArgs st) (defBody st) (defScope st) .none kV doc pm an cdv ct /\ K.lookup f = some ⟨oc, od, .func fd, osl⟩ /\ codeIn K cdv qual = true
 kp : keepIn K (.ref f) = true
section
variable {P : Program} {w : World} {K : PySem.W.Frag} {mg : Str -> Option Value} {base : Heap}
theorem Fun.ok {x qual : Str} {st : Stmt} {f : Addr} {fd : FuncData} {N ps : List Str} {k : Nat} {sp : Sp} (F : Fun K x qual st f fd) (S : FnScope N ps (defScope st)) (len : ∀ vs H Q E, sp vs H Q E -> vs.length = ps.length)
  (hbody : ∀ (cdv : Value) (A : Around) (outer : List Env) (s : Shared) (H : Hp) (vs : List V) (Q : VK) (E : XK), Room k (A.deeper (envOfC qual (defScope st) s.heap.objs.size f cdv)) -> sp vs H Q E ->
   ∃ t, PSs (cxOf CX0 P w K mg base N qual (defScope st) f cdv A outer s H E).nox (defBody st) t /\ t { nx := fun _ H' => Q .non H', rt := Q } (start N vs) H) : FnOk P w K mg base CX0 (k + 1) f fd ps sp := by
 obtain ⟨oc, od, kV, doc, pm, an, cdv, ct, osl, rfl, lk, hcd⟩ := F.ex
 refine fn_of lk hcd S len fun A outer s H vs Q E hr hsp => ?_
 obtain ⟨t, h, q⟩ := hbody cdv A outer s H vs Q E hr hsp
 exact ⟨t, h.nox, q⟩
theorem Fun.binds {x qual : Str} {st : Stmt} {f : Addr} {fd : FuncData} {ps : List Str} (F : Fun K x qual st f fd)
  (h : ∀ (kV doc pm : Value) (an : Option Addr) (cdv ct : Value) (us : List Value), us.length = ps.length -> bindArgs (fnOf x qual (defArgs st) (defBody st) (defScope st) .none kV doc pm an cdv ct) ⟨us, []⟩ = pure (ps.zip us)) : Binds K fd ps [] := by
 obtain ⟨oc, od, kV, doc, pm, an, cdv, ct, osl, rfl, lk, hcd⟩ := F.ex
 exact .all (h kV doc pm an cdv ct)
theorem fun_mk {x qual : Str} {st : Stmt} {f : Addr} {oc : Value} {od an : Option Addr} {osl : Array (Option Value)} {kV doc pm cdv ct : Value} (l : K.lookup f = some ⟨oc, od, .func (fnOf x qual (defArgs st) (defBody st) (defScope st) .none kV doc pm an cdv ct), osl⟩)
  (c : codeIn K cdv qual = true) (k : keepIn K (.ref f) = true) : Fun K x qual st f (fnOf x qual (defArgs st) (defBody st) (defScope st) .none kV doc pm an cdv ct) := ⟨⟨oc, od, kV, doc, pm, an, cdv, ct, osl, rfl, l, c⟩, k⟩
end
theorem hu_of {A : Around} {k : Nat} (hr : Room k A) : A.units + 1 < cLine := Nat.lt_of_le_of_lt (Nat.add_le_add_left (by decide : 1 <= 64) _) hr.units
theorem small1000 {n : Nat} (h : n <= 1000) : n < sizeLine := Nat.lt_of_le_of_lt h (by decide)
section
variable {X : Cx}
theorem pv (i : Nat) {x : Str} {pos : Pos} (hN : X.N[i]? = some x := by rfl) (hv : Vis X.env.scope x := by first | exact Or.inl rfl | exact Or.inr (Or.inl rfl) | exact Or.inr (Or.inr rfl)) (hd : (x == ("__debug__" : Str)) = false := by decide)
  (hcd : (x == ("__classdict__" : Str)) = false := by decide) : PE X (.Name x pos) (tVar i) := pe_var hN hv hd hcd
end
theorem iteF {A B : Prop} (h : B) : if false = true then A else B := by
 rw [if_neg Bool.false_ne_true]
 exact h
theorem iteT {A B : Prop} (h : A) : if true = true then A else B := by
 rw [if_pos rfl]
 exact h
theorem iteNS {c A B : Prop} [Decidable c] (hc : c) (h : B) : if (!decide c) = true then A else B := by
 rw [decide_eq_true hc]
 exact iteF h
def Same (H H' : Hp) : Prop := ∀ b o, H b = some o -> H' b = some o
theorem Same.refl (H : Hp) : Same H H := fun _ _ h => h
theorem Same.trans {H H1 H2 : Hp} (a : Same H H1) (b : Same H1 H2) : Same H H2 := fun c o h => b c o (a c o h)
theorem Same.free {H H' : Hp} (e : Same H H') {l : Addr} (h : H' l = Option.none) : H l = Option.none := by
 cases q : H l with
 | none => rfl
 | some o =>
  rw [e l o q] at h
  cases h
theorem Same.seq {K : PySem.W.Frag} {H H' : Hp} {a : Addr} {xs : List V} (e : Same H H') (h : SqL K H a xs) : SqL K H' a xs := by
 rcases h with (h | ⟨o, h⟩) | h
 ·exact .inl (.inl (e _ _ h))
 ·exact .inl (.inr ⟨o, e _ _ h⟩)
 ·exact .inr h
end L2
namespace L2
open PySem PySem.Spec PyProof.Rows
def compCl (env : Env) : List (Str × NameKind) -> List (Str × Addr) -> List (Str × Addr)
 | [], acc => acc
 | (n, k) :: r, acc => compCl env r (if k == .free then (n, (env.cells.lookup n).getD 0) :: acc else acc)
theorem closure_go {env : Env} : ∀ (l : List (Str × NameKind)) (acc : List (Str × Addr)), (∀ y ∈ l, y.2 = .free -> ∃ c, env.cells.lookup y.1 = some c) ->
  (forIn l acc fun (x : Str × NameKind) (cs : List (Str × Addr)) => (if x.2 == .free then (do let c <- cellOf env x.1; pure (ForInStep.yield ((x.1, c) :: cs))) else pure (ForInStep.yield cs) : Sem (ForInStep (List (Str × Addr))))) = pure (compCl env l acc)
 | [], acc, _ => by rw [List.forIn_nil]; rfl
 | (n, k) :: r, acc, h => by
  have ih := fun a => closure_go (env := env) r a fun y hy => h y (List.mem_cons_of_mem _ hy)
  rw [List.forIn_cons]
  by_cases e : (k == NameKind.free) = true
  ·obtain ⟨c, hc⟩ := h (n, k) List.mem_cons_self (by simpa using e)
   have hc' : env.cells.lookup n = some c := hc
   have hcell : cellOf env n = pure c := by unfold cellOf; rw [hc']
   simp only [e, if_true, hcell, pure_bind]
   rw [ih]
   show _ = pure (compCl env r (if k == .free then (n, (env.cells.lookup n).getD 0) :: acc else acc))
   rw [if_pos e, hc']
   rfl
  ·simp only [e, if_false, pure_bind, Bool.false_eq_true]
   rw [ih]
   show _ = pure (compCl env r (if k == .free then (n, (env.cells.lookup n).getD 0) :: acc else acc))
   rw [if_neg e]
theorem closure_eq {env : Env} {scope : Scope} (h : ∀ y ∈ scope.names, y.2 = .free -> ∃ c, env.cells.lookup y.1 = some c) : closureFor scope env = pure (compCl env scope.names []) := by
 have q := closure_go (env := env) scope.names [] h
 unfold closureFor
 simp only [bind_pure]
 exact q
theorem look_cons {n x : Str} {c : Addr} {l : List (Str × Addr)} : ((n, c) :: l).lookup x = if x == n then some c else l.lookup x := by
 rw [List.lookup_cons]
 cases x == n <;> rfl
theorem compCl_look {env : Env} : ∀ (l : List (Str × NameKind)) (acc : List (Str × Addr)) (x : Str) (c : Addr), (∀ y ∈ l, y.2 = .free -> ∃ c, env.cells.lookup y.1 = some c) -> (compCl env l acc).lookup x = some c -> acc.lookup x = some c \/ env.cells.lookup x = some c
 | [], acc, x, c, _, e => .inl e
 | (n, k) :: r, acc, x, c, h, e => by
  have ih := compCl_look (env := env) r _ x c (fun y hy => h y (List.mem_cons_of_mem _ hy)) (show (compCl env r (if k == .free then (n, (env.cells.lookup n).getD 0) :: acc else acc)).lookup x = some c from e)
  rcases ih with ih | ih
  ·by_cases ek : (k == NameKind.free) = true
   ·rw [if_pos ek, look_cons] at ih
    by_cases ex : (x == n) = true
    ·rw [if_pos ex] at ih
     obtain ⟨c', hc⟩ := h (n, k) List.mem_cons_self (by simpa using ek)
     have hc' : env.cells.lookup n = some c' := hc
     rw [hc'] at ih
     have e1 : c' = c := Option.some.inj ih
     have e2 : x = n := by simpa using ex
     exact .inr (by rw [e2, hc', e1])
    ·rw [if_neg ex] at ih
     exact .inl ih
   ·rw [if_neg ek] at ih
    exact .inl ih
  ·exact .inr ih
theorem compCl_keep {env : Env} : ∀ (l : List (Str × NameKind)) (acc : List (Str × Addr)) (x : Str), (∃ c, acc.lookup x = some c) -> ∃ c, (compCl env l acc).lookup x = some c
 | [], acc, x, h => h
 | (n, k) :: r, acc, x, ⟨c, h⟩ => by
  refine compCl_keep (env := env) r (if k == .free then (n, (env.cells.lookup n).getD 0) :: acc else acc) x ?_
  by_cases ek : (k == NameKind.free) = true
  ·rw [if_pos ek, look_cons]
   by_cases ex : (x == n) = true
   ·rw [if_pos ex]; exact ⟨_, rfl⟩
   ·rw [if_neg ex]; exact ⟨c, h⟩
  ·rw [if_neg ek]; exact ⟨c, h⟩
theorem compCl_has {env : Env} : ∀ (l : List (Str × NameKind)) (acc : List (Str × Addr)) (x : Str), (x, NameKind.free) ∈ l -> ∃ c, (compCl env l acc).lookup x = some c
 | [], acc, x, h => by cases h
 | (n, k) :: r, acc, x, h => by
  rcases List.mem_cons.mp h with e | e
  ·obtain ⟨e1, e2⟩ := Prod.mk.inj e
   refine compCl_keep (env := env) r _ x ?_
   rw [if_pos (show (k == NameKind.free) = true from by rw [<- e2]; rfl), look_cons, if_pos (show (x == n) = true from by rw [e1]; simp)]
   exact ⟨_, rfl⟩
  ·exact compCl_has (env := env) r _ x e
abbrev relN (env : Env) (l : List (Str × NameKind)) : List (Str × NameKind) := l.map fun (n, k) => if (k == NameKind.free && env.scope.kind == .function && env.kindOf n == some .cell) then (n, NameKind.cell) else (n, k)
theorem relN_cons {env : Env} {n x : Str} {k : NameKind} {r : List (Str × NameKind)} :
  (relN env ((n, k) :: r)).lookup x = if x == n then some (if (k == NameKind.free && env.scope.kind == .function && env.kindOf n == some .cell) then NameKind.cell else k) else (relN env r).lookup x := by
 show List.lookup x ((if (k == NameKind.free && env.scope.kind == .function && env.kindOf n == some .cell) = true then (n, NameKind.cell) else (n, k)) :: relN env r) = _
 by_cases hc : (k == NameKind.free && env.scope.kind == .function && env.kindOf n == some .cell) = true
 ·rw [if_pos hc, if_pos hc, List.lookup_cons]
  cases x == n <;> rfl
 ·rw [if_neg hc, if_neg hc, List.lookup_cons]
  cases x == n <;> rfl
theorem lk_cons {n x : Str} {k : NameKind} {r : List (Str × NameKind)} : ((n, k) :: r).lookup x = if x == n then some k else r.lookup x := by
 rw [List.lookup_cons]
 cases x == n <;> rfl
theorem relN_free {env : Env} : ∀ {l : List (Str × NameKind)} {x : Str}, l.lookup x = some .free -> (relN env l).lookup x = some .cell \/ (relN env l).lookup x = some .free
 | [], x, h => by cases h
 | (n, k) :: r, x, h => by
  rw [lk_cons] at h
  rw [relN_cons]
  by_cases ex : (x == n) = true
  ·rw [if_pos ex] at h ⊢
   have hk : k = .free := Option.some.inj h
   subst hk
   split
   ·exact .inl rfl
   ·exact .inr rfl
  ·rw [if_neg ex] at h ⊢
   exact relN_free h
theorem relN_inv {env : Env} : ∀ {l : List (Str × NameKind)} {x : Str}, (∀ y ∈ l, y.2 ≠ .cell) -> ((relN env l).lookup x = some .cell \/ (relN env l).lookup x = some .free) -> l.lookup x = some .free
 | [], x, _, h => by rcases h with h | h <;> cases h
 | (n, k) :: r, x, hc, h => by
  rw [relN_cons] at h
  rw [lk_cons]
  by_cases ex : (x == n) = true
  ·rw [if_pos ex] at h ⊢
   have hk := hc (n, k) List.mem_cons_self
   have hk' : k ≠ .cell := hk
   by_cases c : (k == NameKind.free && env.scope.kind == .function && env.kindOf n == some .cell) = true
   ·have : k = .free := by
     simp only [Bool.and_eq_true] at c
     simpa using c.1.1
    rw [this]
   ·simp only [if_neg c] at h
    rcases h with h | h
    ·exact absurd (Option.some.inj h) hk'
    ·exact h
  ·rw [if_neg ex] at h ⊢
   exact relN_inv (fun y hy => hc y (List.mem_cons_of_mem _ hy)) h
def compCx (X : Cx) (scope : Scope) (N' : List Str) (C : Addr) (s2 : Shared) (H2 : Hp) (fp : List Addr) (E : Value -> Shared -> Prop) : Cx where
 prog := X.prog
 w := X.w
 K := X.K
 mg := X.mg
 base := X.base
 A := X.A
 N := N'
 s₀ := s2
 H₀ := H2
 env := compEnvC scope (compCl X.env scope.names []) C X.env
 outer := X.stack
 stack := X.stack
 ex := fp
 fn := fun _ => false
 calm := X.calm
 pn := []
 xe := E
def capS (cap : List (Option Nat)) (σ : St) : St := cap.map fun o => o.bind fun j => (σ[j]?).join
structure CSc (X : Cx) (scope : Scope) (N' : List Str) (cap : List (Option Nat)) : Prop where
 kind : scope.kind = .function
 nocell : ∀ y ∈ scope.names, y.2 ≠ .cell
 names : ∀ y ∈ scope.names, y.2 = .local -> scope.names.lookup y.1 = some .local
 free : ∀ y ∈ scope.names, y.2 = .free -> X.env.kindOf y.1 = some .cell \/ X.env.kindOf y.1 = some .free
 len : cap.length = N'.length
 cap : ∀ i ∈ List.range cap.length, ∀ j ∈ (cap[i]?).join, N'[i]? = X.N[j]? /\ (N'[i]?).isSome = true /\ (N'[i]?).bind (fun n => scope.names.lookup n) = some .free
structure CScD (sc : Scope) (N : List Str) (scope : Scope) (N' : List Str) (cap : List (Option Nat)) : Prop where
 kind : scope.kind = .function
 nocell : ∀ y ∈ scope.names, y.2 ≠ .cell
 names : ∀ y ∈ scope.names, y.2 = .local -> scope.names.lookup y.1 = some .local
 free : ∀ y ∈ scope.names, y.2 = .free -> sc.names.lookup y.1 = some .cell \/ sc.names.lookup y.1 = some .free
 len : cap.length = N'.length
 cap : ∀ i ∈ List.range cap.length, ∀ j ∈ List.range N.length, cap[i]? = some (some j) -> N'[i]? = N[j]? /\ (N'[i]?).isSome = true /\ (N'[i]?).bind (fun n => scope.names.lookup n) = some .free
theorem csc_of {X : Cx} {sc : Scope} {N : List Str} {scope : Scope} {N' : List Str} {cap : List (Option Nat)} (hs : X.env.scope = sc) (hN : X.N = N) (D : CScD sc N scope N' cap) (hc : (cap.all fun o => o.all fun j => decide (j < N.length)) = true := by rfl) : CSc X scope N' cap := by
 subst hs hN
 refine ⟨D.kind, D.nocell, D.names, D.free, D.len, fun i hi j hj => ?_⟩
 have e : cap[i]? = some (some j) := by
  cases q : cap[i]? with
  | none => rw [q] at hj; cases hj
  | some o =>
   rw [q] at hj
   have : o = some j := hj
   rw [this]
 have hm : some j ∈ cap := List.mem_of_getElem? e
 have hl := List.all_eq_true.mp hc (some j) hm
 have hl' : j < X.N.length := of_decide_eq_true (by simpa using hl)
 exact D.cap i hi j (List.mem_range.mpr hl') e
def PIfs (X : Cx) (ifs : List Expr) (t : TT) : Prop :=
 ∀ (pins : List (Addr × Obj)) (s : Shared) (σ : St) (H : Hp) (Q : Bool -> Hp -> Prop), Inv X pins σ H s -> t σ H Q ->
  wpAny (model X.prog X.w) X.A (forIn ifs true fun c r => if r = true then do let ok <- isTrue c X.env (eval c X.env); pure (ForInStep.yield ok) else pure (ForInStep.yield r)) (TP X pins σ Q) X.xe s
def tAll : TT := fun _ H Q => Q true H
theorem pif_nil {X : Cx} : PIfs X [] tAll := fun _ _ _ H _ I h => wpAny_tests_nil ⟨H, I, h⟩
theorem comp_loop {prog : Program} {w : World} {A : Around} {R : Result -> Shared -> Prop} {s : Shared} {elt tg iter : Expr} {ifs : List Expr} {scope : Scope} {pos : Pos} {it acc : Value} {env : Env} {NE : Value -> Shared -> Prop}
  (hN : NE = notedBy (model prog w) A env fun e s' => R (.error e) s') (I : Nat -> Shared -> Prop)
  (turn : ∀ n s, I n s -> wpAny (model prog w) A (pyNext it) (fun r s1 => match r with
   | none => R (.ok .next) s1
   | some v => wpAny (model prog w) A (letOwnedTupleGo tg it v) (fun _ s2 => wpAny (model prog w) A (assign tg env v) (fun _ s3 =>
     wpAny (model prog w) A (forIn ifs true fun c r => if r = true then do let ok <- isTrue c env (eval c env); pure (ForInStep.yield ok) else pure (ForInStep.yield r)) (fun ok s4 =>
      if ok = true then wpAny (model prog w) A (eval elt env) (fun x s5 => wpAny (model prog w) A (call (.builtin "list.append") [acc, x]) (fun _ s6 => ∃ m, m < n /\ I m s6) NE s5) NE s4
      else ∃ m, m < n /\ I m s4) NE s3) NE s2) NE s1) NE s)
  (n : Nat) (h : I n s) : codeAny (model prog w) A (.compLoop (.ListComp elt [⟨tg, iter, ifs, 0⟩] scope pos) 0 it acc env) R s := by
 subst hN
 refine codeAny_loop rfl I (fun k s' hI => ?_) n h
 refine (wpAny_noted ?_ : wpAny _ A ((compTurn (.ListComp elt [⟨tg, iter, ifs, 0⟩] scope pos) 0 it acc env).onRaise (fun x => do noteFrame x env; theTreesLotGoes x)) _ _ s')
 rw [compTurn_list]
 refine wpAny_bind (wpAny_standAt (wpAny_bind (thn (turn k s' hI) fun r s1 h1 => ?_)))
 cases r with
 | none => exact wpAny_pure h1
 | some v =>
  refine wpAny_bind (thn h1 fun _ s2 h2 => wpAny_bind (thn h2 fun _ s3 h3 => wpAny_bind (thn h3 fun ok s4 h4 => ?_)))
  cases ok with
  | false => exact wpAny_pure ⟨rfl, h4⟩
  | true => exact wpAny_bind (wpAny_bind (thn h4 fun x s5 h5 => wpAny_bind (thn h5 fun _ s6 h6 => wpAny_pure (wpAny_pure ⟨rfl, h6⟩))))
def Turns (J : It) (g : TG) (tst : TT) (te : TE) (p : Addr) (Q : Hp -> Prop) (σ : St) (H : Hp) : Prop :=
 ∃ W : Nat -> Nat -> St -> Hp -> Prop, (∃ m, W 0 m σ H) /\ ∀ i m σ' H', W i m σ' H' ->
  (J.stop i H' /\ Q H') \/ (J.go i H' /\ ∃ N : St -> Hp -> Prop, (∀ σ2 H2, N σ2 H2 -> ∃ m', m' < m /\ W (i + 1) m' σ2 H2) /\
   ∀ x H1, J.yld i H' x H1 -> g x σ' H1 fun σ2 H2 => tst σ2 H2 fun c H3 => if c = true then te σ2 H3 fun y H4 => ∃ xs, H4 p = some (.lst xs) /\ xs.length < sizeLine /\ N σ2 (upd H4 p (.lst (xs ++ [y]))) else N σ2 H3)
def tComp (wi : TI) (cap : List (Option Nat)) (g : TG) (tst : TT) (te : TE) : TE := fun σ H Q => wi σ H fun J H1 => ∀ p, H1 p = none -> Turns J g tst te p (fun H' => Q (.ref p) H') (capS cap σ) (upd H1 p (.lst []))
section
variable {X : Cx} {pins : List (Addr × Obj)} {σ : St} {H : Hp} {s : Shared}
theorem Inv.cellOf (I : Inv X pins σ H s) {scope : Scope} {N' : List Str} {cap : List (Option Nat)} (S : CSc X scope N' cap) : ∀ y ∈ scope.names, y.2 = .free -> ∃ c, X.env.cells.lookup y.1 = some c := fun y hy e => I.ok.has y.1 (S.free y hy e)
theorem Inv.clLook (I : Inv X pins σ H s) {scope : Scope} {N' : List Str} {cap : List (Option Nat)} (S : CSc X scope N' cap) {x : Str} {c : Addr} (e : (compCl X.env scope.names []).lookup x = some c) : X.env.cells.lookup x = some c := by
 rcases compCl_look scope.names [] x c (I.cellOf S) e with h | h
 ·cases h
 ·exact h
theorem Inv.compOk (I : Inv X pins σ H s) {scope : Scope} {N' : List Str} {cap : List (Option Nat)} (S : CSc X scope N' cap) {fp : List Addr} {C : Addr} {E : Value -> Shared -> Prop} (hC : s.heap.objs.size <= C) (hf : ∀ b ∈ fp, FpOk X pins H b)
  (ho : ∀ b ∈ fp, b < s.heap.objs.size) : (compCx X scope N' C s H fp E).Ok := by
 have nst : ∀ b ∈ fp, b ∉ frs X.stack := fun b hb z => by
  obtain ⟨_, f1, f2, _⟩ := hf b hb
  rcases List.mem_cons.mp (I.stkSub b z) with e | e
  ·exact f1 e
  ·exact f2 e
 refine ⟨I.ok.mod, S.kind, I.ok.glob, I.ok.blt, hC, fun x y c h1 h2 => ?_, fun x hx => ?_, fun x c h => (by cases h), I.ok.hd, I.ok.frames, .inl rfl, fun b hb => ⟨?_, fun x c e => ?_⟩, fun b o e => I.bs b o e, Nat.le_trans I.ok.bsz I.sz, fun b o e hb => ?_, nst, I.stack, I.stkFree⟩
 ·exact I.ok.inj x y c (I.clLook S h1) (I.clLook S h2)
 ·have q : scope.names.lookup x = some .free := relN_inv S.nocell hx
  exact compCl_has _ _ x (PySem.mem_of_lookup q)
 ·exact Nat.ne_of_lt (Nat.lt_of_lt_of_le (ho b hb) hC)
 ·exact (hf b hb).2.2.2.2.1 x c (I.clLook S e)
 ·rcases (hf b hb).2.2.2.1 with z | z
  ·exact I.ok.noex b o e z
  ·exact absurd (Nat.lt_of_lt_of_le (Heap.lt_size e) (Nat.le_trans I.ok.bsz z)) (Nat.lt_irrefl _)
theorem Inv.compStart (I : Inv X pins σ H s) {scope : Scope} {N' : List Str} {cap : List (Option Nat)} (S : CSc X scope N' cap) {fp : List Addr} {D C : Addr} {h1 : Heap} {m : Str -> Option Value} {tk : Nat} {E : Value -> Shared -> Prop}
  (hD : s.heap.objs.size <= D) (hC : s.heap.objs.size <= C) (hDC : D ≠ C) (hf : ∀ b ∈ fp, FpOk X pins H b) (ho : ∀ b ∈ fp, b < s.heap.objs.size)
  (k : ∀ b o, s.heap.get? b = some o -> h1.get? b = some o) (hd : h1.get? D = some { cls := .type "list", data := .seq #[] }) (hn : h1.Ns C m) :
  Inv (compCx X scope N' C s H fp E) [] (capS cap σ) (upd H D (.lst [])) { s with heap := h1, toks := tk } := by
 have lt : ∀ b o, s.heap.get? b = some o -> b ≠ D := fun b o e => Nat.ne_of_lt (Nat.lt_of_lt_of_le (Heap.lt_size e) hD)
 refine ⟨I.compOk S hC hf ho, rfl, I.bare, Un.laid k hD (I.hok.fresh hD), ⟨m, hn, fun i x v e1 e2 e3 => ?_⟩, fun x c e => ?_, ?_, fun x c e => ?_, fun p hp => absurd (show p ∈ ([] : List (Addr × Obj)) from hp) (by simp),
  I.hok.laid k hD ⟨Nat.zero_le _, [], _, .nil, hd⟩, by unfold capS; rw [List.length_map]; exact S.len⟩
 ·
  have e2' : (cap.map fun o => o.bind fun j => (σ[j]?).join)[i]? = some (some v) := e2
  rw [List.getElem?_map] at e2'
  cases hc : cap[i]? with
  | none => rw [hc] at e2'; cases e2'
  | some o =>
   rw [hc] at e2'
   have e2'' : (o.bind fun j => (σ[j]?).join) = some v := Option.some.inj e2'
   cases o with
   | none => cases e2''
   | some j =>
    have hv : (σ[j]?).join = some v := e2''
    have hσ : σ[j]? = some (some v) := by
     cases q : σ[j]? with
     | none => rw [q] at hv; cases hv
     | some w' => rw [q] at hv; rw [show w' = some v from hv]
    have hi : i ∈ List.range cap.length := List.mem_range.mpr (List.getElem?_eq_some_iff.mp hc).1
    obtain ⟨a1, _, a3⟩ := S.cap i hi j (by rw [hc]; rfl)
    have e1' : N'[i]? = some x := e1
    rw [e1'] at a1 a3
    have a3' : scope.names.lookup x = some .free := a3
    have hk := S.free _ (PySem.mem_of_lookup a3') rfl
    have hk' : X.env.kindOf x = some .cell \/ X.env.kindOf x = some .free := hk
    obtain ⟨m0, hn0, hl⟩ := I.loc
    obtain ⟨u, ru, lk⟩ := hl j x v a1.symm hσ (hk'.elim (fun z => .inr (.inl z)) fun z => .inr (.inr z))
    refine ⟨u, ru, ?_⟩
    rcases lk with ⟨z, _⟩ | ⟨_, c, ec, hcell⟩
    ·rcases hk' with q | q
     ·rw [z] at q; cases q
     ·rw [z] at q; cases q
    ·obtain ⟨c', ec'⟩ := compCl_has (env := X.env) scope.names [] x (PySem.mem_of_lookup a3')
     have : c' = c := Option.some.inj ((I.clLook S ec').symm.trans ec)
     subst this
     exact .inr ⟨relN_free (env := X.env) a3', c', ec', hcell.keeps k⟩
 ·obtain ⟨v, z⟩ := I.cell x c (I.clLook S e)
  exact ⟨v, z.keeps k⟩
 ·show upd H D _ C = none
  rw [upd_ne hDC.symm]
  exact I.hok.fresh hC
 ·obtain ⟨v, o, z, _⟩ := I.cell x c (I.clLook S e)
  rw [upd_ne (lt c o z)]
  exact I.freeC x c (I.clLook S e)
theorem Inv.compBack {scope : Scope} {N' : List Str} {fp : List Addr} {C : Addr} {E : Value -> Shared -> Prop} {pins' : List (Addr × Obj)} {σ' : St} {H' : Hp} {s' : Shared} (I : Inv X pins σ H s) (hf : ∀ b ∈ fp, FpOk X pins H b)
  (J : Inv (compCx X scope N' C s H fp E) pins' σ' H' s') : Inv X pins σ H' s' :=
 I.call' (ch := fp) J.os J.base J.hok J.bare fun b hb => ⟨(hf b hb).2.2.2.1, (hf b hb).2.1, (hf b hb).2.2.2.2.1, (hf b hb).2.2.2.2.2⟩
def CompEnd (X : Cx) (pins : List (Addr × Obj)) (σ : St) (Q : VK) (acc : Value) (C : Addr) (r : Result) (s' : Shared) : Prop :=
 match r with
 | .ok _ => ∃ p H' m, acc = .ref p /\ Inv X pins σ H' s' /\ FpOk X pins H' C /\ s'.heap.Ns C m /\ Q (.ref p) H'
 | .error _ => False
theorem comp_core {elt tg iter : Expr} {ifs : List Expr} {scope : Scope} {pos : Pos} {N' : List Str} {cap : List (Option Nat)} {wi : TI} {g : TG} {tst : TT} {te : TE} {Q : VK} (hc : X.calm = true) (S : CSc X scope N' cap) (hi : PI X tg iter wi)
  (hg : ∀ C s2 H2 fp, PG (compCx X scope N' C s2 H2 fp fun _ _ => False) tg g) (ht : ∀ C s2 H2 fp, PIfs (compCx X scope N' C s2 H2 fp fun _ _ => False) ifs tst)
  (he : ∀ C s2 H2 fp, PE (compCx X scope N' C s2 H2 fp fun _ _ => False) elt te) (I : Inv X pins σ H s) (h : tComp wi cap g tst te σ H Q) :
  wpAny (model X.prog X.w) X.A (eval iter X.env) (fun x s1 => wpAny (model X.prog X.w) X.A (pyIter x) (fun it s2 => wpAny (model X.prog X.w) X.A (newList []) (fun acc s3 =>
   wpAny (model X.prog X.w) X.A (newFunctionEnv scope X.env.globals (compCl X.env scope.names []) [] X.env.qual none .none (some X.env)) (fun cenv s4 =>
    codeAny (model X.prog X.w) X.A (.compStart (.ListComp elt [⟨tg, iter, ifs, 0⟩] scope pos) 0 it acc { cenv with scope := relabel scope X.env }) (CompEnd X pins σ Q acc cenv.locals) s4) X.xe s3) X.xe s2) X.xe s1) X.xe s := by
 refine thn (hi pins s σ H _ I h) fun v s1 h1 => thn h1 fun itv s2 h2 => ?_
 obtain ⟨it, fp, tn, J, H2, e, I2, T, st2, f2, q⟩ := h2
 subst e
 have ho : ∀ b ∈ fp, b < s2.heap.objs.size := fun b hb => by
  obtain ⟨o, e, _⟩ := T.obj _ _ st2 b hb
  exact Heap.lt_size e
 refine wpAny_newObj_type (wpAny_newFunctionEnv S.nocell (by intro y hy; simp at hy) (fun hp1 hns1 hsb1 => ?_) S.kind)
 have hDn : s2.heap.objs.size ≠ (s2.heap.push { cls := .type "list", dict := none, data := .seq ([] : List Value).toArray }).objs.size := by rw [Heap.size_push]; exact Nat.ne_of_lt (Nat.lt_succ_self _)
 have hCle : s2.heap.objs.size <= (s2.heap.push { cls := .type "list", dict := none, data := .seq ([] : List Value).toArray }).objs.size := by rw [Heap.size_push]; exact Nat.le_succ _
 have old : ∀ b o, s2.heap.get? b = some o -> hp1.get? b = some o := fun b o e =>
  hsb1.extBut b o (Nat.ne_of_lt (Nat.lt_of_lt_of_le (Heap.lt_size e) hCle)) (Heap.get?_push_of_some _ (Heap.get?_push_of_some _ e))
 have hacc : hp1.get? s2.heap.objs.size = some { cls := .type "list", data := .seq #[] } := hsb1.extBut _ _ hDn (Heap.get?_push_of_some _ (Heap.get?_push_size _ rfl))
 let X' : Cx := compCx X scope N' (s2.heap.push { cls := .type "list", dict := none, data := .seq ([] : List Value).toArray }).objs.size s2 H2 fp fun _ _ => False
 obtain ⟨W, ⟨m0, w0⟩, turn⟩ := q s2.heap.objs.size (I2.hok.fresh (Nat.le_refl _))
 have J0 : Inv X' [] (capS cap σ) (upd H2 s2.heap.objs.size (.lst [])) { s2 with heap := hp1, toks := s2.toks + ([] : List (Str × Value)).length } := I2.compStart S (Nat.le_refl _) hCle hDn f2 ho old hacc hns1
 have stat : ∀ {H' : Hp}, (∀ b ∈ fp, H' b = none) -> ∀ b ∈ fp, FpOk X' [] H' b := fun hn b hb => by
  obtain ⟨_, g1, g2, g3, g4, g5⟩ := f2 b hb
  refine ⟨hn b hb, Nat.ne_of_lt (Nat.lt_of_lt_of_le (ho b hb) hCle), J0.ok.exfs b hb, .inl hb, fun x c e => g4 x c (I2.clLook S e), fun p hp => absurd (show p ∈ ([] : List (Addr × Obj)) from hp) (by simp)⟩
 have fr0 : ∀ b ∈ fp, upd H2 s2.heap.objs.size (.lst []) b = none := fun b hb => by rw [upd_ne (Nat.ne_of_lt (ho b hb))]; exact (f2 b hb).1
 have loop : codeAny (model X.prog X.w) X.A (.compLoop (.ListComp elt [⟨tg, iter, ifs, 0⟩] scope pos) 0 (.ref it) (.ref s2.heap.objs.size) X'.env)
   (CompEnd X pins σ Q (.ref s2.heap.objs.size) (s2.heap.push { cls := .type "list", dict := none, data := .seq ([] : List Value).toArray }).objs.size) { s2 with heap := hp1, toks := s2.toks + ([] : List (Str × Value)).length } := by
  refine comp_loop rfl (fun n s' => ∃ i σ' H', Inv X' [] σ' H' s' /\ tn i s'.heap /\ (∀ b ∈ fp, H' b = none) /\ W i n σ' H') ?_ m0 ⟨0, _, _, J0, T.keep _ _ _ st2 fun b _ o e => old b o e, fr0, w0⟩
  rintro n s3 ⟨i, σ3, H3, I3, st3, fr3, w3⟩
  have no : ∀ (e : Value) (s' : Shared), X'.xe e s' -> notedBy (model X.prog X.w) X.A X'.env (fun e s' => CompEnd X pins σ Q (.ref s2.heap.objs.size) (s2.heap.push { cls := .type "list", dict := none, data := .seq ([] : List Value).toArray }).objs.size (.error e) s') e s' := fun _ _ z => z.elim
  rcases turn i n σ3 H3 w3 with ⟨stop, qn⟩ | ⟨go, N, hN, step⟩
  ·refine wpAny_mono (T.done X' rfl rfl rfl hc i [] s3 σ3 H3 X'.xe I3 (stat fr3) st3 stop) (fun r s4 ⟨hr, I4⟩ => ?_) no
   subst hr
   obtain ⟨mC, hmC, _⟩ := I4.loc
   exact ⟨_, H3, mC, rfl, I2.compBack f2 I4, I2.fpOk hCle I4.free, hmC, qn⟩
  ·refine wpAny_mono (T.item X' rfl rfl rfl hc i [] s3 σ3 H3 X'.xe I3 (stat fr3) st3 go) (fun r s4 ⟨u, hr, h4⟩ => ?_) no
   subst hr
   refine wpAny_mono h4 (fun _ s5 ⟨x, H5, I5, r5, y5, st5, fr5⟩ => ?_) no
   have I5' := I5.pinned (stat fr5) (T.obj _ _ st5)
   refine wpAny_mono (hg _ _ _ _ _ s5 σ3 H5 x u _ I5' r5 (step x H5 y5)) (fun _ s6 ⟨σ6, H6, I6, q6⟩ => ?_) no
   refine wpAny_mono (ht _ _ _ _ _ s6 σ6 H6 _ I6 q6) (fun ok s7 ⟨H7, I7, q7⟩ => ?_) no
   have again : ∀ {σ7 : St} {H7 : Hp} {s7 : Shared}, Inv X' ([] ++ pinsAt fp s5.heap) σ7 H7 s7 -> N σ7 H7 -> ∃ m, m < n /\ ∃ i σ' H', Inv X' [] σ' H' s7 /\ tn i s7.heap /\ (∀ b ∈ fp, H' b = none) /\ W i m σ' H' := fun {σ7 H7 s7} I7 n7 => by
    obtain ⟨m', hm, w7⟩ := hN σ7 H7 n7
    refine ⟨m', hm, i + 1, σ7, H7, I7.unpinned, T.keep _ _ _ st5 fun b hb o e => (I7.pin (b, o) (List.mem_append_right _ (List.mem_append_right _ (mem_pinsAt hb e)))).1, fun b hb => ?_, w7⟩
    obtain ⟨o, e, d⟩ := T.obj _ _ st5 b hb
    exact (I7.pin (b, o) (List.mem_append_right _ (List.mem_append_right _ (mem_pinsAt hb e)))).2.1
   cases ok with
   | false => exact again I7 q7
   | true =>
    refine wpAny_mono (he _ _ _ _ _ s7 σ6 H7 _ I7 q7) (fun y s8 ⟨z, H8, I8, r8, xs, e8, l8, q8⟩ => ?_) no
    refine wpAny_mono (mt_append (X := X') _ s8 σ6 H8 (.ref s2.heap.objs.size) [z] (.ref s2.heap.objs.size) [y] (fun _ H9 => N σ6 H9) I8 rfl (.cons r8 .nil) ⟨_, xs, z, rfl, rfl, e8, l8, q8⟩) (fun _ s9 ⟨_, H9, I9, _, q9⟩ => ?_) no
    exact again I9 q9
 exact codeAny_compStart_list loop (T.self _ 0 _ _ _ (T.keep _ _ _ st2 fun b _ o e => old b o e) loop)
theorem pe_comp {elt tg iter : Expr} {ifs : List Expr} {scope : Scope} {pos : Pos} {N' : List Str} {cap : List (Option Nat)} {wi : TI} {g : TG} {tst : TT} {te : TE} (hc : X.calm = true) (S : CSc X scope N' cap) (hi : PI X tg iter wi)
  (hg : ∀ C s2 H2 fp, PG (compCx X scope N' C s2 H2 fp fun _ _ => False) tg g) (ht : ∀ C s2 H2 fp, PIfs (compCx X scope N' C s2 H2 fp fun _ _ => False) ifs tst)
  (he : ∀ C s2 H2 fp, PE (compCx X scope N' C s2 H2 fp fun _ _ => False) elt te) (hs : ∀ x, foldedSetIterable iter X.env x = pure x := by intro _; rfl) :
  PE X (.ListComp elt [⟨tg, iter, ifs, 0⟩] scope pos) (tComp wi cap g tst te) := by
 intro pins s σ H Q I h
 rw [eval_ListComp]
 refine wpAny_comprehension_free (use := none) rfl hs (closure_eq (I.cellOf S)) S.kind S.names (thn (comp_core (Q := Q) hc S hi hg ht he I h) fun xv s1 h1 => thn h1 fun it s2 h2 => thn h2 fun acc s3 h3 => thn h3 fun cenv s4 h4 => codeAny_mono h4 fun r s5 h5 => ?_)
 cases r with
 | error e => exact False.elim h5
 | ok fl =>
  obtain ⟨p, H', m, rfl, I', F', hn, q⟩ := h5
  refine ⟨m, hn, fun h' sb => ⟨.ref p, H', ?_, rfl, q⟩⟩
  exact I'.turned (t' := s5.toks) (fun b o hb e => sb.extBut b o hb e) F'.1 F'.2.1 F'.2.2.2.1 F'.2.2.2.2.1 F'.2.2.2.2.2
theorem ps_setComp {i : Nat} {x : Str} {elt tg iter : Expr} {ifs : List Expr} {scope : Scope} {pos pos' cpos : Pos} {N' : List Str} {cap : List (Option Nat)} {wi : TI} {g : TG} {tst : TT} {te : TE} (hN : X.N.Nodup) (hx : X.N[i]? = some x) (hl : X.env.scope.names.lookup x = some .local)
  (hc : X.calm = true) (S : CSc X scope N' cap) (hi : PI X tg iter wi)
  (hg : ∀ C s2 H2 fp, PG (compCx X scope N' C s2 H2 fp fun _ _ => False) tg g) (ht : ∀ C s2 H2 fp, PIfs (compCx X scope N' C s2 H2 fp fun _ _ => False) ifs tst)
  (he : ∀ C s2 H2 fp, PE (compCx X scope N' C s2 H2 fp fun _ _ => False) elt te)
  (hsw : swapsWith (.ListComp elt [⟨tg, iter, ifs, 0⟩] scope cpos) (some (.Name x pos')) pos.line X.env = pure true := by rfl) (hs : ∀ x, foldedSetIterable iter X.env x = pure x := by intro _; rfl) :
  PS X (.Assign [.Name x pos'] (.ListComp elt [⟨tg, iter, ifs, 0⟩] scope cpos) pos) (tAsg (tComp wi cap g tst te) (gName i)) := by
 intro pins s σ H D I h
 rw [exec_Assign_Name_used _ _ _ _ hsw]
 refine wpAny_bind (wpAny_standAt (wpAny_bind ?_))
 show wpAny (model X.prog X.w) X.A (do let _ <- comprehension (.ListComp elt [⟨tg, iter, ifs, 0⟩] scope cpos) scope X.env _ (newList []) false (eval iter X.env) (some (assign (.Name x pos') X.env))) _ _ s
 refine wpAny_bind (thn (wpAny_comprehension_free (use := some (assign (.Name x pos') X.env)) (Q := fun _ s' => SP X pins D .next s') rfl hs (closure_eq (I.cellOf S)) S.kind S.names
  (thn (comp_core (Q := fun v H1 => gName i v σ H1 D.nx) hc S hi hg ht he I h) fun xv s1 h1 => thn h1 fun it s2 h2 => thn h2 fun acc s3 h3 => thn h3 fun cenv s4 h4 => codeAny_mono h4 fun r s5 h5 => ?_)) fun _ s' hq => wpAny_pure (wpAny_pure hq))
 cases r with
 | error e => exact False.elim h5
 | ok fl =>
  obtain ⟨p, H', m, rfl, I', F', hn, q⟩ := h5
  refine (wpAny_assign_Name (store_ok2 (v := V.ref p) I' hN hx (.inl hl) rfl (fun s6 I6 ⟨a, sb6, ha⟩ => ?_) (.inr hl)) : wpAny (model X.prog X.w) X.A (assign (.Name x pos') X.env (.ref p)) _ _ s5)
  have aC : cenv.locals ≠ a := by
   rcases ha with z | z
   ·rw [z]; exact F'.2.1
   ·exact fun w' => F'.2.2.2.2.1 _ _ z w'.symm
  refine ⟨m, hn.sameBut sb6 aC, fun h' sb => ⟨_, H', ?_, q⟩⟩
  exact I6.turned (t' := s6.toks) (fun b o hb e => sb.extBut b o hb e) F'.1 F'.2.1 F'.2.2.2.1 F'.2.2.2.2.1 F'.2.2.2.2.2
end
theorem turns_list {K : PySem.W.Frag} {a p : Addr} {xs : List V} {g : TG} {tst : TT} {te : TE} {Q : Hp -> Prop} {σ : St} {H : Hp} (Pv : Nat -> St -> Hp -> Prop) (h0 : Pv 0 σ H) (hl : ∀ i σ H, i <= xs.length -> Pv i σ H -> SqL K H a xs)
  (hs : ∀ i x σ H, xs[i]? = some x -> Pv i σ H -> g x σ H fun σ2 H2 => tst σ2 H2 fun c H3 => if c = true then te σ2 H3 fun y H4 => ∃ ys, H4 p = some (.lst ys) /\ ys.length < sizeLine /\ Pv (i + 1) σ2 (upd H4 p (.lst (ys ++ [y]))) else Pv (i + 1) σ2 H3)
  (hd : ∀ σ H, Pv xs.length σ H -> Q H) : Turns (Itl K a) g tst te p Q σ H := by
 refine ⟨fun i m σ H => m = xs.length - i /\ i <= xs.length /\ Pv i σ H, ⟨xs.length, by simp, Nat.zero_le _, h0⟩, ?_⟩
 rintro i m σ H ⟨rfl, hi, p⟩
 have q := hl i σ H hi p
 by_cases hlt : i < xs.length
 ·refine .inr ⟨⟨xs, xs[i], q, by simp [hlt]⟩, Pv (i + 1), fun σ' H' p' => ⟨xs.length - (i + 1), by omega, rfl, hlt, p'⟩, fun x H' y => ?_⟩
  obtain ⟨e, y⟩ := y
  subst e
  exact hs i x σ _ (y xs q) p
 ·have e : i = xs.length := by omega
  subst e
  exact .inl ⟨⟨xs, q, Nat.le_refl _⟩, hd σ H p⟩
theorem turns_range {p : Addr} {lo : Int} {n : Nat} {g : TG} {tst : TT} {te : TE} {Q : Hp -> Prop} {σ : St} {H : Hp} (Pv : Nat -> St -> Hp -> Prop) (h0 : Pv 0 σ H)
  (hs : ∀ i σ H, i < n -> Pv i σ H -> g (.int (lo + i)) σ H fun σ2 H2 => tst σ2 H2 fun c H3 => if c = true then te σ2 H3 fun y H4 => ∃ ys, H4 p = some (.lst ys) /\ ys.length < sizeLine /\ Pv (i + 1) σ2 (upd H4 p (.lst (ys ++ [y]))) else Pv (i + 1) σ2 H3)
  (hd : ∀ σ H, Pv n σ H -> Q H) : Turns (Itr lo n) g tst te p Q σ H := by
 refine ⟨fun i m σ H => m = n - i /\ i <= n /\ Pv i σ H, ⟨n, by simp, Nat.zero_le _, h0⟩, ?_⟩
 rintro i m σ H ⟨rfl, hi, p⟩
 by_cases hlt : i < n
 ·refine .inr ⟨hlt, Pv (i + 1), fun σ' H' p' => ⟨n - (i + 1), by omega, rfl, hlt, p'⟩, fun x H' y => ?_⟩
  obtain ⟨e, y⟩ := y
  subst e y
  exact hs i σ _ hlt p
 ·have e : i = n := by omega
  subst e
  exact .inl ⟨Nat.le_refl _, hd σ H p⟩
end L2
namespace L2
open PySem PySem.Spec PyProof.Rows
section
variable {X : Cx} {pins : List (Addr × Obj)} {σ : St} {H : Hp} {s : Shared} {h' : Heap}
theorem Inv.turnedLaid {t' : Nat} {ch : List Addr} {a : Addr} {o : HO} (I : Inv X pins σ H s) (hf : ∀ b ∈ ch, FpOk X pins H b) (k : ∀ b ob, b ∉ ch -> s.heap.get? b = some ob -> h'.get? b = some ob) (hp : s.heap.objs.size <= a)
  (new : ObjOk X.prog X.w (upd H a o) h' a o) : Inv X pins σ (upd H a o) { s with heap := h', toks := t' } := by
 have hn := I.hok.fresh hp
 have ntr : ∀ b u, H b = some u -> b ∉ ch := fun b u e hb => by
  have z := (hf b hb).1
  rw [z] at e; cases e
 have lt : ∀ b ob, s.heap.get? b = some ob -> b ≠ a := fun b ob e => Nat.ne_of_lt (Nat.lt_of_lt_of_le (Heap.lt_size e) hp)
 refine I.step (g' := s.gens) (d' := s.drawn) (ch := ch) (fun b hb => ⟨(hf b hb).2.2.2.1, (hf b hb).2.1, (hf b hb).2.2.2.2.1, (hf b hb).2.2.2.2.2⟩) (fun b ob _ _ hc e _ => k b ob hc e) (fun b ob _ _ hc e _ => ⟨ob.slots, k b ob hc e⟩)
  (fun b ob _ e n => by rw [upd_ne (lt b ob e)]; exact n) (fun b ob hc e => ⟨ob, k b ob hc e⟩) (fun b xs e => by rw [upd_ne (ne_of_none e hn)]; exact e) (fun b ob u e => by rw [upd_ne (ne_of_none e hn)]; exact e)
  (fun b pl y e => by rw [upd_ne (ne_of_none e hn)]; exact e) (fun m hm => ?_) (fun b u e => ?_) I.bare
 ·obtain ⟨ob, es, ep, ho, r⟩ := hm
  exact ⟨ob, es, ep, k _ ob (fun z => (hf _ z).2.1 rfl) ho, r⟩
 ·by_cases hb : b = a
  ·subst hb
   rw [upd_same] at e
   cases e
   exact new
  ·rw [upd_ne hb] at e
   refine (I.hok b u e).stay (fun c v hc q => k c v ?_ q) (fun c q => by rw [upd_ne (ne_of_none q hn)]; exact q) (fun c xs q => by rw [upd_ne (ne_of_none q hn)]; exact q) fun c ob y q => by rw [upd_ne (ne_of_none q hn)]; exact q
   rcases hc with rfl | hc
   ·exact ntr c u e
   ·exact ntr c _ hc
theorem Inv.turnedAll {t' : Nat} {ch : List Addr} (I : Inv X pins σ H s) (hf : ∀ b ∈ ch, FpOk X pins H b) (k : ∀ b ob, b ∉ ch -> s.heap.get? b = some ob -> h'.get? b = some ob) : Inv X pins σ H { s with heap := h', toks := t' } := by
 have ntr : ∀ b u, H b = some u -> b ∉ ch := fun b u e hb => by
  have z := (hf b hb).1
  rw [z] at e; cases e
 refine I.step (g' := s.gens) (d' := s.drawn) (ch := ch) (fun b hb => ⟨(hf b hb).2.2.2.1, (hf b hb).2.1, (hf b hb).2.2.2.2.1, (hf b hb).2.2.2.2.2⟩) (fun b ob _ _ hc e _ => k b ob hc e) (fun b ob _ _ hc e _ => ⟨ob.slots, k b ob hc e⟩)
  (fun b ob _ _ n => n) (fun b ob hc e => ⟨ob, k b ob hc e⟩) (fun b xs e => e) (fun b ob u e => e) (fun b pl y e => e) (fun m hm => ?_) (fun b u e => ?_) I.bare
 ·obtain ⟨ob, es, ep, ho, r⟩ := hm
  exact ⟨ob, es, ep, k _ ob (fun z => (hf _ z).2.1 rfl) ho, r⟩
 ·refine (I.hok b u e).stay (fun c v hc q => k c v ?_ q) (fun c q => q) (fun c xs q => q) fun c ob y q => q
  rcases hc with rfl | hc
  ·exact ntr c u e
  ·exact ntr c _ hc
end
def Ite (K : PySem.W.Frag) (a : Addr) : It :=
 ⟨fun i H => ∃ xs x, SqL K H a xs /\ xs[i]? = some x, fun i H v H' => ∃ t x, v = .ref t /\ H t = none /\ H' = upd H t (.tup [.int i, x]) /\ ∀ xs, SqL K H a xs -> xs[i]? = some x, fun i H => ∃ xs, SqL K H a xs /\ xs.length <= i⟩
theorem tup_new {P : Program} {w : World} {H : Hp} {h : Heap} {a : Addr} {xs : List V} {us : List Value} (r : Vals xs us) (hz : xs.length <= sizeLine) {n : Nat} (e : h.get? a = some { cls := .type "tuple", data := .seq us.toArray n }) : ObjOk P w H h a (.tup xs) :=
 ⟨hz, us, r, _, e, rfl, _, rfl⟩
theorem turn_enum {P : Program} {w : World} {K : PySem.W.Frag} {es : List Expr} {k : Nat} {pos : Pos} (a e it : Addr) (hei : e ≠ it) : Turn P w K (.Tuple es k pos) (Ite K a) [e, it] e (fun i h => (∃ old, IsEnum h e it i old) /\ h.IsListIter it a i) where
 mem := by simp
 obj := fun i h st b hb => by
  obtain ⟨⟨old, he⟩, o, ho, c, d⟩ := st
  rcases List.mem_cons.mp hb with z | hb
  ·subst z
   exact ⟨_, he, fun v q => by
    have q' : Data.fields _ = Data.cell v := q
    cases q'⟩
  ·have z : b = it := by simpa using hb
   subst z
   exact ⟨o, ho, fun v q => by rw [d] at q; cases q⟩
 keep := fun i h h' st k => ⟨let ⟨old, he⟩ := st.1; ⟨old, k e (by simp) _ he⟩, st.2.at fun o q => k it (by simp) o q⟩
 item := by
  intro X hP hw hK hc i pins s σ H E I hf st hg
  subst hP hw hK
  obtain ⟨xs, x, hq, hx⟩ := hg
  obtain ⟨its, rv, p, hz⟩ := I.list hq
  obtain ⟨u, hu, ru⟩ := rv.get hx
  obtain ⟨⟨old, he⟩, hit⟩ := st
  refine wpAny_pyNext_enum_item he hit p.isList (x := u) (by simpa using hu) hei fun h1 ho hit1 hT hsz hk => ⟨_, rfl, ?_⟩
  have hel : e < s.heap.objs.size := Heap.lt_size he
  have hil : it < s.heap.objs.size := by obtain ⟨_, q, _⟩ := hit; exact Heap.lt_size q
  refine wpAny_letOwnedTupleGo_enum ho fun h2 he2 hs2 => ?_
  refine ⟨.ref s.heap.objs.size, upd H s.heap.objs.size (.tup [.int i, x]), ?_, rfl, ⟨_, x, rfl, I.hok.fresh (Nat.le_refl _), rfl, fun ys hy => by rw [I.list_inj hy hq]; exact hx⟩, ⟨⟨u, by simpa using he2⟩, hit1.at fun o q => (hs2.2 it hei.symm).trans q⟩, fun b hb => ?_⟩
  ·refine I.turnedLaid (ch := [e, it]) hf (fun b ob hb q => (hs2.2 b fun z => hb (by simp [z])).trans (hk b ob (fun z => hb (by simp [z])) (fun z => hb (by simp [z])) q)) (Nat.le_refl _) ?_
   exact tup_new (us := [.int i s.toks, u]) (.cons ⟨_, rfl⟩ (.cons ru .nil)) (by show 2 <= sizeLine; decide) ((hs2.2 _ (Nat.ne_of_gt hel)).trans hT)
  ·have hbl : b < s.heap.objs.size := by
    rcases List.mem_cons.mp hb with z | hb
    ·rw [z]; exact hel
    ·rw [show b = it by simpa using hb]; exact hil
   rw [upd_ne (Nat.ne_of_lt hbl)]
   exact (hf b hb).1
 done := by
  intro X hP hw hK hc i pins s σ H E I hf st hg
  subst hP hw hK
  obtain ⟨xs, hq, hx⟩ := hg
  obtain ⟨its, rv, p, hz⟩ := I.list hq
  obtain ⟨⟨old, he⟩, hit⟩ := st
  have hl := rv.length
  exact wpAny_pyNext_enum_end (I.ok.hd hc) he hit p.isList (by simp; omega) fun h1 eb => ⟨rfl, I.turnedAll (t' := s.toks) (ch := [e, it]) hf fun b ob hb q => eb b ob (fun z => hb (by simp [z])) q⟩
 self := fun _ _ _ _ _ st h => let ⟨⟨_, he⟩, _⟩ := st; wpAny_pyIter_enum he h
theorem boot_enum : bootBuiltins ("enumerate" : Str) = some (.type "enumerate") := by first | exact PyProof.Rows.Boot.«enumerate» | exact PySem.boot_enumerate | rfl | decide +kernel
theorem boot_zip' : bootBuiltins ("zip" : Str) = some (.type "zip") := by first | exact PyProof.Rows.Boot.«zip» | exact PySem.boot_zip | rfl | decide +kernel
def iEnum (K : PySem.W.Frag) (ta : TA) : TI := fun σ H R => ta σ H fun vs H1 => ∃ a, vs = [.ref a] /\ (∃ xs, SqL K H1 a xs) /\ R (Ite K a) H1
theorem pi_enum {X : Cx} {es : List Expr} {k : Nat} {tpos : Pos} {l : Expr} {ta : TA} {p pos : Pos} (hg : Gl X "enumerate") (hm : X.mg "enumerate" = none) (ha : PA X [l] ta) (hs : starEach [l] X.env = [(false, eval l X.env)] := by rfl) : PI X (.Tuple es k tpos) (.Call (.Name "enumerate" p) [l] [] pos) (iEnum X.K ta) := by
 intro pins s σ H R I h
 refine Call_ (ld_blt I hg hm boot_enum (PyProof.Rows.callWith_type1 (thn (ha pos pins s σ H _ I h) fun us s1 ⟨vs, H1, I1, r1, q1⟩ => ?_) hs rfl))
 obtain ⟨a, e, ⟨xs, hq⟩, q⟩ := q1
 subst e
 obtain ⟨u, rfl, ru⟩ := vals1 r1
 cases ru
 obtain ⟨its, rv, pl, hz⟩ := I1.list hq
 refine call_enumerate_list pl.isList fun h1 he hit hsz hk => ?_
 have I2 : Inv X pins σ H1 { s1 with heap := h1 } := I1.kept (t' := s1.toks) hk
 refine wpAny_pyIter_enum he ⟨s1.heap.objs.size + 1, [s1.heap.objs.size + 1, s1.heap.objs.size], _, _, H1, rfl, I2, turn_enum a _ _ (Nat.ne_of_gt (Nat.lt_succ_self _)), ⟨⟨_, he⟩, hit⟩, fun b hb => ?_, q⟩
 have hbl : s1.heap.objs.size <= b := by
  rcases List.mem_cons.mp hb with z | hb
  ·rw [z]; exact Nat.le_succ _
  ·rw [show b = s1.heap.objs.size by simpa using hb]; exact Nat.le_refl _
 exact I1.fpOk hbl (I1.hok.fresh hbl)
def Itz (K : PySem.W.Frag) (a b : Addr) : It :=
 ⟨fun i H => ∃ xs ys x y, SqL K H a xs /\ SqL K H b ys /\ xs[i]? = some x /\ ys[i]? = some y,
  fun i H v H' => ∃ t x y, v = .ref t /\ H t = none /\ H' = upd H t (.tup [x, y]) /\ (∀ xs, SqL K H a xs -> xs[i]? = some x) /\ ∀ ys, SqL K H b ys -> ys[i]? = some y,
  fun i H => ∃ xs ys, SqL K H a xs /\ SqL K H b ys /\ (xs.length <= i \/ ys.length <= i)⟩
theorem ap_of {i1 i2 TI TO z l1 l2 : Nat} (h1 : i1 < i2) (h2 : i2 < TI) (h3 : TI < TO) (h4 : TO < z) (ha : l1 < i1) (hb : l2 < i1) : ZipApart z TI TO i1 i2 l1 l2 := by
 refine ⟨?_, ?_, ?_, ?_, ?_, ?_, ?_, ?_, ?_, ?_, ?_, ?_, ?_, ?_, ?_, ?_, ?_, ?_⟩ <;> first | exact Nat.ne_of_lt (by omega) | exact Nat.ne_of_gt (by omega)
theorem turn_zip {P : Program} {w : World} {K : PySem.W.Frag} {es : List Expr} {k : Nat} {pos : Pos} (a b z TI TO i1 i2 : Addr) (D : ZipApart z TI TO i1 i2 a b) :
  Turn P w K (.Tuple es k pos) (Itz K a b) [z, TI, TO, i1, i2] z (fun i h => IsZip h z TI TO .none /\ IsPair h TI (.ref i1) (.ref i2) /\ (∃ x y, IsPair h TO x y) /\ h.IsListIter i1 a i /\ h.IsListIter i2 b i) where
 mem := by simp
 obj := fun i h st c hb => by
  obtain ⟨hz, hTI, ⟨x, y, hTO⟩, ⟨o1, e1, c1, d1⟩, o2, e2, c2, d2⟩ := st
  simp only [List.mem_cons, List.not_mem_nil, or_false] at hb
  rcases hb with rfl | rfl | rfl | rfl | rfl
  ·exact ⟨_, hz, fun v q => by
    have q' : Data.fields _ = Data.cell v := q
    cases q'⟩
  ·exact ⟨_, hTI, fun v q => by
    have q' : Data.seq _ _ = Data.cell v := q
    cases q'⟩
  ·exact ⟨_, hTO, fun v q => by
    have q' : Data.seq _ _ = Data.cell v := q
    cases q'⟩
  ·exact ⟨_, e1, fun v q => by rw [d1] at q; cases q⟩
  ·exact ⟨_, e2, fun v q => by rw [d2] at q; cases q⟩
 keep := fun i h h' st k => ⟨k z (by simp) _ st.1, k TI (by simp) _ st.2.1, let ⟨x, y, q⟩ := st.2.2.1; ⟨x, y, k TO (by simp) _ q⟩, st.2.2.2.1.at fun o q => k i1 (by simp) o q, st.2.2.2.2.at fun o q => k i2 (by simp) o q⟩
 item := by
  intro X hP hw hK hc i pins s σ H E I hf st hg
  subst hP hw hK
  obtain ⟨xs, ys, x, y, hq1, hq2, hx, hy⟩ := hg
  obtain ⟨its1, rv1, p1, hz1⟩ := I.list hq1
  obtain ⟨its2, rv2, p2, hz2⟩ := I.list hq2
  obtain ⟨u1, hu1, ru1⟩ := rv1.get hx
  obtain ⟨u2, hu2, ru2⟩ := rv2.get hy
  obtain ⟨hz, hTI, ⟨x0, y0, hTO⟩, hi1, hi2⟩ := st
  refine wpAny_pyNext_zip_item D hz hTI hTO hi1 hi2 p1.isList p2.isList (x := u1) (y := u2) (by simpa using hu1) (by simpa using hu2) fun h1 gz gTO g1 g2 gT gsz gk => ⟨_, rfl, ?_⟩
  have lz : z < s.heap.objs.size := Heap.lt_size hz
  have lT : ∀ c ∈ [z, TI, TO, i1, i2], c < s.heap.objs.size := fun c hb => by
   simp only [List.mem_cons, List.not_mem_nil, or_false] at hb
   rcases hb with rfl | rfl | rfl | rfl | rfl
   ·exact lz
   ·exact Heap.lt_size hTI
   ·exact Heap.lt_size hTO
   ·obtain ⟨_, q, _⟩ := hi1; exact Heap.lt_size q
   ·obtain ⟨_, q, _⟩ := hi2; exact Heap.lt_size q
  refine wpAny_letOwnedTupleGo_zip gz fun h2 gz2 hs2 => ?_
  refine ⟨.ref s.heap.objs.size, upd H s.heap.objs.size (.tup [x, y]), ?_, rfl, ⟨_, x, y, rfl, I.hok.fresh (Nat.le_refl _), rfl, fun vs hv => by rw [I.list_inj hv hq1]; exact hx, fun vs hv => by rw [I.list_inj hv hq2]; exact hy⟩,
   ⟨gz2, hs2.extBut _ _ D.TIz (gk _ _ D.TIz D.TITO D.TIi1 D.TIi2 hTI), ⟨_, _, hs2.extBut _ _ D.TOz gTO⟩, g1.at fun o q => hs2.extBut _ _ D.i1z q, g2.at fun o q => hs2.extBut _ _ D.i2z q⟩, fun c hb => ?_⟩
  ·refine I.turnedLaid (ch := [z, TI, TO, i1, i2]) hf (fun c ob hb q => hs2.extBut _ _ (fun e => hb (by simp [e])) (gk c ob (fun e => hb (by simp [e])) (fun e => hb (by simp [e])) (fun e => hb (by simp [e])) (fun e => hb (by simp [e])) q)) (Nat.le_refl _) ?_
   exact tup_new (us := [u1, u2]) (.cons ru1 (.cons ru2 .nil)) (by show 2 <= sizeLine; decide) (hs2.extBut _ _ (Nat.ne_of_gt lz) gT)
  ·rw [upd_ne (Nat.ne_of_lt (lT c hb))]
   exact (hf c hb).1
 done := by
  intro X hP hw hK hc i pins s σ H E I hf st hg
  subst hP hw hK
  obtain ⟨xs, ys, hq1, hq2, hx⟩ := hg
  obtain ⟨its1, rv1, p1, hz1⟩ := I.list hq1
  obtain ⟨its2, rv2, p2, hz2⟩ := I.list hq2
  obtain ⟨hz, hTI, ⟨x0, y0, hTO⟩, hi1, hi2⟩ := st
  have hl1 := rv1.length
  have hl2 := rv2.length
  refine wpAny_pyNext_zip_end (I.ok.hd hc) D hz hTI hTO hi1 hi2 p1.isList p2.isList ?_ fun h1 eb => ⟨rfl, I.turnedAll (t' := s.toks) (ch := [z, TI, TO, i1, i2]) hf fun c ob hb q => eb c ob (fun e => hb (by simp [e])) (fun e => hb (by simp [e])) (fun e => hb (by simp [e])) (fun e => hb (by simp [e])) q⟩
  rcases hx with hx | hx
  ·exact .inl (by simp; omega)
  ·exact .inr (by simp; omega)
 self := fun _ _ _ _ _ st h => wpAny_pyIter_zip st.1 h
def iZip (K : PySem.W.Frag) (ta : TA) : TI := fun σ H R => ta σ H fun vs H1 => ∃ a b, vs = [.ref a, .ref b] /\ (∃ xs, SqL K H1 a xs) /\ (∃ ys, SqL K H1 b ys) /\ R (Itz K a b) H1
theorem pi_zip {X : Cx} {es : List Expr} {k : Nat} {tpos : Pos} {l m : Expr} {ta : TA} {p pos : Pos} (hg : Gl X "zip") (hm : X.mg "zip" = none) (ha : PA X [l, m] ta) (hs : starEach [l, m] X.env = [(false, eval l X.env), (false, eval m X.env)] := by rfl) (hs2 : starEach [m] X.env = [(false, eval m X.env)] := by rfl) :
  PI X (.Tuple es k tpos) (.Call (.Name "zip" p) [l, m] [] pos) (iZip X.K ta) := by
 intro pins s σ H R I h
 refine Call_ (ld_blt I hg hm boot_zip' (PyProof.Rows.callWith_type1 (thn (ha pos pins s σ H _ I h) fun us s1 ⟨vs, H1, I1, r1, q1⟩ => ?_) (by rw [hs, hs2]) (by rw [hs2]; rfl)))
 obtain ⟨a, b, e, ⟨xs, hq1⟩, ⟨ys, hq2⟩, q⟩ := q1
 subst e
 obtain ⟨u, w', rfl, ru, rw'⟩ := vals2 r1
 cases ru
 cases rw'
 obtain ⟨its1, rv1, p1, hz1⟩ := I1.list hq1
 obtain ⟨its2, rv2, p2, hz2⟩ := I1.list hq2
 have la : a < s1.heap.objs.size := by obtain ⟨_, o, _⟩ := p1.isList; exact Heap.lt_size o
 have lb : b < s1.heap.objs.size := by obtain ⟨_, o, _⟩ := p2.isList; exact Heap.lt_size o
 refine call_zip_2 p1.isList p2.isList fun h1 gz gTI gTO g1 g2 gsz hk => ?_
 have I2 : Inv X pins σ H1 { s1 with heap := h1 } := I1.kept (t' := s1.toks) hk
 have D : ZipApart (s1.heap.objs.size + 4) (s1.heap.objs.size + 2) (s1.heap.objs.size + 3) s1.heap.objs.size (s1.heap.objs.size + 1) a b := ap_of (i1 := s1.heap.objs.size) (Nat.lt_succ_self _) (Nat.lt_succ_self _) (Nat.lt_succ_self _) (Nat.lt_succ_self _) la lb
 refine wpAny_pyIter_zip gz ⟨s1.heap.objs.size + 4, [s1.heap.objs.size + 4, s1.heap.objs.size + 2, s1.heap.objs.size + 3, s1.heap.objs.size, s1.heap.objs.size + 1], _, _, H1, rfl, I2, turn_zip a b _ _ _ _ _ D, ⟨gz, gTI, ⟨_, _, gTO⟩, g1, g2⟩, fun c hb => ?_, q⟩
 have hbl : s1.heap.objs.size <= c := by
  simp only [List.mem_cons, List.not_mem_nil, or_false] at hb
  rcases hb with rfl | rfl | rfl | rfl | rfl <;> first | exact Nat.le_refl _ | exact Nat.le_add_right _ _
 exact I1.fpOk hbl (I1.hok.fresh hbl)
theorem for_enum {K : PySem.W.Frag} {a : Addr} {xs : List V} {g : TG} {tb : TS} {D : Ends} {σ : St} {H : Hp} (Pv : Nat -> St -> Hp -> Prop) (h0 : Pv 0 σ H) (hl : ∀ i σ H, i <= xs.length -> Pv i σ H -> SqL K H a xs)
  (hs : ∀ i x t σ H, xs[i]? = some x -> Pv i σ H -> H t = none -> g (.ref t) σ (upd H t (.tup [.int i, x])) fun σ2 H2 => tb { D with nx := Pv (i + 1), ct := Pv (i + 1), bk := D.nx } σ2 H2) (hd : ∀ σ H, Pv xs.length σ H -> D.nx σ H) :
  ∃ W : Nat -> Nat -> St -> Hp -> Prop, (∃ m, W 0 m σ H) /\ ∀ i m σ H, W i m σ H ->
   ((Ite K a).stop i H /\ D.nx σ H) \/ ((Ite K a).go i H /\ ∃ N : St -> Hp -> Prop, (∀ σ' H', N σ' H' -> ∃ m', m' < m /\ W (i + 1) m' σ' H') /\ ∀ x H', (Ite K a).yld i H x H' -> g x σ H' fun σ2 H2 => tb { D with nx := N, ct := N, bk := D.nx } σ2 H2) := by
 refine ⟨fun i m σ H => m = xs.length - i /\ i <= xs.length /\ Pv i σ H, ⟨xs.length, by simp, Nat.zero_le _, h0⟩, ?_⟩
 rintro i m σ H ⟨rfl, hi, p⟩
 have q := hl i σ H hi p
 by_cases hlt : i < xs.length
 ·refine .inr ⟨⟨xs, xs[i], q, by simp [hlt]⟩, Pv (i + 1), fun σ' H' p' => ⟨xs.length - (i + 1), by omega, rfl, hlt, p'⟩, fun x H' y => ?_⟩
  obtain ⟨t, z, rfl, hn, rfl, y⟩ := y
  exact hs i z t σ H (y xs q) p hn
 ·have e : i = xs.length := by omega
  subst e
  exact .inl ⟨⟨xs, q, Nat.le_refl _⟩, hd σ H p⟩
theorem turns_zip {K : PySem.W.Frag} {a b p : Addr} {xs ys : List V} {g : TG} {tst : TT} {te : TE} {Q : Hp -> Prop} {σ : St} {H : Hp} (Pv : Nat -> St -> Hp -> Prop) (h0 : Pv 0 σ H) (hl : ∀ i σ H, Pv i σ H -> SqL K H a xs /\ SqL K H b ys)
  (hs : ∀ i x y t σ H, xs[i]? = some x -> ys[i]? = some y -> Pv i σ H -> H t = none -> g (.ref t) σ (upd H t (.tup [x, y])) fun σ2 H2 => tst σ2 H2 fun c H3 => if c = true then te σ2 H3 fun y H4 => ∃ zs, H4 p = some (.lst zs) /\ zs.length < sizeLine /\ Pv (i + 1) σ2 (upd H4 p (.lst (zs ++ [y]))) else Pv (i + 1) σ2 H3)
  (hd : ∀ σ H, Pv (min xs.length ys.length) σ H -> Q H) : Turns (Itz K a b) g tst te p Q σ H := by
 refine ⟨fun i m σ H => m = min xs.length ys.length - i /\ i <= min xs.length ys.length /\ Pv i σ H, ⟨min xs.length ys.length, by simp, Nat.zero_le _, h0⟩, ?_⟩
 rintro i m σ H ⟨rfl, hi, p⟩
 obtain ⟨q1, q2⟩ := hl i σ H p
 by_cases hlt : i < min xs.length ys.length
 ·have l1 : i < xs.length := by omega
  have l2 : i < ys.length := by omega
  refine .inr ⟨⟨xs, ys, xs[i], ys[i], q1, q2, by simp [l1], by simp [l2]⟩, Pv (i + 1), fun σ' H' p' => ⟨min xs.length ys.length - (i + 1), by omega, rfl, hlt, p'⟩, fun x H' y => ?_⟩
  obtain ⟨t, z, z', rfl, hn, rfl, y1, y2⟩ := y
  exact hs i z z' t σ H (y1 xs q1) (y2 ys q2) p hn
 ·have e : i = min xs.length ys.length := by omega
  subst e
  exact .inl ⟨⟨xs, ys, q1, q2, by omega⟩, hd σ H p⟩
end L2
namespace L2
open PySem PySem.Spec PyProof.Rows
section
variable {X : Cx}
theorem call_sortedI : CallR X (.builtin "sorted") (fun xs H Q => ∃ (p : Addr) (ns : List Int), xs = [.ref p] /\ SqL X.K H p (ns.map V.int) /\ ns.length < 64 /\
  ∀ (l : Addr) (ns' : List Int), H l = none -> ns'.Perm ns -> ns'.Pairwise (· <= ·) -> Q (.ref l) (upd H l (.lst (ns'.map V.int)))) := by
 intro pins s σ H xs us Q I r h
 obtain ⟨p, ns, rfl, hq, hz, q⟩ := h
 obtain ⟨u, rfl, ru⟩ := vals1 r
 cases ru
 obtain ⟨its, rv, pl, _⟩ := I.list hq
 have hI := intsAre_of rv
 have hl : its.length = ns.length := by rw [<- rv.length, List.length_map]
 refine sorted_ints pl.isList hI (by omega) fun out ns' a1 a2 a3 => ?_
 obtain ⟨e, he⟩ := sortedAll_at s.heap its out
 have hlen : ns'.length = ns.length := a2.length_eq
 refine ⟨.ref (s.heap.objs.size + 1), _, I.laid (t' := s.toks) (a := s.heap.objs.size + 1) (o := .lst (ns'.map V.int)) (fun b ob z => sortedAll_old z) (Nat.le_succ _) ?_, rfl, q _ ns' (I.hok.fresh (Nat.le_succ _)) a2 a3⟩
 refine ⟨by rw [List.length_map, hlen, sizeLine_eq]; omega, out.toList, e, vals_ints a1, ?_⟩
 exact he
theorem bools_at {bs : List Bool} {us : List Value} (r : Vals (bs.map V.bl) us) {i : Nat} {v : Value} (e : us[i]? = some v) : ∃ b, bs[i]? = some b /\ v = .bool b := by
 have hi : i < us.length := (List.getElem?_eq_some_iff.mp e).1
 have hb : i < bs.length := by
  have := r.length
  rw [List.length_map] at this
  omega
 obtain ⟨u, hu, ru⟩ := r.get (i := i) (x := .bl bs[i]) (by rw [List.getElem?_map, List.getElem?_eq_getElem hb]; rfl)
 rw [e] at hu
 cases hu
 exact ⟨bs[i], List.getElem?_eq_getElem hb, ru⟩
theorem range_any (bs : List Bool) : (List.range bs.length).any (fun i => bs.getD i false) = bs.any id := by
 rw [Bool.eq_iff_iff]
 simp only [List.any_eq_true, List.mem_range, id_eq]
 constructor
 ·rintro ⟨i, hi, e⟩
  exact ⟨bs[i], List.getElem_mem hi, by simpa [List.getD_eq_getElem?_getD, hi] using e⟩
 ·rintro ⟨b, hb, e⟩
  obtain ⟨i, hi, q⟩ := List.mem_iff_getElem.mp hb
  exact ⟨i, hi, by simp [List.getD_eq_getElem?_getD, hi, q, e]⟩
theorem range_all (bs : List Bool) : (List.range bs.length).all (fun i => bs.getD i false) = bs.all id := by
 rw [Bool.eq_iff_iff]
 simp only [List.all_eq_true, List.mem_range, id_eq]
 constructor
 ·intro h b hb
  obtain ⟨i, hi, q⟩ := List.mem_iff_getElem.mp hb
  have := h i hi
  simpa [List.getD_eq_getElem?_getD, hi, q] using this
 ·intro h i hi
  have := h bs[i] (List.getElem_mem hi)
  simpa [List.getD_eq_getElem?_getD, hi] using this
theorem handled_in1 {A : Around} (h : A.handled = none) : A.in1.handled = none := h
theorem walk_bools {pins : List (Addr × Obj)} {σ : St} {H : Hp} {s : Shared} {p : Addr} {bs : List Bool} {E : Value -> Shared -> Prop} {R : Nat -> (Nat -> Bool) -> Value -> Shared -> Prop} (hc : X.calm = true) (I : Inv X pins σ H s) (hq : SqL X.K H p (bs.map V.bl))
  (fin : ∀ (It : Addr) (fp wr : List Addr) (P : Nat -> Value -> Prop) (St : Nat -> Heap -> Prop) (s2 : Shared), Walks X.prog X.w X.A.in1 It fp wr bs.length P St -> St 0 s2.heap -> TruthOf X.prog X.w X.A.in1 P (fun i => bs.getD i false) ->
   (∀ h' tk, (∀ b o, b ∉ wr -> s2.heap.get? b = some o -> h'.get? b = some o) -> Inv X pins σ H { s2 with heap := h', toks := tk }) -> R bs.length (fun i => bs.getD i false) (.ref It) s2) :
  wpAny (model X.prog X.w) X.A.in1 (pyIter (.ref p)) (fun it s2 => R bs.length (fun i => bs.getD i false) it s2) E s := by
 obtain ⟨its, rv, pl, hz⟩ := I.list hq
 refine wpAny_pyIter_list pl.isList ?_
 have lp : p < s.heap.objs.size := by obtain ⟨_, o, _⟩ := pl.isList; exact Heap.lt_size o
 have hlen : its.toArray.size = bs.length := by rw [List.size_toArray, <- rv.length, List.length_map]
 have W := Walks.list (prog := X.prog) (w := X.w) (A := X.A.in1) (handled_in1 (I.ok.hd hc)) s.heap.objs.size p (Nat.ne_of_lt lp) its.toArray
 rw [hlen] at W
 refine fin _ _ _ _ _ _ W ⟨⟨_, Heap.get?_push_size _ rfl, rfl, rfl⟩, pl.isList.push _⟩ (fun i v s' Q' E' hP hQ => ?_) (fun h' tk hk => ?_)
 ·obtain ⟨b, hb, rfl⟩ := bools_at (i := i) (v := v) rv (by simpa using hP)
  refine wpAny_truthy_bool ?_
  have : bs.getD i false = b := by rw [List.getD_eq_getElem?_getD, hb]; rfl
  simpa only [this] using hQ
 ·refine I.kept (t' := tk) fun b o e => hk b o (fun z => ?_) (Heap.get?_push_of_some _ e)
  have : b = s.heap.objs.size := by simpa using z
  exact absurd (Heap.lt_size e) (by rw [this]; exact Nat.lt_irrefl _)
theorem call_anyB (hc : X.calm = true) : CallR X (.builtin "any") (fun xs H Q => ∃ (p : Addr) (bs : List Bool), xs = [.ref p] /\ SqL X.K H p (bs.map V.bl) /\ Q (.bl (bs.any id)) H) := by
 intro pins s σ H xs us Q I r h
 obtain ⟨p, bs, rfl, hq, q⟩ := h
 obtain ⟨u, rfl, ru⟩ := vals1 r
 cases ru
 refine call_any_walk (walk_bools hc I hq (R := fun n tr it s2 => ∃ It fp wr n P St tr, it = .ref It /\ Walks X.prog X.w X.A.in1 It fp wr n P St /\ St 0 s2.heap /\ TruthOf X.prog X.w X.A.in1 P tr /\
  ∀ h' tk, (∀ b o, b ∉ wr -> s2.heap.get? b = some o -> h'.get? b = some o) -> EP X pins σ Q (.bool ((List.range n).any tr)) { s2 with heap := h', toks := tk }) ?_)
 intro It fp wr P St s2 W st tr k
 refine ⟨It, fp, wr, _, P, St, _, rfl, W, st, tr, fun h' tk hk => ?_⟩
 rw [range_any]
 exact ⟨.bl (bs.any id), H, k h' tk hk, rfl, q⟩
theorem call_allB (hc : X.calm = true) : CallR X (.builtin "all") (fun xs H Q => ∃ (p : Addr) (bs : List Bool), xs = [.ref p] /\ SqL X.K H p (bs.map V.bl) /\ Q (.bl (bs.all id)) H) := by
 intro pins s σ H xs us Q I r h
 obtain ⟨p, bs, rfl, hq, q⟩ := h
 obtain ⟨u, rfl, ru⟩ := vals1 r
 cases ru
 refine call_all_walk (walk_bools hc I hq (R := fun n tr it s2 => ∃ It fp wr n P St tr, it = .ref It /\ Walks X.prog X.w X.A.in1 It fp wr n P St /\ St 0 s2.heap /\ TruthOf X.prog X.w X.A.in1 P tr /\
  ∀ h' tk, (∀ b o, b ∉ wr -> s2.heap.get? b = some o -> h'.get? b = some o) -> EP X pins σ Q (.bool ((List.range n).all tr)) { s2 with heap := h', toks := tk }) ?_)
 intro It fp wr P St s2 W st tr k
 refine ⟨It, fp, wr, _, P, St, _, rfl, W, st, tr, fun h' tk hk => ?_⟩
 rw [range_all]
 exact ⟨.bl (bs.all id), H, k h' tk hk, rfl, q⟩
theorem call_sumI (hc : X.calm = true) : CallR X (.builtin "sum") (fun xs H Q => ∃ (p : Addr) (ns : List Int), xs = [.ref p] /\ SqL X.K H p (ns.map V.int) /\ Q (.int ns.sum) H) := by
 intro pins s σ H xs us Q I r h
 obtain ⟨p, ns, rfl, hq, q⟩ := h
 obtain ⟨u, rfl, ru⟩ := vals1 r
 cases ru
 obtain ⟨its, rv, pl, _⟩ := I.list hq
 have hi := intsAre_of rv
 obtain ⟨ys, hys⟩ := hi.allInts.items
 refine sum_intListG (I.ok.hd hc) (xs := ys) (by rw [<- hys]; exact pl.isList) fun h' tk t' hk => ?_
 refine ⟨.int ns.sum, H, I.kept (t' := tk) hk, ?_, q⟩
 have e1 : (numsOf its.toArray.toList).sum = ns.sum := by rw [show its.toArray.toList = its from rfl, hi.numsOf]
 rw [hys, nums_intItems] at e1
 rw [preSum_eq, List.take_of_length_le (by simp), <- e1]
 exact ⟨t', rfl⟩
theorem call_isinst : CallR X (.builtin "isinstance") (fun xs H Q => ∃ x c cv t b, xs = [x, c] /\ RelV c cv /\ (∀ u, RelV c u -> u = cv) /\ TyOf X.K H x t /\ kitOne X.K t cv = some b /\ Q (.bl b) H) := by
 intro pins s σ H xs us Q I r h
 obtain ⟨x, c, cv, t, b, rfl, rc, inj, ty, e, q⟩ := h
 obtain ⟨u, w', rfl, ru, rw'⟩ := vals2 r
 cases inj w' rw'
 exact isinst_ok I ru ty e fun tk => ⟨.bl b, H, I.tok tk, rfl, q⟩
theorem ty_inj {n : String} : ∀ u, RelV (.ty n) u -> u = .type n := fun _ h => h
theorem ref_inj {a : Addr} : ∀ u, RelV (.ref a) u -> u = .ref a := fun _ h => h
def rCatT' (K : PySem.W.Frag) : R2 := fun x y H Q => ∃ a b xs ys, x = .ref a /\ y = .ref b /\ SqT K H a xs /\ SqT K H b ys /\ xs.length + ys.length <= sizeLine /\
 (xs = [] -> Q (.ref b) H) /\ (xs ≠ [] -> ys = [] -> Q (.ref a) H) /\ (xs ≠ [] -> ys ≠ [] -> ∀ p, H p = none -> Q (.ref p) (upd H p (.tup (xs ++ ys))))
theorem op_catT' : OpR X (binaryOp .Add) (rCatT' X.K) := by
 intro pins s σ H x y v u Q I rx ry h
 obtain ⟨a, b, xs, ys, rfl, rfl, ha, hb, hz, q0, q1, q2⟩ := h
 by_cases hx : xs = []
 ·cases rx
  cases ry
  obtain ⟨its, r1, p1, _⟩ := I.tuple ha
  obtain ⟨its2, r2, p2, _⟩ := I.tuple hb
  obtain ⟨m, F⟩ := I.fr
  have hv : its = [] := r1.nil_iff.mpr hx
  refine add_tuples (news := []) F (fun q hq => by cases hq) p1 p2 (fun _ => ⟨.ref b, H, I, rfl, q0 hx⟩) (fun z => absurd hv z) (fun z => absurd hv z) (by rw [<- r1.length, <- r2.length]; exact hz)
 ·exact op_catT pins s σ H _ _ v u Q I rx ry ⟨a, b, xs, ys, rfl, rfl, ha, hb, hx, hz, q1 hx, q2 hx⟩
def rJoin (K : PySem.W.Frag) : V -> List V -> Hp -> VK -> Prop := fun x vs H Q => ∃ (z : Str) (p : Addr) (ys : List Str), x = .str z /\ vs = [.ref p] /\ SqL K H p (ys.map V.str) /\ (ys.map (·.length)).sum + ys.length * z.length <= 16777216 /\ Q (.str (Txt.join z ys)) H
theorem strsAre_of : ∀ {ys : List Str} {us : List Value}, Vals (ys.map V.str) us -> StrsAre us ys
 | [], _, .nil => .nil
 | _ :: _, _, .cons r t => by
  obtain ⟨k, rfl⟩ := r
  exact .cons _ _ (strsAre_of t)
theorem mt_join : MtM X "str.join" (rJoin X.K) := by
 intro pins s σ H x xs v us Q I rx r h
 obtain ⟨z, p, ys, rfl, rfl, hq, hz, q⟩ := h
 obtain ⟨t, rfl⟩ := rx
 obtain ⟨u, rfl, ru⟩ := Vals.one r
 cases ru
 obtain ⟨its, rv, pl, _⟩ := I.list hq
 exact join_list pl.isList (strsAre_of rv) hz fun t' k => ⟨.str (Txt.join z ys), H, I.tok k, ⟨t', rfl⟩, q⟩
end
open PySem.W (Dat) in
mutual
inductive DV (K : PySem.W.Frag) (H : Hp) : V -> PySem.W.Dat -> Prop
 | non : DV K H .non .none
 | int (i : Int) : DV K H (.int i) (.int i)
 | str (x : Str) : DV K H (.str x) (.str x)
 | lst {a : Addr} {xs : List V} {ds : List PySem.W.Dat} : SqL K H a xs -> DVs K H xs ds -> DV K H (.ref a) (.list ds)
 | tup {a : Addr} {xs : List V} {ds : List PySem.W.Dat} : SqT K H a xs -> DVs K H xs ds -> DV K H (.ref a) (.tuple ds)
inductive DVs (K : PySem.W.Frag) (H : Hp) : List V -> List PySem.W.Dat -> Prop
 | nil : DVs K H [] []
 | cons {x : V} {d : PySem.W.Dat} {xs : List V} {ds : List PySem.W.Dat} : DV K H x d -> DVs K H xs ds -> DVs K H (x :: xs) (d :: ds)
end
section
variable {X : Cx} {pins : List (Addr × Obj)} {σ : St} {H : Hp} {s : Shared}
mutual
theorem DV.reads (I : Inv X pins σ H s) : ∀ {x : V} {d : PySem.W.Dat} {u : Value}, DV X.K H x d -> RelV x u -> ∃ as, Reads s.heap u (kqdP d) as
 | _, _, _, .non, r => by cases r; exact ⟨_, Reads.none⟩
 | _, _, _, .int i, r => by obtain ⟨t, rfl⟩ := r; exact ⟨_, Reads.int i t⟩
 | _, _, _, .str x, r => by obtain ⟨t, rfl⟩ := r; exact ⟨_, Reads.str x t⟩
 | _, _, _, .lst hq hd, r => by
  cases r
  obtain ⟨its, rv, pl, _⟩ := I.list hq
  obtain ⟨as, q⟩ := DVs.reads I hd rv
  obtain ⟨o, ho, hc, n, hd'⟩ := pl.isList
  rw [kqdP]
  exact ⟨_, reads_list_at ho hc hd' (by simpa using q)⟩
 | _, _, _, .tup hq hd, r => by
  cases r
  obtain ⟨its, rv, pl, _⟩ := I.tuple hq
  obtain ⟨as, q⟩ := DVs.reads I hd rv
  obtain ⟨o, ho, hc, n, hd'⟩ := pl
  rw [kqdP]
  exact ⟨_, reads_tuple_at ho hc hd' (by simpa using q)⟩
theorem DVs.reads (I : Inv X pins σ H s) : ∀ {xs : List V} {ds : List PySem.W.Dat} {us : List Value}, DVs X.K H xs ds -> Vals xs us -> ∃ as, ReadsAll s.heap us (PySem.W.kqdPs ds) as
 | _, _, _, .nil, r => by cases r; exact ⟨_, ReadsAll.nil⟩
 | _, _, _, .cons hd t, r => by
  cases r with
  | cons r1 r2 =>
   obtain ⟨as, q⟩ := DV.reads I hd r1
   obtain ⟨bs, p⟩ := DVs.reads I t r2
   rw [PySem.W.kqdPs]
   exact ⟨_, ReadsAll.cons q p⟩
end
open Classical in
def rEqD (K : PySem.W.Frag) : R2 := fun x y H Q => ∃ d e, DV K H x d /\ DV K H y e /\ kqdOk 9 d = true /\ kqdOk 9 e = true /\ Q (.bl (decide (d = e))) H
open Classical in
def rNeD (K : PySem.W.Frag) : R2 := fun x y H Q => ∃ d e, DV K H x d /\ DV K H y e /\ kqdOk 9 d = true /\ kqdOk 9 e = true /\ Q (.bl (!decide (d = e))) H
open Classical in
theorem eqv_dec {d e : PySem.W.Dat} (h1 : kqdOk 9 d = true) (h2 : kqdOk 9 e = true) : PyData.eqv (kqdP d) (kqdP e) = decide (d = e) := by
 have q := PySem.W.kqd_eqv 9 d e 9 h1 h2
 by_cases hq : d = e
 ·rw [decide_eq_true hq]; exact q.mpr hq
 ·rw [decide_eq_false hq]; exact Bool.eq_false_iff.mpr fun z => hq (q.mp z)
theorem shaped_of {d : PySem.W.Dat} (h : kqdOk 9 d = true) : SeqAt.shaped (kqdP d) = true := by
 have l := PySem.W.kqd_lay 9 d h
 unfold SeqAt.shaped
 rw [l.1, Bool.true_and]
 exact decide_eq_true (Nat.le_trans l.2 (by decide))
theorem op_eqD (hu : X.A.units + 64 < cLine) : OpR X (compareOp .Eq) (rEqD X.K) := by
 intro pins s σ H x y v u Q I rx ry h
 obtain ⟨d, e, hd, he, k1, k2, q⟩ := h
 obtain ⟨as, ra⟩ := hd.reads I rx
 obtain ⟨bs, rb⟩ := he.reads I ry
 refine eq_dataH ra rb (shaped_of k1) (shaped_of k2) hu ?_
 rw [eqv_dec k1 k2]
 exact ⟨.bl _, H, I, rfl, q⟩
theorem op_neD (hu : X.A.units + 64 < cLine) : OpR X (compareOp .NotEq) (rNeD X.K) := by
 intro pins s σ H x y v u Q I rx ry h
 obtain ⟨d, e, hd, he, k1, k2, q⟩ := h
 obtain ⟨as, ra⟩ := hd.reads I rx
 obtain ⟨bs, rb⟩ := he.reads I ry
 refine ne_dataH ra rb (shaped_of k1) (shaped_of k2) hu ?_
 rw [eqv_dec k1 k2]
 exact ⟨.bl _, H, I, rfl, q⟩
end
end L2
namespace L2
open PySem PySem.Spec PyProof.Rows
section
variable {X : Cx}
def rAddU (K : PySem.W.Frag) : R2 := fun x y H Q => rI0 (fun i j => .int (i + j)) x y H Q \/ rCat x y H Q \/ rCatT' K x y H Q \/ (∃ i j, x = .str i /\ y = .str j /\ i.length + j.length <= sizeLine /\ Q (.str (i ++ j)) H)
theorem op_addU : OpR X (binaryOp .Add) (rAddU X.K) := OpR.or op_add (OpR.or op_cat (OpR.or op_catT' op_add_str))
def rMulU : R2 := fun x y H Q => rI CMul (fun i j => .int (i * j)) x y H Q \/ rRep x y H Q
theorem op_mulU : OpR X (binaryOp .Mult) rMulU := OpR.or op_mul op_rep
def rEqU (K : PySem.W.Frag) : R2 := fun x y H Q => rEq x y H Q \/ rEqD K x y H Q
theorem op_eqU (hu : X.A.units + 64 < cLine) : OpR X (compareOp .Eq) (rEqU X.K) := OpR.or op_eq (op_eqD hu)
def rNeU (K : PySem.W.Frag) : R2 := fun x y H Q => rNe x y H Q \/ rNeD K x y H Q
theorem op_neU (hu : X.A.units + 64 < cLine) : OpR X (compareOp .NotEq) (rNeU X.K) := OpR.or op_ne (op_neD hu)
def rIxLT (K : PySem.W.Frag) : R2 := fun x y H Q => rIxL K x y H Q \/ rIxT K x y H Q
theorem ix_LT : IxR X (rIxLT X.K) := IxR.or ix_list ix_tup
def rPopU : V -> List V -> Hp -> VK -> Prop := fun x vs H Q => rPop x vs H Q \/ rPopAt x vs H Q
theorem mt_popU : MtR X "list.pop" rPopU := MtR.or mt_pop mt_popAt
theorem RelV.bool_iff {x : V} {v : Value} {b : Bool} (r : RelV x v) : (v == Value.bool b) = decide (x = .bl b) := by
 cases x with
 | bl c => cases (show v = Value.bool c from r); cases b <;> cases c <;> rfl
 | non => cases r; rfl
 | int _ => obtain ⟨t, rfl⟩ := r; rfl
 | str _ => obtain ⟨t, rfl⟩ := r; rfl
 | byt _ => obtain ⟨t, rfl⟩ := r; rfl
 | flt _ => obtain ⟨t, rfl⟩ := r; rfl
 | ref _ => cases r; rfl
 | ty _ => cases r; rfl
theorem same_bool {x : V} {v : Value} {b : Bool} (r : RelV x v) : isSame v (.bool b) = pure (decide (x = .bl b)) := by
 rw [<- r.bool_iff (b := b)]
 cases x with
 | bl c => cases (show v = Value.bool c from r); rfl
 | non => cases r; rfl
 | int _ => obtain ⟨t, rfl⟩ := r; rfl
 | str _ => obtain ⟨t, rfl⟩ := r; rfl
 | byt _ => obtain ⟨t, rfl⟩ := r; rfl
 | flt _ => obtain ⟨t, rfl⟩ := r; rfl
 | ref _ => cases r; rfl
 | ty _ => cases r; rfl
theorem op_isC : OpR X (compareOp .Is) (fun x y H Q => ∃ b, y = .bl b /\ Q (.bl (decide (x = .bl b))) H) := by
 intro pins s σ H x y v u Q I rx ry h
 obtain ⟨b, rfl, q⟩ := h
 cases (show u = Value.bool b from ry)
 show wpAny _ _ (do return Value.bool (<- isSame v (.bool b))) _ _ _
 rw [same_bool rx]
 exact wpAny_pure ⟨.bl _, H, I, rfl, q⟩
theorem op_notC : OpR X (compareOp .IsNot) (fun x y H Q => ∃ b, y = .bl b /\ Q (.bl (!decide (x = .bl b))) H) := by
 intro pins s σ H x y v u Q I rx ry h
 obtain ⟨b, rfl, q⟩ := h
 cases (show u = Value.bool b from ry)
 show wpAny _ _ (do return Value.bool (!(<- isSame v (.bool b)))) _ _ _
 rw [same_bool rx]
 exact wpAny_pure ⟨.bl _, H, I, rfl, q⟩
end
structure Ctr (P : Program) (w : World) (K : PySem.W.Frag) (mg : Str -> Option Value) (base : Heap) (CX : CXT) (k : Nat) (x : Str) (ps : List Str) (sp : Sp) : Prop where
 ex : ∃ f fd, FnOk P w K mg base CX k f fd ps sp /\ mg x = some (.ref f) /\ keepIn K (.ref f) = true /\ Binds K fd ps []
structure CtrM (P : Program) (w : World) (K : PySem.W.Frag) (mg : Str -> Option Value) (base : Heap) (CX : CXT) (k : Nat) (C : Addr) (m : Str) (ps : List Str) (sp : Sp) : Prop where
 cl : Cls K C
 ex : ∃ f fd, FnOk P w K mg base CX k f fd ps sp /\ Meth K C m f /\ Binds K fd ps []
structure CtrC (P : Program) (w : World) (K : PySem.W.Frag) (mg : Str -> Option Value) (base : Heap) (CX : CXT) (k : Nat) (x : Str) (C : Addr) (ps : List Str) (sp : Sp) : Prop where
 at_ : mg x = some (.ref C)
 ex : ∃ f fd, FnOk P w K mg base CX k f fd ps sp /\ Mk K C f /\ Binds K fd ps []
section
variable {X : Cx} {CX : CXT} {k : Nat} {C : Addr} {ps : List Str} {sp : Sp} {E : XK} {x m : Str} {p pos apos : Pos} {e o : Expr} {es : List Expr} {ta : TE} {t : TA}
theorem pe_callCE (c : Ctr X.prog X.w X.K X.mg X.base CX k x ps sp) (hr : Room k X.A) (hg : Gl X x) (ha : PA X (e :: es) t) (hx : Passes CX X E) (hdb : (x == ("__debug__" : Str)) = false := by decide)
  (he : starEach (e :: es) X.env = (false, eval e X.env) :: starEach es X.env := by rfl) (hpl : (backTo pos (starEach es X.env)).any (·.1) = false := by rfl) : PE X (.Call (.Name x p) (e :: es) [] pos) (tCall sp [] E t) := by
 obtain ⟨f, fd, F, hm, hk, hb⟩ := c.ex
 exact pe_call F hr hg hm hk hb .nil hx ha hdb he hpl
theorem pe_callC (c : Ctr X.prog X.w X.K X.mg X.base CX0 k x ps sp) (hr : Room k X.A) (hg : Gl X x) (ha : PA X (e :: es) t) (hdb : (x == ("__debug__" : Str)) = false := by decide)
  (he : starEach (e :: es) X.env = (false, eval e X.env) :: starEach es X.env := by rfl) (hpl : (backTo pos (starEach es X.env)).any (·.1) = false := by rfl) : PE X (.Call (.Name x p) (e :: es) [] pos) (tCall sp [] E0 t) :=
 pe_callCE c hr hg ha pass0 hdb he hpl
theorem pe_methC {pl : Sem Bool} (he : PE X o ta) (c : CtrM X.prog X.w X.K X.mg X.base CX0 k C m ps sp) (hr : Room k X.A) (ha : PA X (e :: es) t)
  (hst : starEach (e :: es) X.env = (false, eval e X.env) :: starEach es X.env := by rfl) (hpl : (backTo pos (starEach es X.env)).any (·.1) = false := by rfl)
  (ht : eval (.Call (.Attribute o m apos) (e :: es) [] pos) X.env = (do
   let ov <- eval o X.env
   standAt apos.atName
   let (f, first) <- holding [ov] (getMethod ov m pl)
   callWith pos f first (backTo pos (starEach (e :: es) X.env)) (backToKw pos (keywordEach [] X.env))) := by rfl) :
  PE X (.Call (.Attribute o m apos) (e :: es) [] pos) (tMeth C m sp [] E0 ta t) := by
 obtain ⟨f, fd, F, hm, hb⟩ := c.ex
 exact pe_meth (pl := pl) he c.cl hm F hr hb .nil pass0 ha hst hpl ht
theorem pe_methC0 {pl : Sem Bool} (he : PE X o ta) (c : CtrM X.prog X.w X.K X.mg X.base CX0 k C m ps sp) (hr : Room k X.A)
  (ht : eval (.Call (.Attribute o m apos) [] [] pos) X.env = (do
   let ov <- eval o X.env
   standAt apos.atName
   let (f, first) <- holding [ov] (getMethod ov m pl)
   callWith pos f first (backTo pos (starEach [] X.env)) (backToKw pos (keywordEach [] X.env))) := by rfl) :
  PE X (.Call (.Attribute o m apos) [] [] pos) (tMeth C m sp [] E0 ta tNil) := by
 obtain ⟨f, fd, F, hm, hb⟩ := c.ex
 exact pe_meth0 (pl := pl) he c.cl hm F hr hb .nil pass0 ht
theorem pe_makeC (c : CtrC X.prog X.w X.K X.mg X.base CX0 k x C ps sp) (hr : Room (k + 1) X.A) (hg : Gl X x) (ha : PA X (e :: es) t) (hdb : (x == ("__debug__" : Str)) = false := by decide)
  (he : starEach (e :: es) X.env = (false, eval e X.env) :: starEach es X.env := by rfl) (hpl : (backTo pos (starEach es X.env)).any (·.1) = false := by rfl) :
  PE X (.Call (.Name x p) (e :: es) [] pos) (tMake C sp [] E0 t) := by
 obtain ⟨f, fd, F, hm, hb⟩ := c.ex
 exact pe_make hm F hr hg c.at_ hb .nil pass0 ha hdb he hpl
end
theorem pe_tyN {X : Cx} {x : Str} {n : String} {pos : Pos} (hg : Gl X x) (hm : X.mg x = none) (hv : bootBuiltins x = some (.type n)) (hn : x ≠ "__name__" := by decide) (hd : (x == ("__debug__" : Str)) = false := by decide) : PE X (.Name x pos) (tC (.ty n)) :=
 pe_bltn (v := .ty n) hg hm hv rfl hn hd
theorem pe_clsN {X : Cx} {x : Str} {C : Addr} {pos : Pos} (hg : Gl X x) (hm : X.mg x = some (.ref C)) (hd : (x == ("__debug__" : Str)) = false := by decide) : PE X (.Name x pos) (tC (.ref C)) := pe_glob (v := .ref C) hg hm rfl hd
theorem upd_get {H : Hp} {a b : Addr} {o u : HO} (h : H b = some u) (ha : H a = none) : upd H a o b = some u := by rw [upd_ne (ne_of_none h ha)]; exact h
theorem Same.upd {H : Hp} {a : Addr} {o : HO} (h : H a = none) : Same H (L2.upd H a o) := fun b u e => upd_get e h
end L2
namespace L2
open PySem PySem.Spec PyProof.Rows
section
variable {X : Cx} {K : PySem.W.Frag} {a b c e o l value : Expr} {es : List Expr} {ta tb te tl tv to : TE} {t : TA} {f name : Str} {pos pos' p apos cpos tpos : Pos} {T id : String} {r : V -> List V -> Hp -> VK -> Prop}
theorem op_addK (hK : X.K = K) : OpR X (binaryOp .Add) (rAddU K) := by subst hK; exact op_addU
theorem op_eqK (hK : X.K = K) (hu : X.A.units + 64 < cLine) : OpR X (compareOp .Eq) (rEqU K) := by subst hK; exact op_eqU hu
theorem op_neK (hK : X.K = K) (hu : X.A.units + 64 < cLine) : OpR X (compareOp .NotEq) (rNeU K) := by subst hK; exact op_neU hu
theorem op_notInK (hK : X.K = K) : OpR X (compareOp .NotIn) (rIn K true) := by subst hK; exact op_notIn_seq
theorem ix_K (hK : X.K = K) : IxR X (rIxLT K) := by subst hK; exact ix_LT
theorem sl_K (hK : X.K = K) : SlR X (rSlL K) := by subst hK; exact sl_list
theorem pe_fldK (hK : X.K = K) (he : PE X e ta) (hb : attributeBase e f X.env (eval e X.env) = eval e X.env) : PE X (.Attribute e f pos) (tFld K ta f) := by subst hK; exact pe_fld he hb
theorem ps_fldK (hK : X.K = K) (ha : PE X o ta) (hv : PE X value tv) (hs : swapsWith value (some (.Attribute o f pos')) pos.line X.env = pure false) : PS X (.Assign [.Attribute o f pos'] value pos) (sFld K ta tv f) := by subst hK; exact ps_fld ha hv hs
theorem ps_fldaugK {op : Operator} {rd : V -> V -> Hp -> VK -> Prop} (hK : X.K = K) (ha : PE X o ta) (hv : PE X value tv) (hop : InOp X op rd) : PS X (.AugAssign (.Attribute o f tpos) op value pos) (sFldAug K ta tv rd f) := by subst hK; exact ps_fldaug ha hv hop
theorem pi_listK {tg : Expr} (hK : X.K = K) (hl : PE X l tl) : PI X tg l (iList K tl) := by subst hK; exact pi_list hl
theorem pi_enumK {k : Nat} (hK : X.K = K) (hg : Gl X "enumerate") (hm : X.mg "enumerate" = none) (ha : PA X [l] t) (hs : starEach [l] X.env = [(false, eval l X.env)] := by rfl) : PI X (.Tuple es k tpos) (.Call (.Name "enumerate" p) [l] [] pos) (iEnum K t) := by subst hK; exact pi_enum hg hm ha hs
theorem pi_zipK {k : Nat} {m : Expr} (hK : X.K = K) (hg : Gl X "zip") (hm : X.mg "zip" = none) (ha : PA X [l, m] t) (hs : starEach [l, m] X.env = [(false, eval l X.env), (false, eval m X.env)] := by rfl) (hs2 : starEach [m] X.env = [(false, eval m X.env)] := by rfl) :
  PI X (.Tuple es k tpos) (.Call (.Name "zip" p) [l, m] [] pos) (iZip K t) := by subst hK; exact pi_zip hg hm ha hs hs2
theorem pg_tupK {k n : Nat} {ts : TGs} (hK : X.K = K) (hc : X.calm = true) (h : PGs X es ts) (hn : (assignEach es X.env).length = n := by rfl) (hst : (assignEach es X.env).findIdx? (·.1) = none := by rfl) : PG X (.Tuple es k pos) (gTup K n ts) := by
 subst hK; exact pg_tup hc h hn hst
theorem pe_bmK0 (hK : X.K = K) (pa : PlainAttrs T) (slot : Slot T name id) (hty : typeOf (.builtin id) = pure (.type "method_descriptor")) (hm : MtR X id r) (ho : PE X o to)
  (hbase : attributeBase o name X.env (eval o X.env) = eval o X.env := by rfl) (hline : (apos.endLine == cpos.line) = true := by rfl) : PE X (.Call (.Attribute o name apos) [] [] cpos) (tBM0 K T r to) := by subst hK; exact pe_bm0 pa slot hty hm ho hbase hline
theorem callK_len (hK : X.K = K) : CallR X (.builtin "len") (fun xs H Q => ∃ x n, xs = [x] /\ LenV K x H n /\ Q (.int n) H) := by subst hK; exact call_len
theorem callK_list (hK : X.K = K) : CallR X (.type "list") (fun xs H Q => ∃ p ys, xs = [.ref p] /\ (SqL K H p ys \/ SqT K H p ys) /\ ∀ l, H l = none -> Q (.ref l) (upd H l (.lst ys))) := by subst hK; exact call_list_of
theorem callK_sorted (hK : X.K = K) : CallR X (.builtin "sorted") (fun xs H Q => ∃ (p : Addr) (ns : List Int), xs = [.ref p] /\ SqL K H p (ns.map V.int) /\ ns.length < 64 /\
  ∀ (l : Addr) (ns' : List Int), H l = none -> ns'.Perm ns -> ns'.Pairwise (· <= ·) -> Q (.ref l) (upd H l (.lst (ns'.map V.int)))) := by subst hK; exact call_sortedI
theorem callK_any (hK : X.K = K) (hc : X.calm = true) : CallR X (.builtin "any") (fun xs H Q => ∃ (p : Addr) (bs : List Bool), xs = [.ref p] /\ SqL K H p (bs.map V.bl) /\ Q (.bl (bs.any _root_.id)) H) := by subst hK; exact call_anyB hc
theorem callK_all (hK : X.K = K) (hc : X.calm = true) : CallR X (.builtin "all") (fun xs H Q => ∃ (p : Addr) (bs : List Bool), xs = [.ref p] /\ SqL K H p (bs.map V.bl) /\ Q (.bl (bs.all _root_.id)) H) := by subst hK; exact call_allB hc
theorem callK_sum (hK : X.K = K) (hc : X.calm = true) : CallR X (.builtin "sum") (fun xs H Q => ∃ (p : Addr) (ns : List Int), xs = [.ref p] /\ SqL K H p (ns.map V.int) /\ Q (.int ns.sum) H) := by subst hK; exact call_sumI hc
theorem callK_isinstance (hK : X.K = K) : CallR X (.builtin "isinstance") (fun xs H Q => ∃ x c cv t b, xs = [x, c] /\ RelV c cv /\ (∀ u, RelV c u -> u = cv) /\ TyOf K H x t /\ kitOne K t cv = some b /\ Q (.bl b) H) := by subst hK; exact call_isinst
theorem pt_truK (hK : X.K = K) (ha : PE X a ta) (he : ∀ whole, isTrue a X.env whole = (do let v <- whole; standAt a.pos; holding [v] (truthy v))) : PT X a (fun σ H Q => ta σ H fun x H' => ∃ k, TruV K x H' k /\ Q k H') := by subst hK; exact pt_truth ha he
theorem mt_joinK (hK : X.K = K) : MtR X "str.join" (rJoin K) := by subst hK; exact mt_join
end
section
variable {X : Cx} {K : PySem.W.Frag} {o e : Expr} {es : List Expr} {to : TE} {t : TA} {name : Str} {apos cpos : Pos} {T id : String} {r : V -> List V -> Hp -> VK -> Prop}
theorem pe_bmK (hK : X.K = K) (pa : PlainAttrs T) (slot : Slot T name id) (hty : typeOf (.builtin id) = pure (.type "method_descriptor")) (hm : MtR X id r) (ho : PE X o to) (ha : PA X (e :: es) t)
  (hbase : attributeBase o name X.env (eval o X.env) = eval o X.env := by rfl)
  (hfew : ((backTo cpos (starEach (e :: es) X.env)).all (fun x => !x.1) && (backToKw cpos (keywordEach [] X.env)).all (fun x => x.1.isSome)
   && decide ((e :: es).length + ([] : List Keyword).length + (if ([] : List Keyword).isEmpty then 0 else 1) < 30)) = true := by rfl)
  (hline : (apos.endLine == cpos.line) = true := by rfl) (hs : starEach (e :: es) X.env = (false, eval e X.env) :: starEach es X.env := by rfl) (hplain : (backTo cpos (starEach es X.env)).any (·.1) = false := by rfl) :
  PE X (.Call (.Attribute o name apos) (e :: es) [] cpos) (tBM K T r to t) := by subst hK; exact pe_bm pa slot hty hm ho ha hbase hfew hline hs hplain
end
end L2
namespace L2
open PySem PySem.Spec PyProof.Rows
theorem cutV_from (xs : List V) (k : Nat) : cutV xs (some (k : Int)) none = xs.drop k := by
 unfold cutV
 rw [HT.sIx_nat, HT.sIx_none]
 by_cases h : k <= xs.length
 ·rw [Nat.min_eq_left h, List.take_of_length_le (by simp)]
 ·rw [Nat.min_eq_right (by omega), List.drop_of_length_le (Nat.le_refl _), List.drop_of_length_le (by omega), List.take_nil]
theorem cutV_to (xs : List V) (k : Nat) : cutV xs none (some (k : Int)) = xs.take k := by
 unfold cutV
 rw [HT.sIx_nat, HT.sIx_none]
 simp only [List.drop_zero, Nat.sub_zero]
 by_cases h : k <= xs.length
 ·rw [Nat.min_eq_left h]
 ·rw [Nat.min_eq_right (by omega), List.take_of_length_le (Nat.le_refl _), List.take_of_length_le (by omega)]
def adj (ns : List Int) : List Bool := (ns.zip (ns.drop 1)).map fun p => decide (p.1 = p.2)
theorem adj_len (ns : List Int) : (adj ns).length = min ns.length (ns.length - 1) := by
 unfold adj
 rw [List.length_map, List.length_zip, List.length_drop]
theorem adj_cons (a b : Int) (r : List Int) : adj (a :: b :: r) = decide (a = b) :: adj (b :: r) := by
 unfold adj
 simp
theorem adj_get {ns : List Int} {i : Nat} {x y : Int} (hx : ns[i]? = some x) (hy : (ns.drop 1)[i]? = some y) : (adj ns)[i]? = some (decide (x = y)) := by
 unfold adj
 rw [List.getElem?_map, List.getElem?_zip_eq_some (z := (x, y)) |>.mpr ⟨hx, hy⟩]
 rfl
theorem adj_take {ns : List Int} {i : Nat} {x y : Int} (hx : ns[i]? = some x) (hy : (ns.drop 1)[i]? = some y) : (adj ns).take (i + 1) = (adj ns).take i ++ [decide (x = y)] := by
 rw [List.take_add_one, adj_get hx hy]
 rfl
theorem adj_nodup : ∀ {ns : List Int}, ns.Pairwise (· <= ·) -> ((adj ns).any id = !decide ns.Nodup)
 | [], _ => by simp [adj]
 | [a], _ => by simp [adj]
 | a :: b :: r, h => by
  rw [List.pairwise_cons] at h
  have ih := adj_nodup h.2
  rw [adj_cons, List.any_cons, ih]
  have hab : a <= b := h.1 b List.mem_cons_self
  by_cases e : a = b
  ·subst e
   have : ¬ (a :: a :: r).Nodup := fun z => (List.nodup_cons.mp z).1 List.mem_cons_self
   simp [this]
  ·have ne : a ∉ b :: r := fun hm => by
    rcases List.mem_cons.mp hm with z | z
    ·exact e z
    ·have h1 := (List.pairwise_cons.mp h.2).1 a z
     exact e (by omega)
   have : (a :: b :: r).Nodup ↔ (b :: r).Nodup := by rw [List.nodup_cons]; exact ⟨fun z => z.2, fun z => ⟨ne, z⟩⟩
   by_cases hn : (b :: r).Nodup
   ·simp [e, this.mpr hn, hn]
   ·simp [e, this, hn]
theorem getMap {α β : Type} {f : α -> β} {l : List α} {i : Nat} {y : β} (h : (l.map f)[i]? = some y) : ∃ x, l[i]? = some x /\ y = f x := by
 rw [List.getElem?_map] at h
 cases e : l[i]? with
 | none => rw [e] at h; cases h
 | some x => rw [e] at h; exact ⟨x, rfl, (Option.some.inj h).symm⟩
theorem take_snoc {α : Type} {l : List α} {i : Nat} {x : α} (h : l[i]? = some x) : l.take (i + 1) = l.take i ++ [x] := by
 rw [List.take_add_one, h]
 rfl
theorem decV (a b : Int) : decide (V.int a = V.int b) = decide (a = b) := decide_eq_decide.mpr ⟨fun h => V.int.inj h, fun h => h ▸ rfl⟩
theorem decS (a b : Str) : decide (V.str a = V.str b) = decide (a = b) := decide_eq_decide.mpr ⟨fun h => V.str.inj h, fun h => h ▸ rfl⟩
end L2
namespace Xc
open PySem
section
variable {M : Model} {A : Around} {E : Value -> Shared -> Prop} {s : Shared}
structure Exc (h : Heap) (e : Addr) (cls : Value) (od : Option Addr) (sl : Array (Option Value)) (vs : Array Value) : Prop where
 obj : h.get? e = some { cls := cls, dict := od, data := .fields vs, slots := sl }
 big : 2 < vs.size
structure Tb (h : Heap) (T : Addr) (fl : Value) : Prop where
 ex : ∃ oT ts, h.get? T = some oT /\ oT.data = .fields ts /\ ts[3]? = some fl
theorem map_at {h : Heap} {a : Addr} {o : Obj} {vs : Array Value} {i : Nat} {x : Value} (ho : h.get? a = some o) (hd : o.data = .fields vs) :
  (h.update a (Obj.mapFields (·.setIfInBounds i x))).get? a = some { o with data := .fields (vs.setIfInBounds i x) } := by
 rw [Heap.get?_update_self _ ho (Obj.isFreed_of_fields (Obj.data_mapFields hd _))]
 obtain ⟨c, d, dt, sl⟩ := o
 subst hd
 rfl
theorem entry_new {base : Heap} {env : Env} {outer : List Env} {L e : Addr} {cls : Value} {od : Option Addr} {sl : Array (Option Value)} {vs : Array Value} {head : Value} {had : Bool} {Q : Unit -> Shared -> Prop}
  (hfr : A.frames = some (env :: outer)) (hl : s.heap.FunFrames base (env :: outer)) (hf : env.frame = some L) (hx : Exc s.heap e cls od sl vs)
  (h : ∀ h' T', (∀ b o, b ∉ (env :: outer).filterMap (·.frame) -> b ≠ e -> s.heap.get? b = some o -> h'.get? b = some o) -> (∀ b o, b ≠ e -> s.heap.get? b = some o -> ∃ k, h'.get? b = some { o with slots := k }) ->
   s.heap.objs.size <= T' -> Exc h' e cls od sl (vs.setIfInBounds 1 (.ref T')) -> Tb h' T' (rawInt L) -> Q () { s with heap := h' }) :
  wpAny M A (do let a <- frameOf env; let pl <- entryPlaceOf L had; let b <- EntryCells.newEntry head a .none (rawInt L) .none pl; setField (.ref e) 1 b) Q E s := by
 have he := hx.obj
 have nfr : e ∉ (env :: outer).filterMap (·.frame) := fun hm => by
  obtain ⟨_, o, ho, hn⟩ := hl.mem hm
  rw [he] at ho
  cases ho
  exact hn vs rfl
 refine wpAny_bind (wpAny_frameOf_fun hfr hl hf fun g hs => wpAny_bind (wpAny_entryPlaceOf fun pl hpl => ?_))
 unfold EntryCells.newEntry newFields
 refine wpAny_bind (wpAny_newObj_type ?_ (hpl.sizeOk5 _ _ _ _ _))
 have e1 : g.get? e = some { cls := cls, dict := od, data := .fields vs, slots := sl } := (hs.2.1 e nfr).trans he
 generalize eN : ({ cls := .type "traceback", dict := none, data := .fields ([head, Value.ref L, .none, rawInt L, .none] ++ (if pl.isEmpty then List.replicate 6 Value.none else pl)).toArray } : Obj) = oN
 have eD : oN.data = .fields ([head, Value.ref L, .none, rawInt L, .none] ++ (if pl.isEmpty then List.replicate 6 Value.none else pl)).toArray := by rw [<- eN]
 have e2 := Heap.get?_push_of_some (h := g) oN e1
 have eT : g.objs.size ≠ e := Nat.ne_of_gt (Heap.lt_size e1)
 refine wpAny_setField e2 rfl (Nat.lt_of_succ_lt hx.big) (h _ g.objs.size (fun b o hb hbe q => ?_) (fun b o hbe q => ?_) (Nat.le_of_eq hs.1.symm) ⟨map_at e2 rfl, by simpa using hx.big⟩ ⟨⟨oN, _, ?_, eD, ?_⟩⟩)
 ·exact (Heap.get?_update_other _ _ (Ne.symm hbe)).trans (Heap.get?_push_of_some _ ((hs.2.1 b hb).trans q))
 ·obtain ⟨k, z⟩ := hs.2.2 b o q
  exact ⟨k, (Heap.get?_update_other _ _ (Ne.symm hbe)).trans (Heap.get?_push_of_some _ z)⟩
 ·exact (Heap.get?_update_other _ _ (Ne.symm eT)).trans (Heap.get?_push_size _ (by rw [<- eN]; rfl))
 ·rcases hpl with rfl | ⟨_, _, _, _, _, _, _, rfl⟩ <;> simp
theorem note_step {base : Heap} {env : Env} {outer : List Env} {L e : Addr} {cls : Value} {od : Option Addr} {sl : Array (Option Value)} {vs : Array Value} {Q : Unit -> Shared -> Prop}
  (hfr : A.frames = some (env :: outer)) (hl : s.heap.FunFrames base (env :: outer)) (hf : env.frame = some L) (hx : Exc s.heap e cls od sl vs)
  (ht : vs[1]? = some .none \/ ∃ T, vs[1]? = some (.ref T) /\ T ≠ e /\ Tb s.heap T .none)
  (h : ∀ h' T', (∀ b o, b ∉ (env :: outer).filterMap (·.frame) -> b ≠ e -> vs[1]? ≠ some (.ref b) -> s.heap.get? b = some o -> h'.get? b = some o) ->
   (∀ b o, b ≠ e -> vs[1]? ≠ some (.ref b) -> s.heap.get? b = some o -> ∃ k, h'.get? b = some { o with slots := k }) -> (∀ b o, vs[1]? = some (.ref b) -> s.heap.get? b = some o -> ∃ o', h'.get? b = some o') ->
   s.heap.objs.size <= T' -> Exc h' e cls od sl (vs.setIfInBounds 1 (.ref T')) -> Tb h' T' (rawInt L) -> Q () { s with heap := h' }) :
  wpAny M A (noteFrame (.ref e) env) Q E s := by
 unfold noteFrame
 simp only [hf]
 rcases ht with h1 | ⟨T, h1, hTe, ⟨oT, ts, hT, hdT, h3⟩⟩
 ·refine wpAny_bind (wpAny_field hx.obj rfl h1 ?_)
  rw [if_neg (by decide)]
  exact entry_new hfr hl hf hx fun h' T' k1 k2 k3 k4 k5 => h h' T' (fun b o b1 b2 _ => k1 b o b1 b2) (fun b o b2 _ => k2 b o b2) (fun b o z => by rw [h1] at z; cases z) k3 k4 k5
 ·refine wpAny_bind (wpAny_field hx.obj rfl h1 ?_)
  rw [if_pos (show (Value.ref T != Value.none) = true from by simp)]
  refine wpAny_bind (wpAny_field hT hdT h3 ?_)
  rw [if_neg (show ¬ ((Value.none == rawInt L) = true) from by simp [rawInt])]
  refine wpAny_bind (wpAny_setField hT hdT (Array.getElem?_eq_some_iff.mp h3).1 ?_)
  have oth : ∀ b, b ≠ T -> (s.heap.update T (Obj.mapFields (·.setIfInBounds 3 Value.none))).get? b = s.heap.get? b := fun b hb => Heap.get?_update_other _ _ (Ne.symm hb)
  have hTn := map_at (i := 3) (x := Value.none) hT hdT
  refine entry_new (base := base) (had := true) hfr (hl.of_keeps fun b o hb hn => ?_) hf ⟨(oth e (Ne.symm hTe)).trans hx.obj, hx.big⟩ fun h' T' k1 k2 k3 k4 k5 => h h' T' (fun b o b1 b2 b3 q => ?_) (fun b o b2 b3 q => ?_) (fun b o b3 q => ?_) (by simpa using k3) k4 k5
  ·have bT : b ≠ T := fun z => by
    rw [z, hT] at hb
    cases hb
    exact hn ts hdT
   exact ⟨o, (oth b bT).trans hb, rfl⟩
  ·have bT : b ≠ T := fun z => b3 (by rw [z]; exact h1)
   exact k1 b o b1 b2 ((oth b bT).trans q)
  ·have bT : b ≠ T := fun z => b3 (by rw [z]; exact h1)
   exact k2 b o b2 ((oth b bT).trans q)
  ·have bT : b = T := by
    rw [h1] at b3
    cases b3
    rfl
   subst bT
   obtain ⟨k, z⟩ := k2 b _ hTe hTn
   exact ⟨_, z⟩
theorem land {e T : Addr} {cls : Value} {od : Option Addr} {sl : Array (Option Value)} {vs : Array Value} {fl : Value} {Q : Unit -> Shared -> Prop} (hx : Exc s.heap e cls od sl vs) (h1 : vs[1]? = some (.ref T)) (hTe : T ≠ e) (ht : Tb s.heap T fl)
  (h : ∀ h', (∀ b o, b ≠ T -> s.heap.get? b = some o -> h'.get? b = some o) -> Tb h' T .none -> Q () { s with heap := h' }) : wpAny M A (setFlight (.ref e) none) Q E s := by
 obtain ⟨oT, ts, hT, hdT, h3⟩ := ht.ex
 have hz : 3 < ts.size := (Array.getElem?_eq_some_iff.mp h3).1
 unfold setFlight
 refine wpAny_bind (wpAny_field hx.obj rfl h1 ?_)
 rw [if_pos (show (Value.ref T != Value.none) = true from by simp)]
 refine wpAny_setField hT hdT hz (h _ (fun b o hb q => (Heap.get?_update_other _ _ (Ne.symm hb)).trans q) ⟨⟨_, _, map_at hT hdT, rfl, ?_⟩⟩)
 simp [hz]
end
end Xc
namespace Xc
open PySem
section
variable {prog : Program} {w : World} {A : Around} {E : Value -> Shared -> Prop} {h : Heap} {g : Array GenState} {d : Drawn} {t : Nat} {os : OsState}
variable {nm q : Str} {C N : Addr} {bs bm bmB : List Value} {hdct : Bool} {sn : List Str} {sub : List Value} {ab : Bool} {col : Option Bool} {dd : Option Addr} {k0 k1 k2 k3 k5 : Option Value} {B newId initId : String}
theorem made_init (F : ExcBaseFacts B newId initId bmB) (T : OwnTail h bmB bm) {mN : Str -> Option Value} {rest : List Value} {fI : Addr} {oI : Obj} {Q : PySem.Fin -> Shared -> Prop}
  (hC : h.get? C = some (excClassObj nm q C N bs bm hdct sn sub ab col dd k0 k1 k2 k3 k5 newId)) (hn : h.Ns N mN) (hi : mN "__init__" = some (.ref fI)) (hfI : h.get? fI = some oI) (hfc : oI.cls = .type "function")
  (hq : ∀ h' e, Heap.MadeExcOf h h' e (.ref C) rest -> h.objs.size <= e ->
   wpAny (model prog w) A (call (.ref fI) (.ref e :: rest)) (fun r s' => r = .none /\ Q (.done (.ret (.ref e))) s') E ⟨h', g, d, t, os⟩) (hrest : rest.length <= sizeLine) :
  wpAny (model prog w) A (Builtin.«type.__call__» ⟨.ref C :: rest, []⟩) Q E ⟨h, g, d, t, os⟩ := by
 repeat (first | with_reducible refine wpAny_loadPart_at hC ?_ | with_reducible refine wpAny_madeBy_exc hC ?_ | wp_step)
 refine codeAny_call_builtin_code (Code.quiet_builtin _ F.quiet) (wpAny_check_new_subT F T hC (codeAny_exc_new_subT F T hC ?_ hrest))
 show wpAny _ _ _ _ _ _
 generalize eh1 : h.push { cls := .type "tuple", data := .seq rest.toArray } = h1
 generalize eo : ({ cls := .ref C, data := .fields #[.ref h.objs.size, .none, .none, .none, .bool false, .none] } : Obj) = ox
 have z1 : h1.objs.size = h.objs.size + 1 := by rw [<- eh1, Heap.size_push]
 have up : ∀ b o, h.get? b = some o -> (h1.push ox).get? b = some o := fun b o e => Heap.get?_push_of_some _ (by rw [<- eh1]; exact Heap.get?_push_of_some _ e)
 have hget : (h1.push ox).get? (h.objs.size + 1) = some ox := by rw [<- z1]; exact Heap.get?_push_size _ (by rw [<- eo]; rfl)
 have hoc : ox.cls = .ref C := by rw [<- eo]
 have hcC : (Value.ref C :: bm).contains (.ref C) = true := by simp
 have hC1 := up _ _ hC
 have hn1 : (h1.push ox).Ns N mN := let ⟨o, es, ep, e, r⟩ := hn; ⟨o, es, ep, up _ _ e, r⟩
 unfold isInstance
 repeat (first | (with_reducible refine wpAny_loadPart_at hget ?_; rw [hoc]) | (with_reducible refine wpAny_isSubtype_exc hC1 ?_; rw [hcC]) | wp_step)
 show wpAny _ _ (typeLookup (.ref C) _) _ _ _
 refine wpAny_typeLookup_tail hC1 hn1 (T.keeps up) F.mroIs F.init.lookup ?_
 rw [hi]
 refine wpAny_holding (wpAny_bind ?_)
 unfold bindSpecial
 refine wpAny_bind (wpAny_typeOf (T := "function") ⟨_, up _ _ hfI, hfc⟩ ?_)
 rw [if_pos (by decide)]
 refine wpAny_pure (wpAny_bind (wpAny_mono (hq _ (h.objs.size + 1) ⟨up, Heap.get?_none_of_le (Nat.le_succ _), h.objs.size, by rw [hget, <- eo], Heap.get?_none_of_le (Nat.le_refl _), ?_⟩ (Nat.le_succ _)) (fun r s' hr => ?_) fun _ _ x => x))
 ·rw [<- eh1]
  exact Heap.get?_push_of_some _ (Heap.get?_push_size _ rfl)
 ·obtain ⟨rfl, hQ⟩ := hr
  wp_walk
  exact hQ
theorem call_init (F : ExcBaseFacts B newId initId bmB) (T : OwnTail h bmB bm) {mN : Str -> Option Value} {rest : List Value} {fI : Addr} {oI : Obj} {Q : Value -> Shared -> Prop}
  (hC : h.get? C = some (excClassObj nm q C N bs bm hdct sn sub ab col dd k0 k1 k2 k3 k5 newId)) (hn : h.Ns N mN) (hi : mN "__init__" = some (.ref fI)) (hfI : h.get? fI = some oI) (hfc : oI.cls = .type "function")
  (hq : ∀ h' e, Heap.MadeExcOf h h' e (.ref C) rest -> h.objs.size <= e ->
   wpAny (model prog w) (A.under (.builtin "type.__call__" ⟨.ref C :: rest, []⟩)) (call (.ref fI) (.ref e :: rest)) (fun r s' => r = .none /\ Q (.ref e) s') E ⟨h', g, d, t, os⟩) (hrest : rest.length <= sizeLine) :
  wpAny (model prog w) A (call (.ref C) rest) Q E ⟨h, g, d, t, os⟩ := by
 have f1 := tc_lookup
 have f2 := tc_bind (.ref C)
 have hT : (⟨h, g, d, t, os⟩ : Shared).TypeIs (.ref C) "type" := ⟨_, hC, rfl⟩
 refine wpAny_call (codeAny_of_tree (?_ : wpAny _ _ (callAny (.ref C) _) _ _ _))
 repeat (any_goals (first | assumption | with_reducible refine wpAny_loadPart_at hC ?_ | wp_step))
 refine ⟨rfl, codeAny_call_builtin_at (Code.quiet_builtin _ (by decide +kernel)) entry_typeCall (wpAny_check_type_call_sub hC (made_init F T hC hn hi hfI hfc (fun h' e hm hs => ?_) hrest))⟩
 exact hq h' e hm hs
end
end Xc
namespace Xc
open PySem
section
variable {M : Model} {A : Around} {E : Value -> Shared -> Prop} {s : Shared} {env : Env}
variable {nm q : Str} {C N : Addr} {bs bm : List Value} {hdct : Bool} {sn : List Str} {sub : List Value} {ab : Bool} {col : Option Bool} {dd : Option Addr} {k0 k1 k2 k3 k5 : Option Value} {newId : String}
theorem raise_made {x : Sem Value} {Q : Flow -> Shared -> Prop} (hbase : bm.contains (.type "BaseException") = true) (hh : A.handled = none)
  (h : wpAny M A x (fun v s1 => ∃ e od sl vs, v = .ref e /\ s1.heap.get? C = some (excClassObj nm q C N bs bm hdct sn sub ab col dd k0 k1 k2 k3 k5 newId) /\ Exc s1.heap e (.ref C) od sl vs /\ vs[1]? = some .none /\ E (.ref e) s1) E s) :
  wpAny M A (raiseStmt env (some x) none) Q E s := by
 have hcB : (Value.ref C :: bm).contains (.type "BaseException") = true := by rw [List.contains_cons, hbase, Bool.or_true]
 unfold raiseStmt
 refine wpAny_bind (wpAny_mono h (fun v s1 h1 => ?_) fun _ _ x => x)
 obtain ⟨e, od, sl, vs, rfl, hC, ⟨he, hb⟩, hv, hE⟩ := h1
 obtain ⟨hp, g, d, tk, os⟩ := s1
 repeat (first | with_reducible refine wpAny_field he rfl hv ?_ | with_reducible refine wpAny_loadPart_at he ?_ | with_reducible refine wpAny_loadPart_at hC ?_ | (with_reducible refine wpAny_isSubtype_exc hC ?_; rw [hcB]) | wp_step)
 exact wpAny_raiseNew_none hh hE
end
end Xc
namespace L2
open PySem PySem.Spec PyProof.Rows
def CXe (P : Program) (w : World) : CXT := fun outer H s E e s' => ∃ (ea T : Addr) (cls : Value) (od : Option Addr) (sl : Array (Option Value)) (vs : Array Value) (H' : Hp),
 e = .ref ea /\ s'.os = s.os /\ AllBare s'.gens /\ Un (frs outer) [] H H' s.heap s'.heap /\ HOk P w H' s'.heap /\ H' ea = none /\ H' T = none /\ s.heap.objs.size <= ea /\ s.heap.objs.size <= T /\
 Xc.Exc s'.heap ea cls od sl vs /\ vs[1]? = some (.ref T) /\ T ≠ ea /\ vs[2]? = some .none /\ Xc.Tb s'.heap T .none /\ E cls od H'
structure Flying (X : Cx) (H : Hp) (s : Shared) (ea : Addr) (cls : Value) (od : Option Addr) (sl : Array (Option Value)) (vs : Array Value) : Prop where
 exc : Xc.Exc s.heap ea cls od sl vs
 h2 : vs[2]? = some .none
 free : H ea = none
 new : X.s₀.heap.objs.size <= ea
 nofr : ∀ x c, X.env.cells.lookup x = some c -> c ≠ ea
 tb : vs[1]? = some .none \/ ∃ T, vs[1]? = some (.ref T) /\ T ≠ ea /\ Xc.Tb s.heap T .none /\ H T = none /\ X.s₀.heap.objs.size <= T
section
variable {P : Program} {w : World} {K : PySem.W.Frag} {mg : Str -> Option Value} {base : Heap} {N : List Str} {qual : Str} {scope : Scope} {f : Addr} {cd : Value} {A : Around} {outer : List Env} {s : Shared} {H : Hp} {E : XK}
theorem hok_kept {H' : Hp} {h h' : Heap} (ok : HOk P w H' h) (k : ∀ b o u, H' b = some u -> h.get? b = some o -> h'.get? b = some o) : HOk P w H' h' := fun b u e =>
 (ok b u e).stay (fun c v hc q => by
  rcases hc with rfl | hc
  ·exact k c v _ e q
  ·exact k c v _ hc q) (fun _ q => q) (fun _ _ q => q) fun _ _ _ q => q
theorem fly_out {pins : List (Addr × Obj)} {σ : St} {H' : Hp} {s' : Shared} {ea : Addr} {cls : Value} {od : Option Addr} {sl : Array (Option Value)} {vs : Array Value}
  (I : Inv (cxOf (CXe P w) P w K mg base N qual scope f cd A outer s H E) pins σ H' s') (F : Flying (cxOf (CXe P w) P w K mg base N qual scope f cd A outer s H E) H' s' ea cls od sl vs) (q : E cls od H') :
  (cxOf (CXe P w) P w K mg base N qual scope f cd A outer s H E).xe (.ref ea) s' := by
 have hst : s'.heap.FunFrames base (envOfC qual scope s.heap.objs.size f cd :: outer) := I.stack
 have hfr : (A.deeper (envOfC qual scope s.heap.objs.size f cd)).frames = some (envOfC qual scope s.heap.objs.size f cd :: outer) := I.ok.frames
 have sfree : ∀ b ∈ (envOfC qual scope s.heap.objs.size f cd :: outer).filterMap (·.frame), H' b = none := I.stkFree
 have sub : ∀ b ∈ (envOfC qual scope s.heap.objs.size f cd :: outer).filterMap (·.frame), b ∈ s.heap.objs.size :: frs outer := I.stkSub
 have bs := I.base
 have new0 : s.heap.get? ea = none := Heap.get?_none_of_le F.new
 show wpAny (model P w) (A.deeper (envOfC qual scope s.heap.objs.size f cd)) (leaving (envOfC qual scope s.heap.objs.size f cd) (.ref ea)) (fun _ s'' => CXe P w outer H s E (.ref ea) s'') (fun e' s'' => CXe P w outer H s E e' s'') s'
 unfold leaving
 refine wpAny_bind (Xc.note_step hfr hst rfl F.exc (F.tb.imp id fun ⟨T, a, b, c, _⟩ => ⟨T, a, b, c⟩) fun h1 T1 k1 k2 k3 k4 k5 k6 => ?_)
 have hv1 : (vs.setIfInBounds 1 (.ref T1))[1]? = some (.ref T1) := by simp [Nat.lt_of_succ_lt F.exc.big]
 have hv2 : (vs.setIfInBounds 1 (.ref T1))[2]? = some .none := by rw [Array.getElem?_setIfInBounds_ne (by decide)]; exact F.h2
 have hTe : T1 ≠ ea := Nat.ne_of_gt (Nat.lt_of_lt_of_le (Heap.lt_size F.exc.obj) k4)
 refine Xc.land k5 hv1 hTe k6 fun h2 g1 g2 => ?_
 have ltT : ∀ b o, s'.heap.get? b = some o -> b ≠ T1 := fun b o e => Nat.ne_of_lt (Nat.lt_of_lt_of_le (Heap.lt_size e) k4)
 have oldT : ∀ b, vs[1]? = some (.ref b) -> H' b = none /\ s.heap.get? b = none := fun b e => by
  rcases F.tb with z | ⟨T, a, _, _, d, n⟩
  ·rw [z] at e; cases e
  ·rw [a] at e; cases e; exact ⟨d, Heap.get?_none_of_le n⟩
 have kept : ∀ b o, s.heap.get? b = some o -> s'.heap.get? b = some o -> b ∉ frs outer -> h2.get? b = some o := fun b o e0 e hb => by
  refine g1 b o (ltT b o e) (k1 b o (fun z => ?_) (fun z => ?_) (fun z => ?_) e)
  ·rcases List.mem_cons.mp (sub b z) with y | y
   ·rw [y] at e0
    exact absurd (Heap.lt_size e0) (Nat.lt_irrefl _)
   ·exact hb y
  ·rw [z, new0] at e0; cases e0
  ·rw [(oldT b z).2] at e0; cases e0
 have slots : ∀ b o, s.heap.get? b = some o -> s'.heap.get? b = some o -> ∃ k, h2.get? b = some { o with slots := k } := fun b o e0 e => by
  obtain ⟨k, z⟩ := k2 b o (fun z => by rw [z, new0] at e0; cases e0) (fun z => by rw [(oldT b z).2] at e0; cases e0) e
  exact ⟨k, g1 b _ (ltT b o e) z⟩
 have there : ∀ b o, s.heap.get? b = some o -> ∀ o', s'.heap.get? b = some o' -> ∃ o'', h2.get? b = some o'' := fun b o e0 o' e => by
  obtain ⟨k, z⟩ := k2 b o' (fun z => by rw [z, new0] at e0; cases e0) (fun z => by rw [(oldT b z).2] at e0; cases e0) e
  exact ⟨_, g1 b _ (ltT b o' e) z⟩
 refine ⟨ea, T1, cls, od, sl, _, H', rfl, I.os, I.bare, ⟨fun b o e n hb hx => ?_, fun b o e n hb hx => ?_, fun b o e n hx => bs.free b o e n (by show b ∉ ([] : List Addr); simp), fun b o e hx => ?_, bs.tups, bs.frzs, bs.tbls⟩, ?_, F.free, I.hok.fresh k4, F.new, ?_, ⟨g1 _ _ hTe.symm k5.obj, k5.big⟩, hv1, hTe, hv2, g2, q⟩
 ·exact kept b o e (bs.keep b o e n hb (by show b ∉ ([] : List Addr); simp)) hb
 ·obtain ⟨k0, e0⟩ := bs.slot b o e n hb (by show b ∉ ([] : List Addr); simp)
  obtain ⟨k, z⟩ := k2 b _ (fun z => by rw [z, new0] at e; cases e) (fun z => by rw [(oldT b z).2] at e; cases e) e0
  exact ⟨k, g1 b _ (ltT b _ e0) z⟩
 ·obtain ⟨o', e1⟩ := bs.there b o e (by show b ∉ ([] : List Addr); simp)
  exact there b o e o' e1
 ·exact hok_kept I.hok fun b o u hu e => g1 b o (ltT b o e) (k1 b o (fun z => by rw [sfree b z] at hu; cases hu) (fun z => by rw [z, F.free] at hu; cases hu) (fun z => by rw [(oldT b z).1] at hu; cases hu) e)
 ·exact Nat.le_trans I.sz k4
theorem passE {E' : XK} (h : ∀ c d H, E' c d H -> E c d H) : Passes (CXe P w) (cxOf (CXe P w) P w K mg base N qual scope f cd A outer s H E) E' := by
 intro pins σ H1 s1 e s' I hx
 obtain ⟨ea, T, cls, od, sl, vs, H', rfl, ho, hb, hu, hok, n1, n2, m1, m2, ex, v1, ne, v2, tb, q⟩ := hx
 have I' := I.call' (ch := []) ho hu hok hb (fun _ z => nomatch z)
 refine fly_out I' ⟨ex, v2, n1, Nat.le_trans I.sz m1, fun x c e z => ?_, .inr ⟨T, v1, ne, tb, n2, Nat.le_trans I.sz m2⟩⟩ (h _ _ _ q)
 obtain ⟨v, o, y, _⟩ := I.cell x c e
 rw [z] at y
 exact absurd (Heap.lt_size y) (Nat.not_lt.mpr m1)
end
def Raises (X : Cx) (E : XK) : Prop := ∀ (pins : List (Addr × Obj)) (σ : St) (H : Hp) (s : Shared) (ea : Addr) (cls : Value) (od : Option Addr) (sl : Array (Option Value)) (vs : Array Value), Inv X pins σ H s -> Flying X H s ea cls od sl vs -> E cls od H -> X.xe (.ref ea) s
theorem raisesE {P : Program} {w : World} {K : PySem.W.Frag} {mg : Str -> Option Value} {base : Heap} {N : List Str} {qual : Str} {scope : Scope} {f : Addr} {cd : Value} {A : Around} {outer : List Env} {s : Shared} {H : Hp} {E : XK} :
  Raises (cxOf (CXe P w) P w K mg base N qual scope f cd A outer s H E) E := fun _ _ _ _ _ _ _ _ _ I F q => fly_out I F q
theorem Fun.okE {P : Program} {w : World} {K : PySem.W.Frag} {mg : Str -> Option Value} {base : Heap} {x qual : Str} {st : Stmt} {f : Addr} {fd : FuncData} {N ps : List Str} {k : Nat} {sp : Sp} (F : Fun K x qual st f fd) (S : FnScope N ps (defScope st)) (len : ∀ vs H Q E, sp vs H Q E -> vs.length = ps.length)
  (hbody : ∀ (cdv : Value) (A : Around) (outer : List Env) (s : Shared) (H : Hp) (vs : List V) (Q : VK) (E : XK), Room k (A.deeper (envOfC qual (defScope st) s.heap.objs.size f cdv)) -> sp vs H Q E ->
   ∃ t, PSs (cxOf (CXe P w) P w K mg base N qual (defScope st) f cdv A outer s H E) (defBody st) t /\ t { nx := fun _ H' => Q .non H', rt := Q } (start N vs) H) : FnOk P w K mg base (CXe P w) (k + 1) f fd ps sp := by
 obtain ⟨oc, od, kV, doc, pm, an, cdv, ct, osl, rfl, lk, hcd⟩ := F.ex
 exact fn_of lk hcd S len fun A outer s H vs Q E hr hsp => hbody cdv A outer s H vs Q E hr hsp
end L2
namespace Xc
open PySem PySem.W PySem.Calls PyProof.Rows Builtin Builtin.ObjectAttr
def overVE : List Value -> Bool
 | .ref _ :: r => overVE r
 | l => l == [.type "ValueError", .type "Exception", .type "BaseException", .type "object"]
theorem ve_not {l : List Value} (h : overVE l = true) (h' : ∀ a r, l ≠ .ref a :: r) : l = [.type "ValueError", .type "Exception", .type "BaseException", .type "object"] := by
 unfold overVE at h
 split at h
 ·exact absurd rfl (h' _ _)
 ·exact beq_iff_eq.mp h
theorem ve_passes (self : Value) : ∀ {l : List Value}, overVE l = true -> refuseLoop self "__setattr__" l = pure ()
 | l, e => by
  induction l with
  | nil => cases ve_not e (by simp)
  | cons v r ih =>
   cases v with
   | ref c => rw [refuseLoop_ref]; exact ih (by rw [overVE] at e; exact e)
   | _ => rw [ve_not e (by simp)]; exact PySem.F.store_ValueError.passes self
theorem ve_has (n : String) (hn : ([.type "ValueError", .type "Exception", .type "BaseException", .type "object"] : List Value).contains (.type n) = true) : ∀ {l : List Value}, overVE l = true -> l.contains (.type n) = true
 | l, e => by
  induction l with
  | nil => cases ve_not e (by simp)
  | cons v r ih =>
   cases v with
   | ref c => rw [List.contains_cons, ih (by rw [overVE] at e; exact e), Bool.or_true]
   | _ => rw [ve_not e (by simp)]; exact hn
structure XC (K : Frag) (C : Addr) : Prop where
 mro : (clsIn K C).any (fun cd => overVE cd.mro) = true
 hd : hasDictIn K C = true
 ga : findIn K (.ref C) "__getattribute__" = some (some (.builtin "BaseException.__getattribute__"))
 gh : findIn K (.ref C) "__getattr__" = some none
 sa : findIn K (.ref C) "__setattr__" = some (some (.builtin "object.__setattr__"))
 ca : findIn K (.ref C) "__class__" = some (some (.builtin "object.__class__"))
 cg : specialIn K (.builtin "object.__class__") "__get__" = some (some (.builtin "getset_descriptor.__get__"))
 ct : takesIn K (.builtin "object.__class__") = some true
section
variable {prog : Program} {w : World} {A : Around} {E : Value -> Shared -> Prop} {s : Shared} {K : Frag} {x C : Addr} {ox : Obj} {od : Option Obj} {name : Str}
theorem XC.has (c : XC K C) {n : String} (hn : ([.type "ValueError", .type "Exception", .type "BaseException", .type "object"] : List Value).contains (.type n) = true) : mroIn K C (.type n) = some true := by
 obtain ⟨cd, hc, ho⟩ := any_some c.mro
 have ne : cd.mro.isEmpty = false := by cases q : cd.mro with | nil => rw [q] at ho; cases ve_not ho (by simp) | cons _ _ => rfl
 unfold mroIn
 rw [hc, Option.bind_some, if_neg (by rw [ne]; decide), ve_has n hn ho]
theorem set_first {v : Value} {Q : Unit -> Shared -> Prop} {sl : Array (Option Value)} {vs : Array Value} (c : XC K C) (X : K.In s.heap) (hx : s.heap.get? x = some ⟨.ref C, none, .fields vs, sl⟩) (ht : takerIn K C name = some none)
  (h : ∀ h' dx tk, h'.get? x = some ⟨.ref C, some dx, .fields vs, sl⟩ -> s.heap.objs.size <= dx -> h'.Ns1 dx (fun y => if y = name then some v else none) -> (∀ b o, b ≠ x -> s.heap.get? b = some o -> h'.get? b = some o) -> Q () { s with heap := h', toks := tk }) :
  wpAny (model prog w) A (setAttr (.ref x) name v) Q E s := by
 have I : InstAt s.heap x ⟨.ref C, none, .fields vs, sl⟩ C none := ⟨hx, rfl, rfl, trivial⟩
 obtain ⟨cd, hc, ho⟩ := any_some c.mro
 have sub : Looks (model prog w) s.heap (isInstance (.ref x) (.type "object")) true := I.type.andThen (looks_mroIn X (c.has (by decide +kernel)))
 refine set_plain X I c.sa ?_
 have SF := PySem.F.store_object
 refine codeAny_call_builtin SF.slot.plain SF.entry (@check_slot (model prog w) _ _ { s with toks := s.toks + 1 } "object.__setattr__" "object" "__setattr__" (.ref x) [.str name s.toks, v] [] _ SF.kind SF.split sub (SF.args _ _ _) ?_)
 obtain ⟨attr, ha, hr⟩ := Option.bind_eq_some_iff.mp ht
 have hm : Looks (model prog w) s.heap (mroOf (.ref C)) cd.mro := (looks_clsIn X hc).andThen .now
 have L3 : Looks (model prog w) s.heap (storeTaker? attr) none := by
  cases attr with
  | none => exact .now
  | some a =>
   obtain ⟨b, hb, hb2⟩ := Option.map_eq_some_iff.mp hr
   refine (looks_takesIn X hb).andThen ?_
   cases b with
   | false => exact .now
   | true => cases hb2
 rw [osa_eq, refuse_eq]
 refine wpAny_bind (wpAny_bind (I.type.here (s := { s with toks := s.toks + 1 }) (wpAny_bind (hm.here (s := { s with toks := s.toks + 1 }) ?_))))
 rw [ve_passes _ ho]
 refine wpAny_pure (wpAny_bind (I.type.here (s := { s with toks := s.toks + 1 }) (wpAny_bind ((looks_findIn X ha).here (s := { s with toks := s.toks + 1 }) (wpAny_bind (L3.here (s := { s with toks := s.toks + 1 }) ?_))))))
 obtain ⟨cd2, hc2, hd2⟩ := any_some c.hd
 obtain ⟨hp, g, d, t, os⟩ := s
 dsimp only at hx X I
 refine wpAny_bind (wpAny_pure (wpAny_bind (wpAny_bind (wpAny_loadPart hx (wpAny_bind ((looks_clsIn X hc2).here (s := ⟨hp, g, d, t + 1, os⟩) ?_))))))
 rw [hd2]
 dsimp only
 have hx₁ : (hp.push { cls := .type "dict", data := .dict #[] }).get? x = some ⟨.ref C, none, .fields vs, sl⟩ := Heap.get?_push_of_some _ hx
 have hxs : x ≠ hp.objs.size := Nat.ne_of_lt (Heap.lt_size hx)
 refine wpAny_bind (wpAny_alloc' ?_)
 refine wpAny_bind (wpAny_update' hx₁ ?_)
 refine wpAny_pure ?_
 generalize eh : ((hp.push { cls := .type "dict", data := .dict #[] }).update x fun o => { cls := o.cls, dict := some hp.objs.size, data := o.data, slots := o.slots }) = h1
 have gx : h1.get? x = some ⟨.ref C, some hp.objs.size, .fields vs, sl⟩ := by rw [<- eh]; exact Heap.get?_update_self _ hx₁ rfl
 have gd : h1.get? hp.objs.size = some { cls := .type "dict", data := .dict #[] } := by rw [<- eh]; exact (Heap.get?_update_ne _ _ _ _ hxs.symm).trans (Heap.get?_push_at rfl rfl)
 have go : ∀ b o, b ≠ x -> hp.get? b = some o -> h1.get? b = some o := fun b o hb e => by rw [<- eh]; exact (Heap.get?_update_ne _ _ _ _ hb).trans (Heap.get?_push_of_some _ e)
 have hnd : h1.Ns hp.objs.size (fun _ => none) := ⟨_, #[], _, gd, rfl, fun e he => absurd he (by simp), fun _ => rfl⟩
 show wpAny _ _ (storeInDict hp.objs.size (.str name _) name v) _ _ _
 unfold storeInDict newKeyGuard
 refine wpAny_bind (wpAny_pure (wpAny_bind (wpAny_nsSet1 (Heap.Ns1.of_empty hnd) fun h' hn' hs => ?_)))
 obtain ⟨oD, esD, epD, hoD, hdD, hcD⟩ := hn'.count (Within.cons name v Within.nil)
 refine wpAny_bind (wpAny_lookBehind hoD (by rw [hdD]; exact pastItsLine_dict (Nat.le_trans hcD (by rw [List.length_cons, List.length_nil, sizeLine_eq]; omega))) ?_)
 refine wpAny_pure ?_
 exact h h' hp.objs.size _ ((hs.2 x hxs).trans gx) (Nat.le_refl _) hn' fun b o hb e => (hs.2 b (Nat.ne_of_lt (Heap.lt_size e))).trans (go b o hb e)
end
end Xc
namespace L2
open PySem PySem.Spec PyProof.Rows
abbrev veM : List Value := [.type "ValueError", .type "Exception", .type "BaseException", .type "object"]
def XO (a C : Addr) (od : Option Addr) : HO := .ext fun h => ∃ sl t, h.get? a = some ⟨.ref C, od, .fields #[.ref t, .none, .none, .none, .bool false, .none], sl⟩
theorem XO.mk {P : Program} {w : World} {H : Hp} {h : Heap} {a C : Addr} {od : Option Addr} {sl : Array (Option Value)} {t : Addr} (e : h.get? a = some ⟨.ref C, od, .fields #[.ref t, .none, .none, .none, .bool false, .none], sl⟩) :
  ObjOk P w H h a (XO a C od) := ⟨⟨sl, t, e⟩, ⟨_, e⟩, fun h1 h2 ⟨sl', t', e'⟩ k => ⟨sl', t', k _ e'⟩⟩
theorem XO.get {P : Program} {w : World} {H : Hp} {h : Heap} {a C : Addr} {od : Option Addr} (hok : HOk P w H h) (e : H a = some (XO a C od)) : ∃ sl t, h.get? a = some ⟨.ref C, od, .fields #[.ref t, .none, .none, .none, .bool false, .none], sl⟩ := (hok a _ e).1
def del (H : Hp) (a : Addr) : Hp := fun b => if b = a then none else H b
theorem del_self {H : Hp} {a : Addr} : del H a a = none := if_pos rfl
theorem del_ne {H : Hp} {a b : Addr} (h : b ≠ a) : del H a b = H b := if_neg h
theorem upd_id {H : Hp} {a : Addr} {o : HO} (h : H a = some o) : upd H a o = H := by
 funext b
 unfold upd
 split
 ·rename_i e; rw [e, h]
 ·rfl
def xIn (K : PySem.W.Frag) (C : Addr) : Bool := match K.lookup C with
 | some ⟨.type "type", _, .cls cd, sl⟩ => (match cd.mro, sl.toList with
  | .ref C' :: bm, [_, _, _, _, some (.builtin n), _] => C' == C && n == "ValueError.__new__" && !cd.hasDel && PySem.W.tailIn K veM bm && PySem.W.nsOkIn K cd.ns
  | _, _ => false)
 | _ => false
theorem ns_of {K : PySem.W.Frag} {h : Heap} {N : Addr} {mg : Str -> Option Value} {n : Str} {v : Value} (X : K.In h) (G : h.Ns N mg) (e : nsIn K N n = some (some v)) : mg n = some v := by
 obtain ⟨o, es, ep, ho, hd, _, hf⟩ := G
 unfold nsIn at e
 split at e
 ·rename_i c d es' n' sl q
  have := X _ _ q
  rw [ho] at this
  cases this
  cases hd
  split at e
  ·rename_i en he
   cases e
   rw [<- hf]
   unfold nsFind findBy
   rw [<- Array.find?_toList, he]
   rfl
  ·split at e <;> cases e
 ·cases e
structure XAt (K : PySem.W.Frag) (h : Heap) (C : Addr) (cd : ClassData) : Prop where
 ex : ∃ (nm q : Str) (bs bm : List Value) (hdct : Bool) (sn : List Str) (sub : List Value) (ab : Bool) (col : Option Bool) (dd : Option Addr) (k0 k1 k2 k3 k5 : Option Value),
  h.get? C = some (excClassObj nm q C cd.ns bs bm hdct sn sub ab col dd k0 k1 k2 k3 k5 "ValueError.__new__") /\ OwnTail h veM bm /\ ∃ mN, h.Ns cd.ns mN
theorem xat_of {K : PySem.W.Frag} {h : Heap} {C : Addr} (X : K.In h) (q : xIn K C = true) : ∃ cd, PySem.W.clsIn K C = some cd /\ XAt K h C cd := by
 unfold xIn at q
 split at q
 ·rename_i dd cd sl ho
  split at q
  ·rename_i C' bm k0 k1 k2 k3 n k5 hm hs
   simp only [Bool.and_eq_true, beq_iff_eq, Bool.not_eq_true'] at q
   obtain ⟨⟨⟨⟨rfl, rfl⟩, hdel⟩, ht⟩, hok⟩ := q
   refine ⟨cd, by unfold PySem.W.clsIn; rw [ho], ?_⟩
   obtain ⟨nm, bs, mro, ns, qn, hd, sn, sub, ab, col, del⟩ := cd
   dsimp only at hm hdel hok
   subst hm hdel
   have hsl : sl = #[k0, k1, k2, k3, some (.builtin "ValueError.__new__"), k5] := by
    obtain ⟨l⟩ := sl
    simp only at hs
    rw [hs]
   subst hsl
   exact ⟨⟨nm, qn, bs, bm, hd, sn, sub, ab, col, dd, k0, k1, k2, k3, k5, X _ _ ho, PySem.W.tail_of_in X ht, _, .of_isNs (PySem.W.isNs_of_in X hok)⟩⟩
  ·cases q
 ·cases q
section
variable {X : Cx} {CX : CXT} {k : Nat} {f C : Addr} {fd : FuncData} {ps : List Str} {sp : Sp} {E : XK} {x : Str} {p pos apos rpos : Pos} {e o : Expr} {es : List Expr} {ta tv : TE} {t : TA}
def tFs (ta : TE) : TE := fun σ H Q => ta σ H fun v H1 => ∃ i : Int, v = .int i /\ i.natAbs.log2 < 1920 /\ ∀ y, Q (.str y) H1
theorem pe_fstr {a b : Str} {j1 j2 : Nat} {p1 p2 p3 p4 : Pos} (he : PE X e ta) (ha : a.length <= 1000) (hb : b.length <= 1000) : PE X (.JoinedStr [.Constant (.str a) j1 p1, .FormattedValue e (-1) none p2, .Constant (.str b) j2 p3] p4) (tFs ta) := by
 intro pins s σ H Q I h
 refine JoinedStr_many (joinParts_cons (Calls.Constant_str ⟨?_, joinParts_cons (FormattedValue_plain (thn (he pins _ σ H _ (I.tok _) h) fun u s1 ⟨v, H1, I1, r, i, ev, hs, q⟩ => ?_))⟩))
 ·rw [Str.length_append]; show 0 + _ <= _; rw [sizeLine_eq]; omega
 subst ev
 obtain ⟨t, rfl⟩ := r
 have hl := int_text_len_1921 hs
 refine formatField_int_small hs ⟨?_, joinParts_consE (joinParts_cons (Calls.Constant_str ⟨?_, joinParts_nilE (joinParts_nil ⟨.str _, H1, (I1.tok _), ⟨_, rfl⟩, q _⟩ ?_)⟩))⟩
 all_goals (simp only [Str.length_append]; rw [sizeLine_eq]; have : Str.empty.length = 0 := rfl; omega)
def tBaseInit (K : PySem.W.Frag) (t : TA) : TE := fun σ H Q => t σ H fun vs H1 => ∃ a C m, vs = [.ref a, m] /\ xIn K C = true /\ H1 a = some (XO a C none) /\ Q .non H1
theorem pe_baseInit {Y : Addr} {pl : Sem Bool} (hg : Gl X x) (hm : X.mg x = some (.ref Y)) (h1 : PySem.W.specialIn X.K (.ref Y) "__getattribute__" = some (some (.builtin "type.__getattribute__"))) (h2 : PySem.W.readsIn X.K Y (.type "type") = true)
  (h3 : PySem.W.findCls X.K (.ref Y) (.type "type") "__init__" = some (.val (.builtin "ValueError.__init__"))) (ha : PA X (e :: es) t) (hdb : (x == ("__debug__" : Str)) = false := by decide)
  (hst : starEach (e :: es) X.env = (false, eval e X.env) :: starEach es X.env := by rfl) (hpl : (backTo pos (starEach es X.env)).any (·.1) = false := by rfl)
  (ht : eval (.Call (.Attribute (.Name x p) "__init__" apos) (e :: es) [] pos) X.env = (do
   let ov <- eval (.Name x p) X.env
   standAt apos.atName
   let (f, first) <- holding [ov] (getMethod ov "__init__" pl)
   callWith pos f first (backTo pos (starEach (e :: es) X.env)) (backToKw pos (keywordEach [] X.env))) := by rfl) :
  PE X (.Call (.Attribute (.Name x p) "__init__" apos) (e :: es) [] pos) (tBaseInit X.K t) := by
 intro pins s σ H Q I h
 refine methodCall_KW (pl := pl) (ld_glob I hg hm ?_ hdb) ht
 refine PySem.W.method_cls I.kIn h1 (PySem.W.cls_value I.kIn h2 h3 (by decide +kernel) ?_)
 refine callWith_builtin1 (thn (ha pos pins _ σ H _ (I.tok _) h) fun us s1 ⟨vs, H1, I1, r, a, C, m, ev, hC, hx, q⟩ => ?_) hst hpl
 subst ev
 obtain ⟨cd, hcd, ⟨nm, qn, bs, bm, hdct, sn, sub, ab, col, dd, k0, k1, k2, k3, k5, hCo, T, mN, hN⟩⟩ := xat_of I1.kIn hC
 obtain ⟨sl, tt, he⟩ := XO.get I1.hok hx
 obtain ⟨u1, u2, rfl, r1, r2⟩ : ∃ u1 u2, us = [u1, u2] /\ RelV (.ref a) u1 /\ RelV m u2 := by
  cases r with | cons r1 r2 => cases r2 with | cons r2 r3 => cases r3; exact ⟨_, _, rfl, r1, r2⟩
 obtain rfl : u1 = Value.ref a := r1
 have F := PySem.F.excBase_ValueError
 obtain ⟨hp, g, d, tk, os⟩ := s1
 refine wpAny_call (codeAny_call_builtin F.init.plain F.initEntry (wpAny_check_init_subT F T hCo he rfl ?_))
 wp_walk
 dsimp only
 have g1 := Heap.get?_push_of_some { cls := .type "tuple", data := .seq #[u2] } he
 have g2 := Xc.map_at (i := 0) (x := Value.ref hp.objs.size) g1 rfl
 have I2 := I1.write (x := a) (e := a) (o := XO a C none) (t' := tk) (h' := (hp.push { cls := .type "tuple", data := .seq #[u2] }).update a (Obj.mapFields (·.setIfInBounds 0 (Value.ref hp.objs.size)))) (by rw [hx]; exact True.intro) (.inl rfl)
  (fun b u hb e => (Heap.get?_update_other _ _ (Ne.symm hb)).trans (Heap.get?_push_of_some _ e)) ⟨_, g2⟩ (XO.mk (sl := sl) (t := hp.objs.size) (g2.trans rfl))
 rw [upd_id hx] at I2
 exact ⟨.non, H1, I2, rfl, q⟩
def sFirst (K : PySem.W.Frag) (ta tv : TE) (f : Str) : TS := fun D σ H => tv σ H fun y H1 => ta σ H1 fun x H2 => ∃ a C, x = .ref a /\ H2 a = some (XO a C none) /\ Xc.XC K C /\ PySem.W.takerIn K C f = some none /\
 ∀ d, H2 d = none -> d ≠ a -> D.nx σ (upd (upd H2 a (XO a C (some d))) d (.xd [(f, y)]))
theorem ps_first {f : Str} {value : Expr} {pos' : Pos} (ha : PE X o ta) (hv : PE X value tv) (hs : swapsWith value (some (.Attribute o f pos')) pos.line X.env = pure false) : PS X (.Assign [.Attribute o f pos'] value pos) (sFirst X.K ta tv f) := by
 intro pins s σ H D I h
 refine plainObj_wpAny_Assign_Attribute (thn (hv pins s σ H _ I h) fun u s1 ⟨y, H1, I1, ry, q⟩ => thn (ha pins s1 σ H1 _ I1 q) fun ov s2 ⟨x, H2, I2, rx, a, C, ex, ea, c, n, q2⟩ => ?_) hs
 subst ex
 obtain rfl : ov = Value.ref a := rx
 obtain ⟨sl, tt, he⟩ := XO.get I2.hok ea
 refine Xc.set_first c I2.kIn he n fun h' d tk g1 g2 g3 g4 => ?_
 have hd : H2 d = none := I2.hok.fresh g2
 have hda : d ≠ a := Nat.ne_of_gt (Nat.lt_of_lt_of_le (Heap.lt_size he) g2)
 have hgd : s2.heap.get? d = none := Heap.get?_none_of_le g2
 refine ⟨σ, _, I2.un (h' := h') (t' := tk) ⟨fun b o e n hb _ => ?_, fun b o e n hb _ => ?_, fun b o e n _ => ?_, fun b o e _ => ?_, fun b xs e => ?_, fun b o u e => ?_, fun b pl y' e => ?_⟩ (fun b o e => ?_), q2 d hd hda⟩
 ·exact g4 b o (fun z => by rw [z, ea] at n; cases n) e
 ·exact ⟨o.slots, g4 b o (fun z => by rw [z, ea] at n; cases n) e⟩
 ·rw [upd_ne (fun z => by rw [z, hgd] at e; cases e), upd_ne (fun z => by rw [z, ea] at n; cases n)]; exact n
 ·by_cases z : b = a
  ·rw [z]; exact ⟨_, g1⟩
  ·exact ⟨o, g4 b o z e⟩
 ·rw [upd_ne (ne_of_none e hd), upd_ne (fun z => by rw [z, ea] at e; cases e)]; exact e
 ·rw [upd_ne (ne_of_none e hd), upd_ne (fun z => by rw [z, ea] at e; cases e)]; exact e
 ·rw [upd_ne (ne_of_none e hd), upd_ne (fun z => by rw [z, ea] at e; cases e)]; exact e
 ·by_cases z : b = d
  ·subst z
   rw [upd_same] at e
   cases e
   refine ⟨_, g3, fun g => ?_⟩
   show RelO (([(f, y)] : List (Str × V)).lookup g) (if g = f then some u else none)
   by_cases e : g = f
   ·subst e; rw [if_pos rfl]; simp only [List.lookup, beq_self_eq_true]; exact ry
   ·rw [if_neg e]; simp only [List.lookup, beq_eq_false_iff_ne.mpr e]; trivial
  ·rw [upd_ne z] at e
   by_cases z' : b = a
   ·subst z'
    rw [upd_same] at e
    cases e
    exact XO.mk g1
   ·rw [upd_ne z'] at e
    refine (I2.hok b o e).stay (fun c v hc r => g4 c v ?_ r) (fun c r => ?_) (fun c xs r => ?_) fun c ob y r => ?_
    ·rcases hc with rfl | hc
     ·exact z'
     ·exact fun w => by rw [w, ea] at hc; cases hc
    ·rw [upd_ne (ne_of_none r hd), upd_ne (fun w => by rw [w, ea] at r; cases r)]; exact r
    ·rw [upd_ne (ne_of_none r hd), upd_ne (fun w => by rw [w, ea] at r; cases r)]; exact r
    ·rw [upd_ne (ne_of_none r hd), upd_ne (fun w => by rw [w, ea] at r; cases r)]; exact r
theorem Inv.untrack {pins : List (Addr × Obj)} {σ : St} {H : Hp} {s : Shared} {a : Addr} {od : Option Addr} (I : Inv X pins σ H s) (e : H a = some (XO a C od)) : Inv X pins σ (del H a) s := by
 have no : ∀ b o, H b = some o -> (∀ z, o ≠ XO a C z) -> b ≠ a := fun b o q n z => by rw [z, e] at q; cases q; exact n _ rfl
 refine ⟨I.ok, I.os, I.bare, ⟨I.base.keep, I.base.slot, fun b o q n hx => ?_, I.base.there, fun b xs q => ?_, fun b o u q => ?_, fun b pl y q => ?_⟩, I.loc, I.cell, ?_, fun y c q => ?_, fun p hp => ?_, fun b o q => ?_, I.len⟩
 ·unfold del; split
  ·rfl
  ·exact I.base.free b o q n hx
 ·have := I.base.tups b xs q
  rw [del_ne (no _ _ this fun z => by intro w; cases w)]; exact this
 ·have := I.base.frzs b o u q
  rw [del_ne (no _ _ this fun z => by intro w; cases w)]; exact this
 ·have this := I.base.tbls b pl y q
  rw [del_ne (no _ _ this fun z => by intro w; cases w)]; exact this
 ·unfold del; split
  ·rfl
  ·exact I.free
 ·unfold del; split
  ·rfl
  ·exact I.freeC y c q
 ·obtain ⟨p1, p2, p3⟩ := I.pin p hp
  exact ⟨p1, by unfold del; split; rfl; exact p2, p3⟩
 ·unfold del at q
  split at q
  ·cases q
  ·rename_i hb
   exact (I.hok b o q).stay (fun c v _ r => r) (fun c r => by rw [del_ne (no _ _ r fun z => by intro w; cases w)]; exact r) (fun c xs r => by rw [del_ne (no _ _ r fun z => by intro w; cases w)]; exact r) fun c ob y r => by rw [del_ne (no _ _ r fun z => by intro w; cases w)]; exact r
structure XMk (K : PySem.W.Frag) (C f : Addr) : Prop where
 x : xIn K C = true
 init : ((PySem.W.clsIn K C).bind fun cd => nsIn K cd.ns "__init__") = some (some (.ref f))
 fn : isFn K (.ref f) = true
 kp : keepIn K (.ref C) = true
def sRaise (C : Addr) (sp : Sp) (E : XK) (t : TA) : TS := fun _ σ H => t σ H fun vs H1 => vs.length <= 1000 /\ ∀ a, H1 a = none -> sp (.ref a :: vs) (upd H1 a (XO a C none)) (fun v H2 => v = .non /\ ∃ od, H2 a = some (XO a C od) /\ E (.ref C) od (del H2 a)) E0
theorem ps_raise (M : XMk X.K C f) (F : FnOk X.prog X.w X.K X.mg X.base CX0 k f fd ps sp) (hr : Room (k + 1) X.A) (hg : Gl X x) (hm : X.mg x = some (.ref C)) (hb : Binds X.K fd ps []) (hx : Raises X E)
  (ha : PA X (e :: es) t) (hdb : (x == ("__debug__" : Str)) = false := by decide) (he : starEach (e :: es) X.env = (false, eval e X.env) :: starEach es X.env := by rfl) (hpl : (backTo pos (starEach es X.env)).any (·.1) = false := by rfl) :
  PS X (.Raise (some (.Call (.Name x p) (e :: es) [] pos)) none rpos) (sRaise C sp E t) := by
 intro pins s σ H D I h
 obtain ⟨cd, hcd, ⟨nm, qn, bs, bm, hdct, sn, sub, ab, col, dd, k0, k1, k2, k3, k5, hCo, T, mN, hN⟩⟩ := xat_of I.kIn M.x
 obtain ⟨cd', hcd', hi⟩ := Option.bind_eq_some_iff.mp M.init
 rw [hcd] at hcd'; cases hcd'
 have hb2 : bm.contains (.type "BaseException") = true := T.hasType (by decide +kernel)
 rw [arm_exec_Raise]
 refine wpAny_bind (wpAny_standAt ?_)
 show wpAny _ _ (raiseStmt X.env (some (do let v <- eval (.Call (.Name x p) (e :: es) [] pos) X.env; standAt rpos; pure v)) none) _ _ _
 refine Xc.raise_made (C := C) (N := cd.ns) (nm := nm) (q := qn) (bs := bs) (bm := bm) (hdct := hdct) (sn := sn) (sub := sub) (ab := ab) (col := col) (dd := dd) (k0 := k0) (k1 := k1) (k2 := k2) (k3 := k3) (k5 := k5) (newId := "ValueError.__new__") hb2 hr.hd ?_
 refine wpAny_bind (thn (Q := fun v s1 => ∃ e od sl vs, v = .ref e /\ s1.heap.get? C = some (excClassObj nm qn C cd.ns bs bm hdct sn sub ab col dd k0 k1 k2 k3 k5 "ValueError.__new__") /\ Xc.Exc s1.heap e (.ref C) od sl vs /\ vs[1]? = some .none /\ X.xe (.ref e) s1) ?_ fun v s1 h1 => wpAny_bind (wpAny_standAt (wpAny_pure h1)))
 refine wpAny_Call_Name_kw (ld_glob I hg hm ?_ hdb)
 refine callWith_K (h₀ := X.base) I.ok.mod.kin M.kp (thn (ha pos pins s σ H _ I h) fun us s1 ⟨vs, H1, I1, r, hl, q⟩ => ⟨I1.kIn, ?_⟩) he hpl
 have kC : ∀ {s' : Shared} {H' : Hp} {σ' : St}, Inv X pins σ' H' s' -> s'.heap.get? C = some (excClassObj nm qn C cd.ns bs bm hdct sn sub ab col dd k0 k1 k2 k3 k5 "ValueError.__new__") := fun J => by
  have hK : ∃ o, X.K.lookup C = some o := by
   unfold PySem.W.clsIn at hcd
   split at hcd
   ·rename_i z; exact ⟨_, z⟩
   ·cases hcd
  obtain ⟨o, hK⟩ := hK
  have e1 := I.kIn C o hK
  rw [hCo] at e1; cases e1
  exact J.kIn C _ hK
 obtain ⟨oI, hfI, hfc⟩ : ∃ oI, X.K.lookup f = some oI /\ oI.cls = .type "function" := by
  have z : PySem.W.typeIn X.K (.ref f) = some (.type "function") := beq_iff_eq.mp M.fn
  unfold PySem.W.typeIn at z
  first
   | (obtain ⟨o, a, b⟩ := Option.map_eq_some_iff.mp z; exact ⟨o, a, b⟩)
   | (split at z <;> first | (cases z; done) | (rename_i o _ ; cases z; exact ⟨_, by assumption, rfl⟩))
 have T1 : OwnTail s1.heap veM bm := by
  obtain ⟨cd2, hcd2, ⟨_, _, _, bm2, _, _, _, _, _, _, _, _, _, _, _, hCo2, T2, _⟩⟩ := xat_of I1.kIn M.x
  rw [hcd] at hcd2; cases hcd2
  rw [kC I1] at hCo2
  have : bm = bm2 := by
   have z := Option.some.inj hCo2
   unfold excClassObj at z
   injection z with _ _ z _
   injection z with z
   injection z with _ _ z
   injection z
  rw [this]; exact T2
 obtain ⟨mN1, hN1⟩ : ∃ mN, s1.heap.Ns cd.ns mN := by
  obtain ⟨cd2, hcd2, ⟨_, _, _, bm2, _, _, _, _, _, _, _, _, _, _, _, hCo2, T2, z⟩⟩ := xat_of I1.kIn M.x
  rw [hcd] at hcd2; cases hcd2
  exact z
 have hi1 := ns_of I1.kIn hN1 hi
 have hC1 := kC I1
 have hf1 := I1.kIn f _ hfI
 obtain ⟨hp, g, d, tk, os⟩ := s1
 refine Xc.call_init PySem.F.excBase_ValueError T1 hC1 hN1 hi1 hf1 hfc (fun h' a hm hs => ?_) (by rw [List.nil_append, <- r.length, sizeLine_eq]; omega)
 obtain ⟨tt, ht, _, _⟩ := hm.there
 have I2 := I1.laid (a := a) (o := XO a C none) (h' := h') (t' := tk) hm.keeps hs (XO.mk ht)
 have hq := q a (I1.hok.fresh hs)
 have r2 : Vals (V.ref a :: vs) (Value.ref a :: us) := .cons rfl r
 have hl2 : ((Value.ref a :: us) ++ []).length = ps.length := by
  have e := r2.length
  rw [F.len _ _ _ _ hq] at e
  rw [List.append_nil]
  exact e.symm
 have bb := hb _ (Value.ref a :: us) I2.kIn hl2
 rw [List.append_nil] at bb
 refine wpAny_call (codeAny_mono (F.run _ X.stack _ _ ⟨Value.ref a :: us, []⟩ (Value.ref a :: us) (V.ref a :: vs) _ _ (hr.make C us []) (I2.env0.make C us []) bb r2 hq) fun r s' hq' => ?_)
 cases r with
 | error e => exact False.elim hq'
 | ok fl =>
  cases fl with
  | ret u =>
   obtain ⟨v, H', I3, rv, ev, od, hX, hE⟩ := I2.after hq'
   subst ev
   obtain ⟨sl, t2, g2⟩ := XO.get I3.hok hX
   refine ⟨rv, a, od, sl, _, rfl, kC I3, ⟨g2, by simp⟩, rfl, ?_⟩
   refine hx pins σ (del H' a) s' a (.ref C) od sl _ (I3.untrack hX) ⟨⟨g2, by simp⟩, rfl, del_self, Nat.le_trans I1.sz hs, fun y c e z => ?_, .inl rfl⟩ hE
   obtain ⟨v, o, y, _⟩ := I1.cell _ c e
   rw [z] at y
   exact absurd (Heap.lt_size y) (Nat.not_lt.mpr hs)
  | next => exact False.elim hq'
  | brk => exact False.elim hq'
  | cont => exact False.elim hq'
end
end L2
namespace Xc
open PySem
section
variable {prog : Program} {w : World} {A : Around} {E : Value -> Shared -> Prop} {s : Shared}
end
end Xc
namespace L2
open PySem PySem.Spec PyProof.Rows
def XH (a C : Addr) (od : Option Addr) : HO := .ext fun h => ∃ sl vs, Xc.Exc h a (.ref C) od sl vs /\ vs[2]? = some .none
theorem XH.mk {P : Program} {w : World} {H : Hp} {h : Heap} {a C : Addr} {od : Option Addr} {sl : Array (Option Value)} {vs : Array Value} (e : Xc.Exc h a (.ref C) od sl vs) (h2 : vs[2]? = some .none) :
  ObjOk P w H h a (XH a C od) := ⟨⟨sl, vs, e, h2⟩, ⟨_, e.obj⟩, fun h1 h2 ⟨sl', vs', e', z⟩ k => ⟨sl', vs', ⟨k _ e'.obj, e'.big⟩, z⟩⟩
section
variable {X : Cx} {K : PySem.W.Frag}
theorem ObjOk.is {P : Program} {w : World} {H : Hp} {h : Heap} {a : Addr} {o : HO} (x : ObjOk P w H h a o) : ∃ u, h.get? a = some u := by
 cases o with
 | lst xs => obtain ⟨_, _, _, _, e⟩ := x; exact ⟨_, e⟩
 | tup xs => obtain ⟨_, _, _, o, e, _⟩ := x; exact ⟨_, e⟩
 | dK kvs => obtain ⟨_, _, _, _, o, _, _, e, _⟩ := x; exact ⟨_, e⟩
 | dT kvs => obtain ⟨_, _, _, _, o, _, _, e, _⟩ := x; exact ⟨_, e⟩
 | set S n => obtain ⟨o, _, _, _, e, _⟩ := x; exact ⟨_, e⟩
 | ins C dx fs => obtain ⟨_, _, _, e, _⟩ := x; exact ⟨_, e⟩
 | own y => exact x
 | xd fs => obtain ⟨_, ⟨_, _, _, e, _⟩, _⟩ := x; exact ⟨_, e⟩
 | rng lo hi => obtain ⟨_, _, _, e⟩ := x; exact ⟨_, e⟩
 | frz ob u => obtain ⟨e, _⟩ := x; exact ⟨_, e⟩
 | tbl pl q => obtain ⟨_, e, _⟩ := x; exact ⟨_, e⟩
 | met f y => exact ⟨_, (show h.get? a = some _ from x)⟩
 | ext φ => obtain ⟨_, e, _⟩ := x; exact e
end
end L2
namespace Xc
open PySem PySem.W PySem.Calls PyProof.Rows
section
variable {prog : Program} {w : World} {A : Around} {E : Value -> Shared -> Prop} {s : Shared} {K : Frag} {x C Y : Addr} {ox : Obj} {od : Option Obj}
theorem looks_isType {M : Model} {h : Heap} (X : K.In h) (c : XC K Y) : Looks M h (isType (.ref Y)) true := by
 obtain ⟨cdD, hcD, _⟩ := any_some c.hd
 unfold clsIn at hcD
 split at hcD
 ·rename_i c' d' cd' sl' ho
  intro A' Q' E' s' k q
  unfold isType loadHead
  exact wpAny_bind (wpAny_loadPart (k _ _ (X _ _ ho)) (wpAny_pure q))
 ·cases hcD
theorem matches_own {M : Model} {b : Bool} {Q : Bool -> Shared -> Prop} (X : K.In s.heap) (I : InstAt s.heap x ox C od) (hm : mroIn K C (.ref Y) = some b) (c : XC K Y) (t : typeIn K (.ref Y) = some (.type "type")) (h : Q b s) :
  wpAny M A (excMatches (.ref x) (.ref Y)) Q E s := by
 have L1 : Looks M s.heap (isInstance (.ref Y) (.type "tuple")) false := (looks_typeIn X t).andThen (Looks.of_pure tc_notTuple)
 have L2 : Looks M s.heap (isExcClass (.ref Y)) true := (looks_isType X c).andThen (by rw [if_pos rfl]; exact looks_mroIn X (c.has (by decide +kernel)))
 unfold excMatches
 refine wpAny_bind (L1.here ?_)
 rw [if_neg Bool.false_ne_true]
 refine wpAny_bind (wpAny_pure ?_)
 simp only [List.forIn_cons, List.forIn_nil]
 refine wpAny_bind (wpAny_bind (wpAny_bind (L2.here ?_)))
 simp only [Bool.not_true, Bool.false_eq_true, if_false]
 refine wpAny_pure (wpAny_pure ?_)
 refine wpAny_bind (I.type.here (wpAny_bind (wpAny_bind (wpAny_bind ((looks_mroIn X hm).here ?_)))))
 cases b with
 | true => rw [if_pos rfl]; exact wpAny_pure (wpAny_pure (wpAny_pure h))
 | false => rw [if_neg Bool.false_ne_true]; exact wpAny_pure (wpAny_pure (wpAny_pure h))
end
end Xc
namespace L2
open PySem PySem.Spec PyProof.Rows
section
variable {X : Cx} {K : PySem.W.Frag} {pins : List (Addr × Obj)} {σ : St} {H : Hp} {s : Shared} {ea : Addr}
abbrev Cx.held (X : Cx) (ea : Addr) : Cx := { X with A := X.A.mark (some (.ref ea)), calm := false, xe := fun _ _ => False }
theorem Cx.Ok.held (ok : X.Ok) : (X.held ea).Ok :=
 ⟨ok.mod, ok.kind, ok.glob, ok.blt, ok.above, ok.inj, ok.has, ok.cab, (fun z => by cases z), ok.frames, ok.stk, ok.exf, ok.bs, ok.bsz, ok.noex, ok.exfs, ok.funs, ok.frf⟩
theorem Inv.held (I : Inv X pins σ H s) : Inv (X.held ea) pins σ H s := ⟨I.ok.held, I.os, I.bare, I.base, I.loc, I.cell, I.free, I.freeC, I.pin, I.hok, I.len⟩
theorem Inv.unheld (ok : X.Ok) (I : Inv (X.held ea) pins σ H s) : Inv X pins σ H s := ⟨ok, I.os, I.bare, I.base, I.loc, I.cell, I.free, I.freeC, I.pin, I.hok, I.len⟩
theorem Inv.track {C : Addr} {od : Option Addr} {sl : Array (Option Value)} {vs : Array Value} (I : Inv X pins σ H s) (ex : Xc.Exc s.heap ea (.ref C) od sl vs) (h2 : vs[2]? = some .none) (n1 : H ea = none) (n2 : X.s₀.heap.objs.size <= ea) (n3 : ea ≠ X.env.locals)
  (n4 : ∀ x c, X.env.cells.lookup x = some c -> c ≠ ea) (n5 : ∀ p ∈ X.pn ++ pins, p.1 ≠ ea) : Inv X pins σ (upd H ea (XH ea C od)) s := by
 refine ⟨I.ok, I.os, I.bare, ⟨I.base.keep, I.base.slot, fun b o q n hx => ?_, I.base.there, fun b xs q => upd_get (I.base.tups b xs q) n1, fun b o u q => upd_get (I.base.frzs b o u q) n1, fun b pl y q => upd_get (I.base.tbls b pl y q) n1⟩, I.loc, I.cell, by rw [upd_ne n3.symm]; exact I.free, fun y c q => by rw [upd_ne (n4 y c q)]; exact I.freeC y c q, fun p hp => ?_, fun b o q => ?_, I.len⟩
 ·rw [upd_ne (fun z => by rw [z, Heap.get?_none_of_le n2] at q; cases q)]
  exact I.base.free b o q n hx
 ·obtain ⟨p1, p2, p3⟩ := I.pin p hp
  exact ⟨p1, by rw [upd_ne (n5 p hp)]; exact p2, p3⟩
 ·by_cases hb : b = ea
  ·subst hb
   rw [upd_same] at q
   cases q
   exact XH.mk ex h2
  ·rw [upd_ne hb] at q
   exact (I.hok b o q).stay (fun c v _ r => r) (fun c r => upd_get r n1) (fun c xs r => upd_get r n1) fun c ob y r => upd_get r n1
end
end L2
namespace L2
open PySem PySem.Spec PyProof.Rows
def XFrom (X : Cx) (pins : List (Addr × Obj)) (σ : St) (E : XK) : Value -> Shared -> Prop := fun e s' => ∃ H1 s1, Inv X pins σ H1 s1 /\ CXe X.prog X.w X.stack H1 s1 E e s'
abbrev TX := St -> Hp -> VK -> XK -> Prop
abbrev TSX := Ends -> St -> Hp -> XK -> Prop
def PX (X : Cx) (e : Expr) (t : TX) : Prop :=
 ∀ (pins : List (Addr × Obj)) (s : Shared) (σ : St) (H : Hp) (Q : VK) (E : XK), Inv X pins σ H s -> t σ H Q E -> wpAny (model X.prog X.w) X.A (eval e X.env) (EP X pins σ Q) (XFrom X pins σ E) s
def PSX (X : Cx) (st : Stmt) (t : TSX) : Prop :=
 ∀ (pins : List (Addr × Obj)) (s : Shared) (σ : St) (H : Hp) (D : Ends) (E : XK), Inv X pins σ H s -> t D σ H E -> wpAny (model X.prog X.w) X.A (exec st X.env) (SP X pins D) (XFrom X pins σ E) s
def tCallX (sp : Sp) (t : TA) : TX := fun σ H Q E => t σ H fun vs H1 => sp vs H1 Q E
section
variable {X : Cx} {K : PySem.W.Frag} {pins : List (Addr × Obj)} {σ : St} {H : Hp} {s : Shared} {k : Nat} {x : Str} {ps : List Str} {sp : Sp} {p pos : Pos} {e : Expr} {es : List Expr} {t : TA} {tx : TX}
theorem runX {f : Addr} {fd : FuncData} {Q : VK} {E : XK} {us : List Value} {vs : List V} (F : FnOk X.prog X.w X.K X.mg X.base (CXe X.prog X.w) k f fd ps sp) (hr : Room k X.A) (hb : Binds X.K fd ps []) (I : Inv X pins σ H s) (r : Vals vs us) (h : sp vs H Q E) :
  wpAny (model X.prog X.w) X.A (call (.ref f) us) (EP X pins σ Q) (XFrom X pins σ E) s := by
 have hl : (us ++ []).length = ps.length := by rw [List.append_nil, <- r.length]; exact F.len _ _ _ _ h
 have hb' := hb s us I.kIn hl
 rw [List.append_nil] at hb'
 refine wpAny_call (codeAny_mono (F.run X.A X.stack s H ⟨us, []⟩ us vs Q E hr I.env0 hb' r h) fun r s' hq => ?_)
 cases r with
 | error e => exact ⟨H, s, I, hq⟩
 | ok fl =>
  cases fl with
  | ret u => exact I.after hq
  | next => exact False.elim hq
  | brk => exact False.elim hq
  | cont => exact False.elim hq
theorem px_call (c : Ctr X.prog X.w X.K X.mg X.base (CXe X.prog X.w) k x ps sp) (hr : Room k X.A) (hg : Gl X x) (ha : PA X.nox (e :: es) t) (hdb : (x == ("__debug__" : Str)) = false := by decide)
  (he : starEach (e :: es) X.env = (false, eval e X.env) :: starEach es X.env := by rfl) (hpl : (backTo pos (starEach es X.env)).any (·.1) = false := by rfl) : PX X (.Call (.Name x p) (e :: es) [] pos) (tCallX sp t) := by
 intro pins s σ H Q E I h
 obtain ⟨f, fd, F, hm, hk, hb⟩ := c.ex
 refine wpAny_Call_Name_kw (ld_glob I hg hm ?_ hdb)
 refine callWith_K (h₀ := X.base) I.ok.mod.kin hk (wpAny_mono (ha pos pins s σ H _ (I.wish _) h) (fun us s1 ⟨vs, H1, I1, r, q⟩ => ⟨I1.kIn, ?_⟩) fun _ _ z => False.elim z) he hpl
 exact runX F hr hb I1.unwish r q
def sExprX (t : TX) : TSX := fun D σ H E => t σ H (fun _ H' => D.nx σ H') E
theorem psx_expr (he : PX X e tx) (hs : swapsWith e none pos.line X.env = pure false := by rfl) : PSX X (.Expr e pos) (sExprX tx) := by
 intro pins s σ H D E I h
 exact wpAny_Expr_any (thn (he pins s σ H _ E I h) fun v s1 ⟨x, H1, I1, r1, q1⟩ => ⟨σ, H1, I1, q1⟩) I.quiet hs
theorem caught {M : Model} {A : Around} {XE : Value -> Shared -> Prop} {R : Unit -> Shared -> Prop} {E : XK} {ev : Value} {s' : Shared} (h : XFrom X pins σ E ev s') (hfr : A.frames = some X.stack) (hs : X.stack = X.env :: X.outer) (hl : X.env.frame = some X.env.locals)
  (k : ∀ (ea T : Addr) (cls : Value) (od : Option Addr) (sl : Array (Option Value)) (vs : Array Value) (H' : Hp) (s3 : Shared), ev = .ref ea -> Inv X pins σ H' s3 -> Xc.Exc s3.heap ea cls od sl vs -> vs[1]? = some (.ref T) -> T ≠ ea -> vs[2]? = some .none -> Xc.Tb s3.heap T .none ->
   FpOk X pins H' ea -> FpOk X pins H' T -> X.s₀.heap.objs.size <= ea -> E cls od H' -> R () s3) :
  wpAny M A (noteFrame ev X.env) (fun _ s2 => wpAny M A (setFlight ev none) R XE s2) XE s' := by
 obtain ⟨H1, s1, I, ea, T, cls, od, sl, vs, H', rfl, ho, hb, hu, hok, n1, n2, m1, m2, ex, v1, ne, v2, tb, q⟩ := h
 have I' := I.call' (ch := []) ho hu hok hb (fun _ z => nomatch z)
 have hst : s'.heap.FunFrames X.base (X.env :: X.outer) := by rw [<- hs]; exact I'.stack
 have sfree : ∀ b ∈ (X.env :: X.outer).filterMap (·.frame), H' b = none := by
  have z := I'.stkFree
  rw [hs] at z
  exact z
 have hfs : frs X.stack = (X.env :: X.outer).filterMap (·.frame) := by rw [hs]; rfl
 have new1 : s1.heap.get? ea = none := Heap.get?_none_of_le m1
 have newT : ∀ b, vs[1]? = some (.ref b) -> H' b = none /\ s1.heap.get? b = none := fun b e => by
  rw [v1] at e; cases e
  exact ⟨n2, Heap.get?_none_of_le m2⟩
 refine Xc.note_step (base := X.base) (hfr.trans (by rw [hs])) hst hl ex (.inr ⟨T, v1, ne, tb⟩) fun h1 T1 k1 k2 k3 k4 k5 k6 => ?_
 have hv1 : (vs.setIfInBounds 1 (.ref T1))[1]? = some (.ref T1) := by simp [Nat.lt_of_succ_lt ex.big]
 have hv2 : (vs.setIfInBounds 1 (.ref T1))[2]? = some .none := by rw [Array.getElem?_setIfInBounds_ne (by decide)]; exact v2
 have hTe : T1 ≠ ea := Nat.ne_of_gt (Nat.lt_of_lt_of_le (Heap.lt_size ex.obj) k4)
 refine Xc.land k5 hv1 hTe k6 fun h2 g1 g2 => ?_
 have ltT : ∀ b o, s'.heap.get? b = some o -> b ≠ T1 := fun b o e => Nat.ne_of_lt (Nat.lt_of_lt_of_le (Heap.lt_size e) k4)
 have lT1 : s1.heap.objs.size <= T1 := by
  obtain ⟨oT, _, e, _⟩ := tb.ex
  exact Nat.le_trans m2 (Nat.le_trans (Nat.le_of_lt (Heap.lt_size e)) k4)
 have slots : ∀ b o o', s1.heap.get? b = some o -> s'.heap.get? b = some o' -> ∃ k, h2.get? b = some { o' with slots := k } := fun b o o' e0 e => by
  obtain ⟨k, z⟩ := k2 b o' (fun z => by rw [z, new1] at e0; cases e0) (fun z => by rw [(newT b z).2] at e0; cases e0) e
  exact ⟨k, g1 b _ (ltT b o' e) z⟩
 have hok2 : HOk X.prog X.w H' h2 := hok_kept hok fun b o u hu e => g1 b o (ltT b o e) (k1 b o (fun z => by rw [sfree b z] at hu; cases hu) (fun z => by rw [z, n1] at hu; cases hu) (fun z => by rw [(newT b z).1] at hu; cases hu) e)
 have u2 : Un (frs X.stack) [] H1 H' s1.heap h2 := by
  refine ⟨fun b o e n hb hx => ?_, fun b o e n hb hx => ?_, hu.free, fun b o e hx => ?_, hu.tups, hu.frzs, hu.tbls⟩
  ·have e1 := hu.keep b o e n hb hx
   exact g1 b o (ltT b o e1) (k1 b o (by rw [<- hfs]; exact hb) (fun z => by rw [z, new1] at e; cases e) (fun z => by rw [(newT b z).2] at e; cases e) e1)
  ·obtain ⟨k0, e0⟩ := hu.slot b o e n hb hx
   obtain ⟨k, z⟩ := slots b o _ e e0
   exact ⟨k, z⟩
  ·obtain ⟨o', e1⟩ := hu.there b o e hx
   obtain ⟨k, z⟩ := slots b o o' e e1
   exact ⟨_, z⟩
 have I2 : Inv X pins σ H' { s' with heap := h2 } := I.call' (s' := { s' with heap := h2 }) (ch := []) ho u2 hok2 hb (fun _ z => nomatch z)
 exact k ea T1 cls od sl _ H' _ rfl I2 ⟨g1 _ _ hTe.symm k5.obj, k5.big⟩ hv1 hTe hv2 g2 (I.fpOk m1 n1) (I.fpOk lT1 (I'.hok.fresh k4)) (Nat.le_trans I.sz m1) q
end
end L2
namespace L2
open PySem PySem.Spec PyProof.Rows
section
variable {X : Cx} {pos : Pos}
def tPar3 (i j k : Nat) (ta : TA) : TS := fun D σ H => ta σ H fun vs H1 => ∃ v w u, vs = [v, w, u] /\ D.nx (((σ.set i (some v)).set j (some w)).set k (some u)) H1
theorem ps_par3 {i j k : Nat} {x y z : Str} {a b c : Expr} {ta : TA} {px py pz pt : Pos} {kt k2 pt2} (hc : X.calm = true) (hN : X.N.Nodup) (hi : X.N[i]? = some x) (hj : X.N[j]? = some y) (hk : X.N[k]? = some z) (hij : i ≠ j) (hik : i ≠ k) (hjk : j ≠ k)
  (hx : X.env.scope.names.lookup x = some .local) (hy : X.env.scope.names.lookup y = some .local) (hz : X.env.scope.names.lookup z = some .local) (ha : PA X [a, b, c] ta)
  (hw : swappedStores [.Tuple [.Name x px, .Name y py, .Name z pz] kt pt] (.Tuple [a, b, c] k2 pt2) X.env = pure (some [x, y, z]))
  (hs : swapsWithSole [.Tuple [.Name x px, .Name y py, .Name z pz] kt pt] (.Tuple [a, b, c] k2 pt2) pos.line X.env = pure false := by rfl) :
  PS X (.Assign [.Tuple [.Name x px, .Name y py, .Name z pz] kt pt] (.Tuple [a, b, c] k2 pt2) pos) (tPar3 i j k ta) := by
 intro pins s σ H D I h
 rw [exec_Assign_arm]
 refine wpAny_bind (wpAny_standAt ?_)
 rw [hs]
 refine wpAny_bind (wpAny_pure ?_)
 rw [if_neg (by decide)]
 refine wpAny_bind (Tuple_ (thn (ha _ pins s σ H _ I h) fun us s1 ⟨vs, H1, I1, r1, q1⟩ => ?_))
 obtain ⟨v, w, u, e1, q1⟩ := q1
 subst e1
 obtain ⟨u1, u2, u3, rfl, rv, rw', ru⟩ : ∃ u1 u2 u3, us = [u1, u2, u3] /\ RelV v u1 /\ RelV w u2 /\ RelV u u3 := by
  cases r1 with
  | cons p q =>
   cases q with
   | cons p' q' =>
    cases q' with
    | cons p'' q'' =>
     cases q''
     exact ⟨_, _, _, rfl, p, p', p''⟩
 refine wpAny_newObj_type ?_ (by show 3 <= sizeLine; decide)
 have I2 : Inv X pins σ H1 { s1 with heap := s1.heap.push { cls := .type "tuple", data := .seq [u1, u2, u3].toArray } } := I1.kept (t' := s1.toks) fun b o e => Heap.get?_push_of_some _ e
 rw [hw]
 refine wpAny_bind (wpAny_pure ?_)
 show wpAny (model X.prog X.w) X.A (do rule "assign.swapped-stores"; let items <- unpackItems (.ref s1.heap.objs.size) 3 none; assignInOrder [fun v => bindName X.env z v, fun v => bindName X.env y v, fun v => bindName X.env x v] items.reverse; pure Flow.next) _ _ _
 refine wpAny_bind (wpAny_rule (wpAny_bind (unpackItems_tuple (items := #[u1, u2, u3]) (I.ok.hd hc) (IsTup.new s1.heap _) fun h' hx' => ?_)))
 have I3 := I2.kept (h' := h') (t' := s1.toks) fun b o e => hx' b o (Nat.ne_of_lt (Heap.lt_size e)) e
 show wpAny _ _ (assignInOrder [fun v => bindName X.env z v, fun v => bindName X.env y v, fun v => bindName X.env x v] [u3, u2, u1] >>= fun _ => pure Flow.next) _ _ _
 refine wpAny_bind (assignInOrder_cons (wpAny_bindName (store_ok I3 hN hk (.inl hz) ru (fun s2 I4 => ?_) (.inr hz))))
 refine assignInOrder_cons (wpAny_bindName (store_ok I4 hN hj (.inl hy) rw' (fun s3 I5 => ?_) (.inr hy)))
 refine assignInOrder_cons (wpAny_bindName (store_ok I5 hN hi (.inl hx) rv (fun s4 I6 => assignInOrder_nil (wpAny_pure ?_)) (.inr hx)))
 rw [List.set_comm _ _ (Ne.symm hjk), List.set_comm _ _ (Ne.symm hik), List.set_comm _ _ (Ne.symm hij)] at I6
 exact ⟨_, H1, I6, q1⟩
end
end L2
namespace L2
open PySem PySem.Spec PyProof.Rows
structure FnT (K : PySem.W.Frag) (mg : Str -> Option Value) (x : Str) (st : Stmt) (ps : List Str) : Prop where
 ex : ∃ f fd, Fun K x x st f fd /\ mg x = some (.ref f) /\ Binds K fd ps []
structure MtT (K : PySem.W.Frag) (C : Addr) (m qual : Str) (st : Stmt) (ps : List Str) : Prop where
 ex : ∃ f fd, Fun K m qual st f fd /\ Meth K C m f /\ Binds K fd ps []
structure InT (K : PySem.W.Frag) (C : Addr) (qual : Str) (st : Stmt) (ps : List Str) : Prop where
 ex : ∃ f fd, Fun K "__init__" qual st f fd /\ Mk K C f /\ Binds K fd ps []
section
variable {P : Program} {w : World} {K : PySem.W.Frag} {mg : Str -> Option Value} {base : Heap} {CX : CXT} {k : Nat} {x m qual : Str} {st : Stmt} {ps : List Str} {sp : Sp} {C : Addr}
theorem ctr_of (F : FnT K mg x st ps) (h : ∀ f fd, Fun K x x st f fd -> FnOk P w K mg base CX k f fd ps sp) : Ctr P w K mg base CX k x ps sp := by
 obtain ⟨f, fd, F, e, b⟩ := F.ex
 exact ⟨⟨f, fd, h f fd F, e, F.kp, b⟩⟩
theorem ctrM_of (cl : Cls K C) (F : MtT K C m qual st ps) (h : ∀ f fd, Fun K m qual st f fd -> FnOk P w K mg base CX k f fd ps sp) : CtrM P w K mg base CX k C m ps sp := by
 obtain ⟨f, fd, F, e, b⟩ := F.ex
 exact ⟨cl, ⟨f, fd, h f fd F, e, b⟩⟩
theorem ctrC_of (mgC : mg x = some (.ref C)) (F : InT K C qual st ps) (h : ∀ f fd, Fun K "__init__" qual st f fd -> FnOk P w K mg base CX k f fd ps sp) : CtrC P w K mg base CX k x C ps sp := by
 obtain ⟨f, fd, F, e, b⟩ := F.ex
 exact ⟨mgC, ⟨f, fd, h f fd F, e, b⟩⟩
end
theorem kit_same {K : PySem.W.Frag} {t : Value} : kitOne K t t = some true := by
 unfold kitOne
 rw [if_pos (beq_self_eq_true t)]
theorem kit_int_bool {K : PySem.W.Frag} : kitOne K (.type "int") (.type "bool") = some false := by first | rfl | kernel_rfl
theorem b_isinstance : bootBuiltins ("isinstance" : Str) = some (.builtin "isinstance") := by decide +kernel
theorem b_sorted : bootBuiltins ("sorted" : Str) = some (.builtin "sorted") := by decide +kernel
theorem b_any : bootBuiltins ("any" : Str) = some (.builtin "any") := by decide +kernel
theorem b_all : bootBuiltins ("all" : Str) = some (.builtin "all") := by decide +kernel
theorem b_sum : bootBuiltins ("sum" : Str) = some (.builtin "sum") := by decide +kernel
theorem b_len : bootBuiltins ("len" : Str) = some (.builtin "len") := by decide +kernel
theorem b_max : bootBuiltins ("max" : Str) = some (.builtin "max") := by decide +kernel
theorem b_int : bootBuiltins ("int" : Str) = some (.type "int") := by decide +kernel
theorem b_list : bootBuiltins ("list" : Str) = some (.type "list") := by decide +kernel
theorem b_tuple : bootBuiltins ("tuple" : Str) = some (.type "tuple") := by decide +kernel
theorem b_str : bootBuiltins ("str" : Str) = some (.type "str") := by decide +kernel
theorem b_bool : bootBuiltins ("bool" : Str) = some (.type "bool") := by decide +kernel
end L2
namespace L2
open PySem PySem.Spec PyProof.Rows
structure BaseInit (K : PySem.W.Frag) (Y : Addr) : Prop where
 h1 : PySem.W.specialIn K (.ref Y) "__getattribute__" = some (some (.builtin "type.__getattribute__"))
 h2 : PySem.W.readsIn K Y (.type "type") = true
 h3 : PySem.W.findCls K (.ref Y) (.type "type") "__init__" = some (.val (.builtin "ValueError.__init__"))
structure XiT (K : PySem.W.Frag) (C : Addr) (qual : Str) (st : Stmt) (ps : List Str) : Prop where
 ex : ∃ f fd, Fun K "__init__" qual st f fd /\ XMk K C f /\ Binds K fd ps []
structure CtrX (P : Program) (w : World) (K : PySem.W.Frag) (mg : Str -> Option Value) (base : Heap) (k : Nat) (x : Str) (C : Addr) (ps : List Str) (sp : Sp) : Prop where
 at_ : mg x = some (.ref C)
 ex : ∃ f fd, FnOk P w K mg base CX0 k f fd ps sp /\ XMk K C f /\ Binds K fd ps []
theorem ctrX_of {P : Program} {w : World} {K : PySem.W.Frag} {mg : Str -> Option Value} {base : Heap} {k : Nat} {x qual : Str} {st : Stmt} {ps : List Str} {sp : Sp} {C : Addr} (mgC : mg x = some (.ref C)) (F : XiT K C qual st ps)
  (h : ∀ f fd, Fun K "__init__" qual st f fd -> FnOk P w K mg base CX0 k f fd ps sp) : CtrX P w K mg base k x C ps sp := by
 obtain ⟨f, fd, F, e, b⟩ := F.ex
 exact ⟨mgC, ⟨f, fd, h f fd F, e, b⟩⟩
section
variable {X : Cx} {K : PySem.W.Frag} {k : Nat} {C : Addr} {ps : List Str} {sp : Sp} {E : XK} {x : Str} {p pos apos rpos : Pos} {e o : Expr} {es : List Expr} {ta tv : TE} {t : TA}
theorem ps_raiseC (c : CtrX X.prog X.w X.K X.mg X.base k x C ps sp) (hr : Room (k + 1) X.A) (hg : Gl X x) (hx : Raises X E)
  (ha : PA X (e :: es) t) (hdb : (x == ("__debug__" : Str)) = false := by decide) (he : starEach (e :: es) X.env = (false, eval e X.env) :: starEach es X.env := by rfl) (hpl : (backTo pos (starEach es X.env)).any (·.1) = false := by rfl) :
  PS X (.Raise (some (.Call (.Name x p) (e :: es) [] pos)) none rpos) (sRaise C sp E t) := by
 obtain ⟨f, fd, F, hm, hb⟩ := c.ex
 exact ps_raise hm F hr hg c.at_ hb hx ha hdb he hpl
theorem pe_baseInitK {Y : Addr} {pl : Sem Bool} (hK : X.K = K) (hg : Gl X x) (hm : X.mg x = some (.ref Y)) (b : BaseInit K Y) (ha : PA X (e :: es) t) (hdb : (x == ("__debug__" : Str)) = false := by decide)
  (hst : starEach (e :: es) X.env = (false, eval e X.env) :: starEach es X.env := by rfl) (hpl : (backTo pos (starEach es X.env)).any (·.1) = false := by rfl)
  (ht : eval (.Call (.Attribute (.Name x p) "__init__" apos) (e :: es) [] pos) X.env = (do
   let ov <- eval (.Name x p) X.env
   standAt apos.atName
   let (f, first) <- holding [ov] (getMethod ov "__init__" pl)
   callWith pos f first (backTo pos (starEach (e :: es) X.env)) (backToKw pos (keywordEach [] X.env))) := by rfl) :
  PE X (.Call (.Attribute (.Name x p) "__init__" apos) (e :: es) [] pos) (tBaseInit K t) := by
 subst hK
 exact pe_baseInit hg hm b.h1 b.h2 b.h3 ha hdb hst hpl ht
theorem ps_firstK {f : Str} {value : Expr} {pos' : Pos} (hK : X.K = K) (ha : PE X o ta) (hv : PE X value tv) (hs : swapsWith value (some (.Attribute o f pos')) pos.line X.env = pure false) : PS X (.Assign [.Attribute o f pos'] value pos) (sFirst K ta tv f) := by
 subst hK
 exact ps_first ha hv hs
end
end L2
namespace Yd
structure St where
 tr : List (List Int)
 left : List Int
 came : Nat
abbrev Mv := Bool × Nat
def step (T : List Int) (bl : Bool) (s : St) (m : Mv) : Option St :=
 if m.1 = true then
  match T[s.came]? with
  | some x => some ⟨s.tr.set m.2 (s.tr.getD m.2 [] ++ [x]), s.left, s.came + 1⟩
  | none => none
 else
  if bl = true then
   match (s.tr.getD m.2 []).getLast? with
   | some x => some ⟨s.tr.set m.2 (s.tr.getD m.2 []).dropLast, s.left ++ [x], s.came⟩
   | none => none
  else
   match s.tr.getD m.2 [] with
   | x :: r => some ⟨s.tr.set m.2 r, s.left ++ [x], s.came⟩
   | [] => none
def init (many : Nat) : St := ⟨List.replicate many [], [], 0⟩
def steps (T : List Int) (bl : Bool) : St -> List Mv -> Option St
 | s, [] => some s
 | s, m :: r => (step T bl s m).bind fun s' => steps T bl s' r
theorem steps_snoc (T : List Int) (bl : Bool) : ∀ (s : St) (ms : List Mv) (m : Mv), steps T bl s (ms ++ [m]) = (steps T bl s ms).bind fun s' => step T bl s' m
 | s, [], m => by
  show (step T bl s m).bind (fun s' => some s') = step T bl s m
  cases step T bl s m <;> rfl
 | s, x :: r, m => by
  show (step T bl s x).bind (fun s' => steps T bl s' (r ++ [m])) = ((step T bl s x).bind fun s' => steps T bl s' r).bind fun s' => step T bl s' m
  cases e : step T bl s x with
  | none => rfl
  | some s' => exact steps_snoc T bl s' r m
theorem step_len {T : List Int} {bl : Bool} {s s' : St} {m : Mv} (h : step T bl s m = some s') : s'.tr.length = s.tr.length := by
 unfold step at h
 split at h
 ·split at h
  ·cases h; simp
  ·cases h
 ·split at h
  ·split at h
   ·cases h; simp
   ·cases h
  ·split at h
   ·cases h; simp
   ·cases h
theorem steps_len {T : List Int} {bl : Bool} : ∀ {s s' : St} {ms : List Mv}, steps T bl s ms = some s' -> s'.tr.length = s.tr.length
 | s, s', [], h => by
  have e : s = s' := by simpa [steps] using h
  rw [e]
 | s, s', x :: r, h => by
  have h1' : (step T bl s x).bind (fun s'' => steps T bl s'' r) = some s' := h
  cases e : step T bl s x with
  | none => rw [e] at h1'; cases h1'
  | some s1 =>
   rw [e] at h1'
   rw [steps_len h1', step_len e]
theorem step_came {T : List Int} {bl : Bool} {s s' : St} {m : Mv} (h : step T bl s m = some s') (hc : s.came <= T.length) : s'.came <= T.length := by
 unfold step at h
 split at h
 ·split at h
  ·rename_i x e
   cases h
   have := (List.getElem?_eq_some_iff.mp e).1
   show s.came + 1 <= T.length
   omega
  ·cases h
 ·split at h
  ·split at h
   ·cases h; exact hc
   ·cases h
  ·split at h
   ·cases h; exact hc
   ·cases h
theorem steps_came {T : List Int} {bl : Bool} : ∀ {s s' : St} {ms : List Mv}, steps T bl s ms = some s' -> s.came <= T.length -> s'.came <= T.length
 | s, s', [], h, hc => by
  have e : s = s' := by simpa [steps] using h
  rw [<- e]
  exact hc
 | s, s', x :: r, h, hc => by
  have h1' : (step T bl s x).bind (fun s'' => steps T bl s'' r) = some s' := h
  cases e : step T bl s x with
  | none => rw [e] at h1'; cases h1'
  | some s1 =>
   rw [e] at h1'
   exact steps_came h1' (step_came e hc)
theorem step_size {T : List Int} {bl : Bool} {s s' : St} {m : Mv} (h : step T bl s m = some s') (hz : ∀ (j : Nat) c, s.tr[j]? = some c -> c.length <= s.came) : ∀ (j : Nat) c, s'.tr[j]? = some c -> c.length <= s'.came := by
 have gd : (s.tr.getD m.2 []).length <= s.came := by
  rw [List.getD_eq_getElem?_getD]
  cases e : s.tr[m.2]? with
  | none => exact Nat.zero_le _
  | some c => exact hz _ c e
 have key : ∀ (c' : List Int) (n : Nat), c'.length <= n -> s.came <= n -> ∀ (j : Nat) c, (s.tr.set m.2 c')[j]? = some c -> c.length <= n := fun c' n h1 h2 j c e => by
  by_cases ej : m.2 = j
  ·subst ej
   rw [List.getElem?_set] at e
   simp only [if_true] at e
   split at e
   ·cases e; exact h1
   ·cases e
  ·rw [List.getElem?_set_ne ej] at e
   exact Nat.le_trans (hz j c e) h2
 unfold step at h
 split at h
 ·split at h
  ·cases h
   exact key _ _ (by rw [List.length_append]; exact Nat.add_le_add_right gd 1) (Nat.le_succ _)
  ·cases h
 ·split at h
  ·split at h
   ·cases h
    exact key _ _ (Nat.le_trans (by rw [List.length_dropLast]; exact Nat.sub_le _ _) gd) (Nat.le_refl _)
   ·cases h
  ·split at h
   ·rename_i x r e
    cases h
    rw [e] at gd
    exact key _ _ (Nat.le_trans (Nat.le_succ _) gd) (Nat.le_refl _)
   ·cases h
end Yd
namespace Ins
theorem perm_ins {ps : List Nat} {k a : Nat} (h : ps.Perm (List.range k)) : (ps.take a ++ [k] ++ ps.drop a).Perm (List.range (k + 1)) := by
 rw [List.range_succ]
 have e : (ps.take a ++ [k] ++ ps.drop a).Perm (ps.take a ++ ps.drop a ++ [k]) := by
  rw [List.append_assoc, List.append_assoc]
  exact List.Perm.append_left _ List.perm_append_comm
 rw [List.take_append_drop] at e
 exact e.trans (List.Perm.append_right _ h)
def wag (sc : List Int) (far : Int) (j : Nat) : Int := (7 * (j : Int) + (sc.getD j 0) / 3 % 7 - 90) * far
theorem wag_lt (sc : List Int) {far : Int} (hf : 0 < far) {i j : Nat} (h : i < j) : wag sc far i < wag sc far j := by
 unfold wag
 refine Int.mul_lt_mul_of_pos_right ?_ hf
 have a1 := Int.emod_nonneg ((sc.getD i 0) / 3) (show (7 : Int) ≠ 0 by decide)
 have a2 := Int.emod_lt_of_pos ((sc.getD i 0) / 3) (show (0 : Int) < 7 by decide)
 have b1 := Int.emod_nonneg ((sc.getD j 0) / 3) (show (7 : Int) ≠ 0 by decide)
 omega
theorem wag_inj (sc : List Int) {far : Int} (hf : 0 < far) {i j : Nat} (h : wag sc far i = wag sc far j) : i = j := by
 rcases Nat.lt_trichotomy i j with z | z | z
 ·have := wag_lt sc hf z; omega
 ·exact z
 ·have := wag_lt sc hf z; omega
theorem nodup_map {ps : List Nat} {f : Nat -> Int} (h : ps.Nodup) (hf : ∀ i j, f i = f j -> i = j) : (ps.map f).Nodup := by
 induction ps with
 | nil => exact List.nodup_nil
 | cons a r ih =>
  obtain ⟨h1, h2⟩ := List.nodup_cons.mp h
  rw [List.map_cons]
  refine List.nodup_cons.mpr ⟨fun m => ?_, ih h2⟩
  obtain ⟨b, hb, e⟩ := List.mem_map.mp m
  exact h1 (hf _ _ e ▸ hb)
theorem train_nodup (sc : List Int) {far : Int} (hf : 0 < far) {n : Nat} {ps : List Nat} (h : ps.Perm (List.range n)) : (ps.map (wag sc far)).Nodup :=
 nodup_map (h.nodup_iff.mpr List.nodup_range) fun _ _ e => wag_inj sc hf e
theorem perm_lt {n : Nat} {ps : List Nat} (h : ps.Perm (List.range n)) {x : Nat} (hx : x ∈ ps) : x < n := List.mem_range.mp (h.mem_iff.mp hx)
end Ins
namespace My
open PySem L2
theorem HP {M : Model} {A : Around} {env : Env} : PassesOwn M A env (fun _ _ => False) := PassesOwn.never
def deed (b : Bool) : Str := if b then "in" else "out"
theorem join_one (b : Bool) : Txt.join ("" : Str) [deed b] = deed b := by cases b <;> decide +kernel
theorem deed_in (b : Bool) : inV (.str (deed b)) [.str "in", .str "out"] = true := by cases b <;> decide +kernel
theorem deed_len (b : Bool) : (deed b).length <= 3 := by cases b <;> decide +kernel
def MvT (H : Hp) (r : Addr) (m : Yd.Mv) : Prop := H r = some (.tup [.str (deed m.1), .int (m.2 : Int)])
def MovesAt (H : Hp) (a : Addr) (ms : List Yd.Mv) : Prop := ∃ rs : List Addr, H a = some (.lst (rs.map V.ref)) /\ Paired (MvT H) rs ms
theorem Paired.get {α β : Type} {F : α -> β -> Prop} : ∀ {l : List α} {m : List β} {i : Nat} {x : α}, Paired F l m -> l[i]? = some x -> ∃ y, m[i]? = some y /\ F x y
 | _, _, _, _, .nil, e => by simp at e
 | _, _, 0, _, .cons r _, e => by simp at e; subst e; exact ⟨_, rfl, r⟩
 | _, _, i + 1, x, .cons _ t, e => by
  obtain ⟨u, h1, h2⟩ := Paired.get (i := i) (x := x) t (by simpa using e)
  exact ⟨u, by simpa using h1, h2⟩
theorem Paired.imp {α β : Type} {F G : α -> β -> Prop} (f : ∀ a b, F a b -> G a b) : ∀ {l : List α} {m : List β}, Paired F l m -> Paired G l m
 | _, _, .nil => .nil
 | _, _, .cons r t => .cons (f _ _ r) (Paired.imp f t)
theorem Paired.snoc' {α β : Type} {F : α -> β -> Prop} {a : α} {b : β} : ∀ {l : List α} {m : List β}, Paired F l m -> F a b -> Paired F (l ++ [a]) (m ++ [b])
 | _, _, .nil, h => .cons h .nil
 | _, _, .cons h1 t, h => .cons h1 (Paired.snoc' t h)
theorem MvT.same {H H' : Hp} (s : Same H H') {r : Addr} {m : Yd.Mv} (h : MvT H r m) : MvT H' r m := s _ _ h
theorem MovesAt.same {H H' : Hp} (s : Same H H') {a : Addr} {ms : List Yd.Mv} (h : MovesAt H a ms) : MovesAt H' a ms :=
 let ⟨rs, e, p⟩ := h; ⟨rs, s _ _ e, Paired.imp (fun _ _ z => z.same s) p⟩
theorem Same.updN {H H' : Hp} {a : Addr} {o : HO} (s : Same H H') (h : H a = none) : Same H (upd H' a o) := fun b u e => by
 rw [upd_ne (ne_of_none e h)]
 exact s b u e
theorem iteDT {c A B : Prop} [Decidable c] (hc : c) (h : A) : if decide c = true then A else B := by rw [if_pos (decide_eq_true hc)]; exact h
theorem iteDF {c A B : Prop} [Decidable c] (hc : ¬ c) (h : B) : if decide c = true then A else B := by rw [if_neg (by rw [decide_eq_false hc]; exact Bool.false_ne_true)]; exact h
theorem steps_next {T : List Int} {b : Bool} {s s' s'' : Yd.St} {ms : List Yd.Mv} {i : Nat} {m : Yd.Mv} (h : Yd.steps T b s (ms.take i) = some s') (hm : ms[i]? = some m) (h2 : Yd.step T b s' m = some s'') : Yd.steps T b s (ms.take (i + 1)) = some s'' := by
 rw [take_snoc hm, Yd.steps_snoc, h]
 exact h2
end My
namespace L2
open PySem PySem.Spec PyProof.Rows
open PySem.W (Dat)
def dI (xs : List Int) : Dat := .list (xs.map .int)
theorem DVs.ints {K : PySem.W.Frag} {H : Hp} : ∀ (xs : List Int), DVs K H (xs.map V.int) (xs.map .int)
 | [] => .nil
 | x :: r => .cons (.int x) (DVs.ints r)
theorem DV.ints {K : PySem.W.Frag} {H : Hp} {a : Addr} {xs : List Int} (h : SqL K H a (xs.map V.int)) : DV K H (.ref a) (dI xs) := .lst h (DVs.ints xs)
theorem ok_ints (n : Nat) (xs : List Int) : kqdOk (n + 1) (dI xs) = true := by
 unfold dI
 rw [kqdOk]
 rw [List.all_eq_true]
 intro d hd
 obtain ⟨x, _, rfl⟩ := List.mem_map.mp hd
 unfold kqdOk
 rfl
theorem dI_inj {xs ys : List Int} (h : dI xs = dI ys) : xs = ys := by
 have h1 : xs.map Dat.int = ys.map Dat.int := Dat.list.inj h
 exact List.map_inj_right (fun a b e => Dat.int.inj e) |>.mp h1
theorem ixN_nat {n t : Nat} (h : t < n) : ixN n (t : Int) = some t := by
 unfold ixN
 rw [if_pos (by omega), if_pos (by omega)]; simp
end L2
namespace My
open PySem L2
open PySem.W (Dat)
theorem iteNSc {c A B : Prop} {inst : Decidable c} (hc : c) (h : B) : if (!decide c) = true then A else B := iteNS hc h
theorem iteNT {c A B : Prop} {inst : Decidable c} (hc : ¬ c) (h : A) : if (!decide c) = true then A else B := by
 rw [decide_eq_false hc]
 exact iteT h
theorem iteNB {c A B : Prop} {inst : Decidable c} (h1 : ¬ c -> A) (h2 : c -> B) : if (!decide c) = true then A else B := by
 by_cases h : c
 ·exact iteNS h (h2 h)
 ·exact iteNT h (h1 h)
theorem iteDB {c A B : Prop} {inst : Decidable c} (h1 : c -> A) (h2 : ¬ c -> B) : if decide c = true then A else B := by
 by_cases h : c
 ·exact iteDT h (h1 h)
 ·exact iteDF h (h2 h)
theorem Paired.append {α β : Type} {F : α -> β -> Prop} : ∀ {l l' : List α} {m m' : List β}, Paired F l m -> Paired F l' m' -> Paired F (l ++ l') (m ++ m')
 | _, _, _, _, .nil, h => h
 | _, _, _, _, .cons a b, h => .cons a (Paired.append b h)
structure Yds (H0 H : Hp) (kA : Addr) (ls : List Addr) (tr : List (List Int)) : Prop where
 lst : H kA = some (.lst (ls.map V.ref))
 len : ls.length = tr.length
 each : ∀ (j : Nat) l, ls[j]? = some l -> ∃ c, tr[j]? = some c /\ H l = some (.lst (c.map V.int)) /\ H0 l = none /\ l ≠ kA
 inj : ∀ (i j : Nat) l, ls[i]? = some l -> ls[j]? = some l -> i = j
variable {H0 H H' : Hp} {kA : Addr} {ls : List Addr} {tr : List (List Int)}
theorem Yds.same (h : Yds H0 H kA ls tr) (s : Same H H') : Yds H0 H' kA ls tr :=
 ⟨s _ _ h.lst, h.len, fun j l e => let ⟨c, a, b, r⟩ := h.each j l e; ⟨c, a, s _ _ b, r⟩, h.inj⟩
theorem Yds.set (h : Yds H0 H kA ls tr) {j : Nat} {l : Addr} (e : ls[j]? = some l) (c' : List Int) : Yds H0 (upd H l (.lst (c'.map V.int))) kA ls (tr.set j c') := by
 obtain ⟨c, e1, e2, e3, e4⟩ := h.each j l e
 refine ⟨by rw [upd_ne (Ne.symm e4)]; exact h.lst, by rw [List.length_set]; exact h.len, fun i l' e' => ?_, h.inj⟩
 obtain ⟨c1, a1, a2, a3, a4⟩ := h.each i l' e'
 by_cases hij : i = j
 ·subst hij
  rw [e] at e'
  cases e'
  exact ⟨c', by rw [List.getElem?_set_self (List.getElem?_eq_some_iff.mp e1).1], upd_same, a3, a4⟩
 ·have hl : l' ≠ l := fun z => hij (h.inj i j l (z ▸ e') e)
  exact ⟨c1, by rw [List.getElem?_set_ne (Ne.symm hij)]; exact a1, by rw [upd_ne hl]; exact a2, a3, a4⟩
theorem Yds.other (h : Yds H0 H kA ls tr) {a : Addr} {o : HO} (h1 : kA ≠ a) (h2 : ∀ (j : Nat) l, ls[j]? = some l -> l ≠ a) : Yds H0 (upd H a o) kA ls tr :=
 ⟨by rw [upd_ne h1]; exact h.lst, h.len, fun j l e => let ⟨c, a1, b, r⟩ := h.each j l e; ⟨c, a1, by rw [upd_ne (h2 j l e)]; exact b, r⟩, h.inj⟩
theorem Yds.push (h : Yds H0 H kA ls tr) (s : Same H0 H) {l : Addr} (hl : H l = none) : Yds H0 (upd (upd H l (.lst [])) kA (.lst (ls.map V.ref ++ [.ref l]))) kA (ls ++ [l]) (tr ++ [[]]) := by
 have ekl : kA ≠ l := ne_of_none h.lst hl
 have old : ∀ {j : Nat} {l' : Addr}, (ls ++ [l])[j]? = some l' -> (ls[j]? = some l' /\ j < ls.length) \/ (l' = l /\ j = ls.length) := fun {j l'} e => by
  rcases Nat.lt_or_ge j ls.length with hj | hj
  ·rw [List.getElem?_append_left hj] at e
   exact .inl ⟨e, hj⟩
  ·rw [List.getElem?_append_right hj] at e
   cases q : j - ls.length with
   | zero => rw [q] at e; exact .inr ⟨(Option.some.inj e).symm, by omega⟩
   | succ m => rw [q] at e; simp at e
 refine ⟨by rw [upd_same, List.map_append]; rfl, by simp [h.len], fun j l' e => ?_, fun i j l' e1 e2 => ?_⟩
 ·rcases old e with ⟨e, hj⟩ | ⟨rfl, rfl⟩
  ·obtain ⟨c, a1, a2, a3, a4⟩ := h.each j l' e
   exact ⟨c, by rw [List.getElem?_append_left (by rw [<- h.len]; exact hj)]; exact a1, by rw [upd_ne a4]; exact upd_get a2 hl, a3, a4⟩
  ·exact ⟨[], by rw [List.getElem?_append_right (by rw [h.len]; exact Nat.le_refl _), h.len, Nat.sub_self]; rfl, by rw [upd_ne ekl.symm, upd_same]; rfl, s.free hl, ekl.symm⟩
 ·rcases old e1 with ⟨f1, h1⟩ | ⟨f1, h1⟩ <;> rcases old e2 with ⟨f2, h2⟩ | ⟨f2, h2⟩
  ·exact h.inj i j l' f1 f2
  ·obtain ⟨c, a1, a2, _⟩ := h.each i l' f1
   rw [f2, hl] at a2; cases a2
  ·obtain ⟨c, a1, a2, _⟩ := h.each j l' f2
   rw [f1, hl] at a2; cases a2
  ·omega
end My
namespace L2
open PySem PySem.Spec PyProof.Rows
end L2
namespace My
open PySem L2
end My
namespace L2
open PySem PySem.Spec PyProof.Rows
section
variable {κ : Type} [DecidableEq κ]
def valV (kvs : List (κ × V)) (k : κ) : Option V := (kvs.find? fun kv => decide (kv.1 = k)).map (·.2)
def putK (kvs : List (κ × V)) (k : κ) (v : V) : List (κ × V) :=
 if (kvs.any fun kv => decide (kv.1 = k)) = true then kvs.map (fun kv => if kv.1 = k then (kv.1, v) else kv) else kvs ++ [(k, v)]
theorem valV_pos {p : κ × V} {r : List (κ × V)} {k : κ} (e : p.1 = k) : valV (p :: r) k = some p.2 := by simp [valV, List.find?_cons, e]
theorem valV_neg {p : κ × V} {r : List (κ × V)} {k : κ} (e : ¬ p.1 = k) : valV (p :: r) k = valV r k := by simp [valV, List.find?_cons, e]
theorem valV_any (k : κ) : ∀ kvs : List (κ × V), (kvs.any fun kv => decide (kv.1 = k)) = (valV kvs k).isSome
 | [] => rfl
 | p :: r => by
  rw [List.any_cons]
  by_cases e : p.1 = k
  ·simp only [valV_pos e, decide_eq_true e, Bool.true_or, Option.isSome_some]
  ·rw [valV_neg e, decide_eq_false e, Bool.false_or]; exact valV_any k r
theorem valV_map (k j : κ) (y : V) : ∀ kvs : List (κ × V), valV (kvs.map fun kv => if kv.1 = k then (kv.1, y) else kv) j = (valV kvs j).map fun x => if j = k then y else x
 | [] => rfl
 | p :: r => by
  have ih := valV_map k j y r
  rw [List.map_cons]
  by_cases h : p.1 = k
  ·rw [if_pos h]
   by_cases e : p.1 = j
   ·rw [valV_pos (p := (p.1, y)) e, valV_pos e, Option.map_some, if_pos (e.symm.trans h)]
   ·rw [valV_neg (p := (p.1, y)) e, valV_neg e, ih]
  ·rw [if_neg h]
   by_cases e : p.1 = j
   ·rw [valV_pos (p := p) e, valV_pos e, Option.map_some, if_neg (fun z => h (e.trans z))]
   ·rw [valV_neg (p := p) e, valV_neg e, ih]
theorem valV_snoc (k j : κ) (y : V) : ∀ kvs : List (κ × V), valV kvs k = none -> valV (kvs ++ [(k, y)]) j = if j = k then some y else valV kvs j
 | [], _ => by
  by_cases e : k = j
  ·rw [if_pos e.symm]; exact valV_pos (p := (k, y)) e
  ·rw [if_neg (fun z => e z.symm)]; exact valV_neg (p := (k, y)) e
 | p :: r, hn => by
  rw [List.cons_append]
  have hk : ¬ p.1 = k := fun z => by rw [valV_pos z] at hn; cases hn
  rw [valV_neg hk] at hn
  have ih := valV_snoc k j y r hn
  by_cases e : p.1 = j
  ·rw [valV_pos e, valV_pos e, if_neg (fun z => hk (e.trans z))]
  ·rw [valV_neg e, valV_neg e, ih]
theorem valV_put (kvs : List (κ × V)) (k j : κ) (y : V) : valV (putK kvs k y) j = if j = k then some y else valV kvs j := by
 unfold putK
 by_cases a : (kvs.any fun kv => decide (kv.1 = k)) = true
 ·rw [if_pos a, valV_map]
  rw [valV_any] at a
  by_cases e : j = k
  ·obtain ⟨x, hx⟩ := Option.isSome_iff_exists.mp a
   rw [if_pos e, e, hx, Option.map_some, if_pos rfl]
  ·rw [if_neg e]
   cases valV kvs j with
   | none => rfl
   | some x => rw [Option.map_some, if_neg e]
 ·rw [if_neg a]
  refine valV_snoc k j y kvs ?_
  rw [valV_any] at a
  cases q : valV kvs k with
  | none => rfl
  | some x => rw [q] at a; exact (a rfl).elim
theorem length_putK (kvs : List (κ × V)) (k : κ) (v : V) : (putK kvs k v).length <= kvs.length + 1 := by
 unfold putK
 split
 ·rw [List.length_map]; omega
 ·rw [List.length_append, List.length_cons, List.length_nil]; omega
theorem putK_new {kvs : List (κ × V)} {k : κ} (v : V) (h : valV kvs k = none) : putK kvs k v = kvs ++ [(k, v)] := by
 unfold putK
 rw [valV_any, h]
 exact if_neg (by decide)
theorem RelO.isSome_eq {o : Option V} {u : Option Value} (r : RelO o u) : o.isSome = u.isSome := by
 cases o with
 | none => cases u with
  | none => rfl
  | some _ => exact (show False from r).elim
 | some _ => cases u with
  | none => exact (show False from r).elim
  | some _ => rfl
theorem KV.val {kvs : List (κ × V)} {vs : List (κ × Value)} (r : KV kvs vs) (k : κ) : RelO (valV kvs k) (valueAt vs k) := by
 unfold KV at r
 induction r with
 | nil => exact True.intro
 | @cons p q ps qs h t ih =>
  obtain ⟨h1, h2⟩ := h
  by_cases e : p.1 = k
  ·have e' : q.1 = k := h1.symm.trans e
   have b : valueAt (q :: qs) k = some q.2 := by simp [valueAt, List.find?_cons, e']
   rw [valV_pos e, b]; exact h2
  ·have e' : ¬ q.1 = k := fun z => e (h1.trans z)
   have b : valueAt (q :: qs) k = valueAt qs k := by simp [valueAt, List.find?_cons, e']
   rw [valV_neg e, b]; exact ih
theorem KV.any {kvs : List (κ × V)} {vs : List (κ × Value)} (r : KV kvs vs) (k : κ) : (kvs.any fun kv => decide (kv.1 = k)) = vs.any fun kv => decide (kv.1 = k) := by
 unfold KV at r
 induction r with
 | nil => rfl
 | cons h t ih => rw [List.any_cons, List.any_cons, ih, h.1]
theorem KV.repl {kvs : List (κ × V)} {vs : List (κ × Value)} (r : KV kvs vs) (k : κ) {y : V} {u : Value} (ry : RelV y u) :
  KV (kvs.map fun kv => if kv.1 = k then (kv.1, y) else kv) (vs.map fun kv => if kv.1 = k then (kv.1, u) else kv) := by
 unfold KV at r ⊢
 induction r with
 | nil => exact .nil
 | @cons p q ps qs h t ih =>
  rw [List.map_cons, List.map_cons]
  refine .cons ?_ ih
  obtain ⟨h1, h2⟩ := h
  by_cases e : p.1 = k
  ·rw [if_pos e, if_pos (h1.symm.trans e)]; exact ⟨h1, ry⟩
  ·rw [if_neg e, if_neg (fun z => e (h1.trans z))]; exact ⟨h1, h2⟩
theorem KV.put {kvs : List (κ × V)} {vs : List (κ × Value)} (r : KV kvs vs) (k : κ) {y : V} {u : Value} (ry : RelV y u) : KV (putK kvs k y) (stored vs k u) := by
 unfold putK stored
 rw [r.any k]
 by_cases e : (vs.any fun kv => decide (kv.1 = k)) = true
 ·rw [if_pos e, if_pos e]; exact r.repl k ry
 ·rw [if_neg e, if_neg e]; exact Paired.snoc r ⟨rfl, ry⟩
theorem KV.length {kvs : List (κ × V)} {vs : List (κ × Value)} (r : KV kvs vs) : kvs.length = vs.length := Paired.length r
end
theorem kV_is {P : Program} {w : World} {k : Key} {u : Value} (r : RelV (kV k) u) : (mixKind P w).is k u = true := by
 cases k with
 | inl i => obtain ⟨t, e⟩ := (show ∃ t, u = Value.int i t from r); subst e; exact mixKind_int P w i t
 | inr x => obtain ⟨t, e⟩ := (show ∃ t, u = Value.str x t from r); subst e; exact mixKind_str P w x t
theorem items_are {P : Program} {w : World} : ∀ {ks : List Key} {us : List Value}, Vals (ks.map kV) us -> ItemsAre (mixKind P w) ks us
 | [], _, r => by rw [List.map_nil] at r; cases r; exact .nil
 | k :: ks, _, r => by
  rw [List.map_cons] at r
  cases r with
  | cons h t => exact .cons (kV_is h) (items_are t)
abbrev KT (H : Hp) : List (List Key × V) -> List (List Key × Addr × Value) -> Prop := Paired fun p q => p.1 = q.1 /\ H q.2.1 = some (.tup (p.1.map kV)) /\ RelV p.2 q.2.2
theorem KT.val {H : Hp} {kvs : List (List Key × V)} {xs : List (List Key × Addr × Value)} (r : KT H kvs xs) (k : List Key) : RelO (valV kvs k) ((atKey xs k).map (·.2)) := by
 induction r with
 | nil => exact True.intro
 | @cons p q ps qs h t ih =>
  obtain ⟨h1, _, h2⟩ := h
  by_cases e : p.1 = k
  ·have e' : q.1 = k := h1.symm.trans e
   have b : atKey (q :: qs) k = some q.2 := by simp [atKey, List.find?_cons, e']
   rw [valV_pos e, b]; exact h2
  ·have e' : ¬ q.1 = k := fun z => e (h1.trans z)
   have b : atKey (q :: qs) k = atKey qs k := by simp [atKey, List.find?_cons, e']
   rw [valV_neg e, b]; exact ih
theorem KT.repl {H : Hp} {kvs : List (List Key × V)} {xs : List (List Key × Addr × Value)} (r : KT H kvs xs) (k : List Key) {y : V} {u : Value} (ry : RelV y u) :
  KT H (kvs.map fun kv => if kv.1 = k then (kv.1, y) else kv) (xs.map (putAt k u)) := by
 induction r with
 | nil => exact .nil
 | @cons p q ps qs h t ih =>
  rw [List.map_cons, List.map_cons]
  refine .cons ?_ ih
  obtain ⟨h1, h2, h3⟩ := h
  unfold putAt
  by_cases e : p.1 = k
  ·rw [if_pos e, if_pos (h1.symm.trans e)]; exact ⟨h1, h2, ry⟩
  ·rw [if_neg e, if_neg (fun z => e (h1.trans z))]; exact ⟨h1, h2, h3⟩
theorem KT.put {H : Hp} {kvs : List (List Key × V)} {xs : List (List Key × Addr × Value)} (r : KT H kvs xs) (k : List Key) {b : Addr} {y : V} {u : Value} (hb : H b = some (.tup (k.map kV))) (ry : RelV y u) :
  KT H (putK kvs k y) (storedH xs k b u) := by
 have e : (kvs.any fun kv => decide (kv.1 = k)) = (atKey xs k).isSome := by
  rw [valV_any, (r.val k).isSome_eq, Option.isSome_map]
 unfold putK storedH
 rw [e]
 by_cases q : (atKey xs k).isSome = true
 ·rw [if_pos q, if_pos q]; exact r.repl k ry
 ·rw [if_neg q, if_neg q]; exact Paired.snoc r ⟨rfl, hb, ry⟩
theorem KT.keeps {H H' : Hp} {kvs : List (List Key × V)} {xs : List (List Key × Addr × Value)} (r : KT H kvs xs) (ht : ∀ b ys, H b = some (.tup ys) -> H' b = some (.tup ys)) : KT H' kvs xs :=
 Paired.mapP r fun _ _ z => ⟨z.1, ht _ _ z.2.1, z.2.2⟩
section
variable {P : Program} {w : World} {H : Hp} {h : Heap} {a : Addr}
theorem rd_of {u : HO} (ok : HOk P w H h) (e : Rd H a u) : ObjOk P w H h a u := e.ok ok
theorem dk_rd {kvs : List (Key × V)} (ok : HOk P w H h) (e : Rd H a (.dK kvs)) : kvs.length <= sizeLine /\ (a == sysModules) = false /\ ∃ vs, KV kvs vs /\ h.DictOf (mixKind P w) a vs :=
 show ObjOk P w H h a (.dK kvs) from rd_of ok e
theorem dk_of {kvs : List (Key × V)} (ok : HOk P w H h) (e : H a = some (.dK kvs)) : kvs.length <= sizeLine /\ (a == sysModules) = false /\ ∃ vs, KV kvs vs /\ h.DictOf (mixKind P w) a vs := dk_rd ok (.inl e)
theorem key_of {ks : List Key} (ok : HOk P w H h) (e : H a = some (.tup (ks.map kV))) : (tupleKind (mixKind P w)).is h ks a := by
 obtain ⟨_, its, r, o, h1, h2, n, h3⟩ := (show ObjOk P w H h a (.tup (ks.map kV)) from ok a _ e)
 exact ⟨o, its.toArray, n, h1, h2, h3, by simpa using items_are r⟩
theorem dt_rd {kvs : List (List Key × V)} (ok : HOk P w H h) (e : Rd H a (.dT kvs)) : kvs.length <= sizeLine /\ (a == sysModules) = false /\
  ∃ xs, KT H kvs xs /\ h.DictOfH (tupleKind (mixKind P w)) a xs := by
 obtain ⟨z, y, xs, r, o, es, ep, h1, h2, h3, h4, h5⟩ := (show ObjOk P w H h a (.dT kvs) from rd_of ok e)
 refine ⟨z, y, xs, r, o, es, ep, h1, h2, h3, h4, fun x hx => ?_, h5⟩
 have all : ∀ {l : List (List Key × V)} {m : List (List Key × Addr × Value)}, KT H l m -> ∀ x ∈ m, (tupleKind (mixKind P w)).is h x.1 x.2.1 := by
  intro l m q
  induction q with
  | nil => intro x hx; exact nomatch hx
  | @cons p q ps qs hq t ih =>
   intro x hx
   rcases List.mem_cons.mp hx with e | hx
   ·subst e
    exact key_of ok (by rw [<- hq.1]; exact hq.2.1)
   ·exact ih x hx
 exact all r x hx
theorem dt_of {kvs : List (List Key × V)} (ok : HOk P w H h) (e : H a = some (.dT kvs)) : kvs.length <= sizeLine /\ (a == sysModules) = false /\
  ∃ xs, KT H kvs xs /\ h.DictOfH (tupleKind (mixKind P w)) a xs := dt_rd ok (.inl e)
end
def DGet (H : Hp) (a : Addr) (y : V) (r : Option V) : Prop :=
 (∃ kvs k, Rd H a (.dK kvs) /\ y = kV k /\ r = valV kvs k) \/ ∃ kvs k b, Rd H a (.dT kvs) /\ y = .ref b /\ H b = some (.tup (k.map kV)) /\ r = valV kvs k
def DPut (H : Hp) (a : Addr) (y v : V) (H' : Hp) : Prop :=
 (∃ kvs k, H a = some (.dK kvs) /\ y = kV k /\ kvs.length < sizeLine /\ H' = upd H a (.dK (putK kvs k v))) \/
 ∃ kvs k b, H a = some (.dT kvs) /\ y = .ref b /\ H b = some (.tup (k.map kV)) /\ kvs.length < sizeLine /\ H' = upd H a (.dT (putK kvs k v))
theorem DGet.k {H : Hp} {a : Addr} {kvs : List (Key × V)} {k : Key} (e : H a = some (.dK kvs)) : DGet H a (kV k) (valV kvs k) := .inl ⟨kvs, k, .inl e, rfl, rfl⟩
theorem DPut.k {H : Hp} {a : Addr} {kvs : List (Key × V)} {k : Key} {v : V} (e : H a = some (.dK kvs)) (hl : kvs.length < sizeLine) : DPut H a (kV k) v (upd H a (.dK (putK kvs k v))) := .inl ⟨kvs, k, e, rfl, hl, rfl⟩
section
variable {X : Cx} {pins : List (Addr × Obj)} {σ : St} {H : Hp} {s : Shared} {a : Addr} {y v : V} {u r : Value} {o : Option V} {A : Around} {E : Value -> Shared -> Prop}
theorem Inv.big (I : Inv X pins σ H s) : sysModules < s.heap.objs.size := by
 have h : mainGlobals < s.heap.objs.size := (I.mod.glob.keeps I.bk).lt
 exact Nat.lt_trans (by decide) h
theorem d_getItem {Q : Value -> Shared -> Prop} (hu : A.units + 1 < cLine) (I : Inv X pins σ H s) (g : DGet H a y (some v)) (ry : RelV y u) (h : ∀ w' s', Inv X pins σ H s' -> RelV v w' -> Q w' s') :
  wpAny (model X.prog X.w) A (getItem (.ref a) u) Q E s := by
 rcases g with ⟨kvs, k, e, ey, l⟩ | ⟨kvs, k, b, e, ey, eb, l⟩
 ·subst ey
  obtain ⟨z, hd, vs, rel, dd⟩ := dk_rd I.hok e
  obtain ⟨w', hw, rw'⟩ := RelO.some_of (v := v) (o := valueAt vs k) (by rw [l]; exact rel.val k)
  exact wpAny_getItem_of (kV_is ry) dd.mapOf hw (h w' _ (I.tok _) rw')
 ·subst ey
  cases (show u = Value.ref b from ry)
  obtain ⟨z, hd, xs, rel, dd⟩ := dt_rd I.hok e
  obtain ⟨w', hw, rw'⟩ := RelO.some_of (v := v) (o := (atKey xs k).map (·.2)) (by rw [l]; exact rel.val k)
  obtain ⟨p, hp, hp2⟩ := Option.map_eq_some_iff.mp hw
  refine wpAny_getItem_heap (tupleKind_room_in1 hu) (key_of I.hok eb) dd hp ?_
  rw [hp2]
  exact h w' _ (I.tok _) rw'
theorem d_notIn {Q : Value -> Shared -> Prop} (hu : A.units + 1 < cLine) (I : Inv X pins σ H s) (g : DGet H a y o) (ry : RelV y u) (h : ∀ s', Inv X pins σ H s' -> Q (.bool (!o.isSome)) s') :
  wpAny (model X.prog X.w) A (compareOp .NotIn u (.ref a)) Q E s := by
 rcases g with ⟨kvs, k, e, ey, l⟩ | ⟨kvs, k, b, e, ey, eb, l⟩
 ·subst ey
  obtain ⟨z, hd, vs, rel, dd⟩ := dk_rd I.hok e
  refine wpAny_notIn_of (kV_is ry) hd dd.mapOf ?_
  rw [<- (rel.val k).isSome_eq, <- l]
  exact h _ (I.tok _)
 ·subst ey
  cases (show u = Value.ref b from ry)
  obtain ⟨z, hd, xs, rel, dd⟩ := dt_rd I.hok e
  refine wpAny_notIn_heap (tupleKind_room_in1 hu) (key_of I.hok eb) hd dd ?_
  have q := (rel.val k).isSome_eq
  rw [Option.isSome_map] at q
  rw [<- q, <- l]
  exact h _ (I.tok _)
theorem d_write {h' : Heap} {t' : Nat} {ob : HO} (I : Inv X pins σ H s) (mu : Mut (H a)) (hs : Heap.SameBut a s.heap h') (he : ∃ q, h'.get? a = some q) (new : ObjOk X.prog X.w (upd H a ob) h' a ob) :
  Inv X pins σ (upd H a ob) { s with heap := h', toks := t' } :=
 I.write (x := a) (e := a) mu (.inl rfl) (fun b q hb z => (hs.2 b hb).trans z) he new
theorem dk_new {P : Program} {w : World} {H' : Hp} {h' : Heap} {kvs : List (Key × V)} {vs : List (Key × Value)} (z : kvs.length <= sizeLine) (hd : (a == sysModules) = false) (rel : KV kvs vs) (dd : h'.DictOf (mixKind P w) a vs) :
  ObjOk P w H' h' a (.dK kvs) := ⟨z, hd, vs, rel, dd⟩
theorem d_setItem {H' : Hp} {Q : Unit -> Shared -> Prop} (hu : A.units + 1 < cLine) (I : Inv X pins σ H s) (g : DPut H a y v H') (ry : RelV y u) (rv : RelV v r) (h : ∀ s', Inv X pins σ H' s' -> Q () s') :
  wpAny (model X.prog X.w) A (setItem (.ref a) u r) Q E s := by
 rcases g with ⟨kvs, k, e, ey, l, eH⟩ | ⟨kvs, k, b, e, ey, eb, l, eH⟩
 ·subst ey eH
  obtain ⟨z, hd, vs, rel, dd⟩ := dk_of I.hok e
  have hz : vs.length <= sizeLine := by rw [<- rel.length]; exact z
  have hl : (putK kvs k v).length <= sizeLine := by have := length_putK kvs k v; omega
  refine wpAny_setItem_pairs (hsz := hz) (kV_is ry) dd fun h' dd' hs => h _ ?_
  have he : ∃ q, h'.get? a = some q := let ⟨q, _, _, hq, _⟩ := dd'; ⟨q, hq⟩
  exact d_write I (by rw [e]; exact True.intro) hs he (dk_new hl hd (rel.put k rv) dd')
 ·subst ey eH
  cases (show u = Value.ref b from ry)
  obtain ⟨z, hd, xs, rel, dd⟩ := dt_of I.hok e
  have hz : xs.length <= sizeLine := by rw [<- Paired.length rel]; exact z
  have hl : (putK kvs k v).length <= sizeLine := by have := length_putK kvs k v; omega
  refine wpAny_setItem_heap (hsz := hz) (tupleKind_room_in1 hu) (key_of I.hok eb) dd fun h' dd' hs => h _ ?_
  obtain ⟨q, es, ep, hq, h2, h3, h4, _, h5⟩ := dd'
  refine d_write I (by rw [e]; exact True.intro) hs ⟨q, hq⟩ ⟨hl, hd, _, (rel.put k eb rv).keeps fun c ys ec => ?_, q, es, ep, hq, h2, h3, h4, h5⟩
  rw [upd_ne (ne_of ec e (fun z => nomatch z))]
  exact ec
end
section
variable {X : Cx} {pins : List (Addr × Obj)} {σ : St} {H : Hp} {s : Shared} {a : Addr} {kvs : List (Key × V)} {k : Key} {u : Value} {A : Around} {E : Value -> Shared -> Prop}
end
def NoSl (i : Expr) : Prop := ∀ ov iv, subscripted i false ov iv = operate [ov, iv] (getItem ov iv)
theorem subD_of {prog : Program} {w : World} {A : Around} {E : Value -> Shared -> Prop} {s : Shared} {env : Env} {value slice : Expr} {pos : Pos} {T id : String} {Q : Value -> Shared -> Prop}
  (hl : typeLookup (.type T) "__getitem__" = pure (some (.builtin id))) (hs : NoSl slice)
  (h : wpAny (model prog w) A (eval value env) (fun o s₁ => wpAny (model prog w) A (eval slice env) (fun i s₂ => s₂.TypeIs o T /\ wpAny (model prog w) A (getItem o i) Q E s₂) E s₁) E s) :
  wpAny (model prog w) A (eval (.Subscript value slice pos) env) Q E s := by
 refine Subscript_ (wpAny_mono h (fun o s₁ h₁ => wpAny_mono h₁ (fun i s₂ h₂ => ?_) fun _ _ x => x) fun _ _ x => x)
 obtain ⟨hT, h₂⟩ := h₂
 unfold subscriptTail
 refine wpAny_bind ?_
 rw [getitemInPython_of_ne hT.not_modules]
 refine wpAny_bind (wpAny_specialOf hT hl ?_)
 have fin : wpAny (model prog w) A (subscripted slice false o i) (fun r s₃ => wpAny (model prog w) A (letTemporaryGo value o r >>= fun _ => pure r) Q E s₃) E s₂ := by
  rw [hs o i]
  exact wpAny_operating (wpAny_mono h₂ (fun r s₃ h₃ => wpAny_bind (wpAny_letTemporaryGo (wpAny_pure h₃))) fun _ _ x => x)
 first
  | exact wpAny_pure (wpAny_bind fin)
  | exact wpAny_bind (wpAny_pure (wpAny_bind fin))
  | exact wpAny_bind fin
theorem dict_typeIs {X : Cx} {pins : List (Addr × Obj)} {σ : St} {H : Hp} {s : Shared} {a : Addr} {y : V} {o : Option V} (I : Inv X pins σ H s) (g : DGet H a y o) : s.TypeIs (.ref a) "dict" := by
 rcases g with ⟨kvs, k, e, _, _⟩ | ⟨kvs, k, b, e, _, _, _⟩
 ·obtain ⟨_, _, vs, _, dd⟩ := dk_rd I.hok e
  exact dd.typeIs
 ·obtain ⟨_, _, xs, _, dd⟩ := dt_rd I.hok e
  exact dd.typeIs
def tDGet (td ty : TE) : TE := fun σ H Q => td σ H fun x H1 => ty σ H1 fun y H2 => ∃ a v, x = .ref a /\ DGet H2 a y (some v) /\ Q v H2
def tDNotIn (ty td : TE) : TE := fun σ H Q => ty σ H fun y H1 => td σ H1 fun x H2 => ∃ a o, x = .ref a /\ DGet H2 a y o /\ Q (.bl (!o.isSome)) H2
def sDPut (td ty tv : TE) : TS := fun D σ H => tv σ H fun v H1 => td σ H1 fun x H2 => ty σ H2 fun y H3 => ∃ a H4, x = .ref a /\ DPut H3 a y v H4 /\ D.nx σ H4
section
variable {X : Cx} {o i e value : Expr} {pos pos' tpos : Pos} {td ty tv : TE}
theorem pe_dget (hu : X.A.units + 1 < cLine) (ho : PE X o td) (hi : PE X i ty) (hs : NoSl i) : PE X (.Subscript o i pos) (tDGet td ty) := by
 intro pins s σ H Q I h
 refine subD_of PySem.F.slot_dict_getitem.lookup hs (thn (ho pins s σ H _ I h) fun u s1 ⟨x, H1, I1, rx, q1⟩ => thn (hi pins s1 σ H1 _ I1 q1) fun iv s2 ⟨y, H2, I2, ry, a, v, ex, g, q2⟩ => ?_)
 subst ex
 obtain rfl : u = Value.ref a := rx
 exact ⟨dict_typeIs I2 g, d_getItem hu I2 g ry fun w' s3 I3 rw' => ⟨v, H2, I3, rw', q2⟩⟩
theorem pc_dnotin (hu : X.A.units + 1 < cLine) (hi : PE X i ty) (ho : PE X o td) : PC X .NotIn i o (tDNotIn ty td) := by
 intro pins s σ H Q I h
 refine thn (hi pins s σ H _ I h) fun iv s1 ⟨y, H1, I1, ry, q1⟩ => thn (ho pins s1 σ H1 _ I1 q1) fun u s2 ⟨x, H2, I2, rx, a, ov, ex, g, q2⟩ => ?_
 subst ex
 obtain rfl : u = Value.ref a := rx
 exact d_notIn hu I2 g ry fun s3 I3 => ⟨.bl (!ov.isSome), H2, I3, rfl, q2⟩
theorem ps_dput (hu : X.A.units + 1 < cLine) (ho : PE X o td) (hi : PE X i ty) (hv : PE X value tv) (hs : swapsWith value (some (.Subscript o i pos')) pos.line X.env = pure false) :
  PS X (.Assign [.Subscript o i pos'] value pos) (sDPut td ty tv) := by
 intro pins s σ H D I h
 refine wpAny_Assign_Subscript (thn (hv pins s σ H _ I h) fun r s1 ⟨v, H1, I1, rv, q1⟩ => thn (ho pins s1 σ H1 _ I1 q1) fun u s2 ⟨x, H2, I2, rx, q2⟩ => thn (hi pins s2 σ H2 _ I2 q2) fun iv s3 ⟨y, H3, I3, ry, a, H4, ex, g, q3⟩ => ?_) hs
 subst ex
 obtain rfl : u = Value.ref a := rx
 exact d_setItem hu I3 g ry rv fun s4 I4 => ⟨σ, H4, I4, q3⟩
end
theorem dk_empty {P : Program} {w : World} {H : Hp} (h : Heap) (hb : sysModules < h.objs.size) : ObjOk P w H (h.push { cls := .type "dict", data := .dict #[] }) h.objs.size (.dK []) :=
 ⟨Nat.zero_le _, beq_eq_false_iff_ne.mpr (Ne.symm (Nat.ne_of_lt hb)), [], .nil, Heap.DictOf.new h⟩
def tDNewK : TE := fun _ H Q => ∀ p, H p = none -> Q (.ref p) (upd H p (.dK []))
section
variable {X : Cx} {pos : Pos}
theorem pe_dnewK : PE X (.Dict [] [] pos) tDNewK := fun pins s σ H Q I h =>
 wpAny_Dict_empty ⟨.ref s.heap.objs.size, _, I.laid (a := s.heap.objs.size) (o := .dK []) (t' := s.toks) (fun _ _ q => Heap.get?_push_of_some _ q) (Nat.le_refl _) (dk_empty s.heap I.big), rfl, h _ (I.hok.fresh (Nat.le_refl _))⟩
end
section
variable {X : Cx} {pins : List (Addr × Obj)} {σ : St} {H : Hp} {s : Shared} {a : Addr} {y d : V} {u r : Value} {o : Option V} {A : Around} {E : Value -> Shared -> Prop}
end
section
variable {X : Cx} {o e f : Expr} {apos cpos : Pos} {td ty tx : TE}
end
section
variable {X : Cx} {pins : List (Addr × Obj)} {σ : St} {H : Hp} {s : Shared} {a : Addr} {kvs : List (Key × V)} {A : Around} {E : Value -> Shared -> Prop}
end
section
variable {X : Cx} {pins : List (Addr × Obj)} {σ : St} {H : Hp} {s : Shared} {a : Addr} {y : V} {u : Value} {A : Around} {E : Value -> Shared -> Prop}
end
end L2
namespace L2
open PySem PySem.Spec PyProof.Rows
section
variable {X : Cx}
end
section
variable {κ : Type} [DecidableEq κ]
end
end L2
namespace L2
open PySem PySem.Spec PyProof.Rows
section
variable {X : Cx} {K : PySem.W.Frag} {pins : List (Addr × Obj)} {σ : St} {H : Hp} {s : Shared} {k : Nat} {x m : Str} {C : Addr} {ps : List Str} {sp : Sp} {p pos apos : Pos} {e o : Expr} {es : List Expr} {ta : TE} {t : TA} {tx : TX} {CX : CXT} {E : XK}
theorem pe_methCE {pl : Sem Bool} (he : PE X o ta) (c : CtrM X.prog X.w X.K X.mg X.base CX k C m ps sp) (hr : Room k X.A) (ha : PA X (e :: es) t) (hx : Passes CX X E)
  (hst : starEach (e :: es) X.env = (false, eval e X.env) :: starEach es X.env := by rfl) (hpl : (backTo pos (starEach es X.env)).any (·.1) = false := by rfl)
  (ht : eval (.Call (.Attribute o m apos) (e :: es) [] pos) X.env = (do
   let ov <- eval o X.env
   standAt apos.atName
   let (f, first) <- holding [ov] (getMethod ov m pl)
   callWith pos f first (backTo pos (starEach (e :: es) X.env)) (backToKw pos (keywordEach [] X.env))) := by rfl) :
  PE X (.Call (.Attribute o m apos) (e :: es) [] pos) (tMeth C m sp [] E ta t) := by
 obtain ⟨f, fd, F, hm, hb⟩ := c.ex
 exact pe_meth (pl := pl) he c.cl hm F hr hb .nil hx ha hst hpl ht
def tMethX (C : Addr) (m : Str) (sp : Sp) (ta : TE) (te : TX) : TX := fun σ H Q E => ta σ H fun x H1 => ∃ a dx fs, x = .ref a /\ H1 a = some (.ins C dx fs) /\ fs.lookup m = none /\ te σ H1 (fun v H2 => sp [x, v] H2 Q E) E
theorem px_meth {pl : Sem Bool} {te : TX} (he : PE X.nox o ta) (c : CtrM X.prog X.w X.K X.mg X.base (CXe X.prog X.w) k C m ps sp) (hr : Room k X.A) (ha : PX X e te)
  (hst : starEach [e] X.env = (false, eval e X.env) :: starEach [] X.env := by rfl) (hpl : (backTo pos (starEach [] X.env)).any (·.1) = false := by rfl)
  (ht : eval (.Call (.Attribute o m apos) [e] [] pos) X.env = (do
   let ov <- eval o X.env
   standAt apos.atName
   let (f, first) <- holding [ov] (getMethod ov m pl)
   callWith pos f first (backTo pos (starEach [e] X.env)) (backToKw pos (keywordEach [] X.env))) := by rfl) :
  PX X (.Call (.Attribute o m apos) [e] [] pos) (tMethX C m sp ta te) := by
 intro pins s σ H Q E I h
 obtain ⟨f, fd, F, hm, hb⟩ := c.ex
 refine methodCall_KW (pl := pl) (wpAny_mono (he pins s σ H _ (I.wish _) h) (fun u s1 ⟨x, H1, I1, rx, a, dx, fs, ex, ea, l, q⟩ => ?_) fun _ _ z => False.elim z) ht
 subst ex
 obtain rfl : u = Value.ref a := rx
 have I1 : Inv X pins σ H1 s1 := I1.unwish
 refine getmeth_ok I1 ea c.cl hm l ?_
 refine callWith_K (first := [.ref a]) (h₀ := X.base) I.ok.mod.kin hm.kp ?_ hst hpl
 rw [hst]
 show wpAny _ _ (spliced ((false, eval e X.env) :: backTo pos (starEach [] X.env))) _ _ s1
 refine Calls.spliced_cons (thn (ha pins s1 σ H1 _ E I1 q) fun u s2 ⟨y, H2, I2, r2, q2⟩ => ?_)
 exact Calls.spliced_nil ⟨I2.kIn, runX (us := [.ref a, u]) (vs := [.ref a, y]) F hr hb I2 (.cons rfl (.cons r2 .nil)) q2⟩
def tQuiet (te : TE) : TX := fun σ H Q _ => te σ H Q
theorem px_quiet {te : TE} (h : PE X.nox e te) : PX X e (tQuiet te) := fun pins s σ H Q E I q =>
 wpAny_mono (h pins s σ H Q (I.wish _) q) (fun u s1 ⟨v, H1, I1, r⟩ => ⟨v, H1, I1.unwish, r⟩) fun _ _ z => False.elim z
def tTry2 (K : PySem.W.Frag) (Y Y' : Addr) (tb : TSX) (th th' : Addr -> TS) : TS := fun D σ H => tb D σ H fun cls od H1 => ∃ C, cls = .ref C /\ (∀ d, od = some d -> ∃ u, H1 d = some u) /\
 ((PySem.W.mroIn K C (.ref Y) = some true /\ ∀ ea, H1 ea = none -> th ea D σ (upd H1 ea (XH ea C od))) \/
  (PySem.W.mroIn K C (.ref Y) = some false /\ PySem.W.mroIn K C (.ref Y') = some true /\ ∀ ea, H1 ea = none -> th' ea D σ (upd H1 ea (XH ea C od))))
theorem ps_try2 {st b₀ b₁ : Stmt} {suite suite' : List Stmt} {y y' : Str} {Y Y' : Addr} {np np' hpos hpos' : Pos} {tb : TSX} {th th' : Addr -> TS} (hK : X.K = K) (hs : X.stack = X.env :: X.outer) (hl : X.env.frame = some X.env.locals) (hst : PSX X st tb)
  (hg : Gl X y) (hm : X.mg y = some (.ref Y)) (hY : Xc.XC K Y) (tY : PySem.W.typeIn K (.ref Y) = some (.type "type"))
  (hg' : Gl X y') (hm' : X.mg y' = some (.ref Y')) (hY' : Xc.XC K Y') (tY' : PySem.W.typeIn K (.ref Y') = some (.type "type"))
  (hh : ∀ ea, PSs (X.held ea) (b₀ :: suite) (th ea)) (hh' : ∀ ea, PSs (X.held ea) (b₁ :: suite') (th' ea)) (hdb : (y == ("__debug__" : Str)) = false := by decide) (hdb' : (y' == ("__debug__" : Str)) = false := by decide) :
  PS X (.Try [st] [.ExceptHandler (some (.Name y np)) none (b₀ :: suite) hpos, .ExceptHandler (some (.Name y' np')) none (b₁ :: suite') hpos'] [] [] pos) (tTry2 K Y Y' tb th th') := by
 subst hK
 intro pins s σ H D I h
 have hbody : wpAny (model X.prog X.w) X.A (execs [st] X.env) (SP X pins D) (XFrom X pins σ fun cls od H1 => ∃ C, cls = .ref C /\ (∀ d, od = some d -> ∃ u, H1 d = some u) /\
   ((PySem.W.mroIn X.K C (.ref Y) = some true /\ ∀ ea, H1 ea = none -> th ea D σ (upd H1 ea (XH ea C od))) \/
    (PySem.W.mroIn X.K C (.ref Y) = some false /\ PySem.W.mroIn X.K C (.ref Y') = some true /\ ∀ ea, H1 ea = none -> th' ea D σ (upd H1 ea (XH ea C od))))) s := by
  refine wpAny_execs_cons (thn (hst pins s σ H D _ I h) fun f s1 q => ?_)
  cases f with
  | next => exact wpAny_execs_nil q
  | ret v => exact q
  | brk => exact q
  | cont => exact q
 refine wpAny_Try_except (wpAny_mono hbody (fun f s1 q => ?_) fun e s1 hxx => ?_)
 ·cases f with
  | next => exact wpAny_execs_nil q
  | ret v => exact q
  | brk => exact q
  | cont => exact q
 refine caught hxx I.ok.frames hs hl fun ea T cls od sl vs H' s3 ee I3 ex hv1 hTe hv2 tb3 fE fT le ⟨C, ec, hd, hth⟩ => ?_
 subst ee ec
 have inst : ∃ ox oo, PySem.W.InstAt s3.heap ea ox C oo := by
  cases od with
  | none => exact ⟨_, none, ex.obj, rfl, rfl, trivial⟩
  | some d =>
   obtain ⟨u, hu⟩ := hd d rfl
   obtain ⟨o, ho⟩ := (I3.hok d u hu).is
   exact ⟨_, some o, ex.obj, rfl, rfl, ho⟩
 obtain ⟨ox, oo, inst⟩ := inst
 have fin : ∀ {z : Stmt} {zs : List Stmt} {hp : Pos} {tz : Addr -> TS}, (∀ ea, PSs (X.held ea) (z :: zs) (tz ea)) -> tz ea D σ (upd H' ea (XH ea C od)) ->
   codeAny (model X.prog X.w) (X.A.mark (some (.ref ea))) (.handlers (.ref ea) [.ExceptHandler none none (z :: zs) hp] X.env) (fun r s₂ => match r with
    | .ok f => SP X pins D f s₂
    | .error w => cameBackBy (model X.prog X.w) X.A X.env X.xe w s₂) s3 := by
  intro z zs hp tz hz q
  refine codeAny_handlers_suite (Xc.land ex hv1 hTe tb3 fun h3 g1 g2 => ?_)
  have I4 : Inv X pins σ H' { s3 with heap := h3 } := I3.turned (t' := s3.toks) (it := T) g1 fT.1 fT.2.1 fT.2.2.2.1 fT.2.2.2.2.1 fT.2.2.2.2.2
  have I5 := I4.track (C := C) (od := od) (ea := ea) (s := { s3 with heap := h3 }) ⟨g1 _ _ hTe.symm ex.obj, ex.big⟩ hv2 fE.1 le fE.2.1 fE.2.2.2.2.1 fE.2.2.2.2.2
  refine wpAny_mono (hz ea pins _ _ _ _ (I5.held (ea := ea)) q) (fun f s6 q6 => ?_) fun _ _ w => False.elim w
  cases f with
  | next =>
   obtain ⟨σ', H6, I7, q7⟩ := q6
   exact ⟨σ', H6, I7.unheld I.ok, q7⟩
  | ret u =>
   obtain ⟨v, σ', H6, I7, r, q7⟩ := q6
   exact ⟨v, σ', H6, I7.unheld I.ok, r, q7⟩
  | brk =>
   obtain ⟨σ', H6, I7, q7⟩ := q6
   exact ⟨σ', H6, I7.unheld I.ok, q7⟩
  | cont =>
   obtain ⟨σ', H6, I7, q7⟩ := q6
   exact ⟨σ', H6, I7.unheld I.ok, q7⟩
 refine wpAny_handleBy_cons (codeAny_handlers_test (ld_glob (X := X.held ea) I3.held hg hm ?_ hdb)) (by intro q; cases q)
 rcases hth with ⟨hmro, q⟩ | ⟨hmro, hmro', q⟩
 ·exact Xc.matches_own (K := X.K) I3.kIn inst hmro hY tY (fin hh (q ea fE.1))
 ·refine Xc.matches_own (K := X.K) I3.kIn inst hmro hY tY ?_
  refine wpAny_handleBy_cons (codeAny_handlers_test (ld_glob (X := X.held ea) I3.held hg' hm' ?_ hdb')) (by intro q; cases q)
  exact Xc.matches_own (K := X.K) I3.kIn inst hmro' hY' tY' (fin hh' (q ea fE.1))
end
end L2
namespace L2
open PySem PySem.Spec PyProof.Rows
abbrev Tabs := Addr -> Option (Pos × Str)
def tabsOf (K : PySem.W.Frag) (L : List (Str × Pos × Str)) : Tabs := fun b => L.findSome? fun e => match tabIn K e.1 with
 | some p => if b = p.2 then some e.2 else none
 | none => none
theorem tabs_one {K : PySem.W.Frag} {f : Str} {pl : Pos} {q : Str} {c P : Addr} (h : tabIn K f = some (c, P)) : tabsOf K [(f, pl, q)] P = some (pl, q) := by
 unfold tabsOf
 simp [h]
theorem tabs_mem {K : PySem.W.Frag} {L : List (Str × Pos × Str)} {b : Addr} {p : Pos × Str} (h : tabsOf K L b = some p) : ∃ e ∈ L, ∃ c, tabIn K e.1 = some (c, b) := by
 unfold tabsOf at h
 obtain ⟨e, he, q⟩ := List.exists_of_findSome?_eq_some h
 refine ⟨e, he, ?_⟩
 cases z : tabIn K e.1 with
 | none => rw [z] at q; cases q
 | some r =>
  rw [z] at q
  dsimp only at q
  split at q
  ·rename_i hb
   exact ⟨r.1, by rw [hb]⟩
  ·cases q
def TabsIn (K : PySem.W.Frag) (L : List (Str × Pos × Str)) (H : Hp) : Prop := ∀ b p, tabsOf K L b = some p -> H b = some (.tbl p.1 p.2)
theorem law_callT {P : Program} {w : World} {K : PySem.W.Frag} {mg mb : Str -> Option Value} {CX : CXT} {k : Nat} {fa a : Addr} {fd : FuncData} {x : Str} {sp : Sp} {s₁ : Shared} {vs : List Value} {ns : List Int} (τ : Tabs)
  (KX : K.In s₁.heap) (hns : s₁.heap.Ns mainGlobals mg) (hb : s₁.heap.Ns builtinsNs mb) (hbb : ∀ x : Str, x ≠ "__name__" -> mb x = bootBuiltins x) (hlim : s₁.heap.NoLimit) (hg : s₁.gens = #[])
  (hbm : ∃ bm ob, mg "__builtins__" = some (.ref bm) /\ bm ≠ builtinsNs /\ s₁.heap.get? bm = some ob /\ ob.cls = .type "module" /\ ob.dict = some builtinsNs /\ ob.data = .plain)
  (hτ : ∀ b p, τ b = some p -> ∃ c, PySem.W.CodeHd s₁.heap c b /\ s₁.heap.get? b = some (PySem.W.tabObj #[])) (hτK : ∀ b p, τ b = some p -> K.lookup b = none)
  (ha : s₁.heap.get? a = some { cls := .type "list", data := .seq vs.toArray }) (hi : IntsAre vs ns) (hl : ns.length <= sizeLine) (hr : Room k callerA)
  (F : ∀ base : Heap, K.In base -> base.Ns mainGlobals mg -> FnOk P w K mg base CX k fa fd [x] sp) (hbind : ∀ (s : Shared) (u : Value), BindsTo s fd ⟨[u], []⟩ [(x, u)])
  (hsp : ∀ H : Hp, (∀ b p, τ b = some p -> H b = some (.tbl p.1 p.2)) -> SqL K H a (ns.map V.int) -> sp [.ref a] H (fun v _ => v = .bl true) fun _ _ _ => False)
  (hCX : ∀ H e s', CX [] H s₁ (fun _ _ _ => False) e s' -> False) :
  codeAny (model P w) callerA (.call (.ref fa) ⟨[.ref a], []⟩) (fun r s' => r = .ok (.ret (.bool true)) /\ OldK s₁.heap s'.heap /\ s'.os = s₁.os /\ AllBare s'.gens) s₁ := by
 have rv := vals_ints hi
 have lenV := hi.length
 have hta : ∀ p, τ a ≠ some p := fun p z => by
  obtain ⟨c, _, e⟩ := hτ a p z
  rw [ha] at e; cases e
 have core : ∀ H : Hp, (∀ b p, τ b = some p -> H b = some (.tbl p.1 p.2)) -> SqL K H a (ns.map V.int) -> HOk P w H s₁.heap ->
   (∀ b u, H b = some u -> (b = a /\ (∃ o xs, u = .frz o (.lst xs)) /\ K.lookup a = none) \/ ∃ p, τ b = some p /\ u = .tbl p.1 p.2) ->
   codeAny (model P w) callerA (.call (.ref fa) ⟨[.ref a], []⟩) (fun r s' => r = .ok (.ret (.bool true)) /\ OldK s₁.heap s'.heap /\ s'.os = s₁.os /\ AllBare s'.gens) s₁ := by
  intro H hT hS hok hA
  have obj_of : ∀ {b : Addr} {o : Obj} {u : HO}, s₁.heap.get? b = some o -> H b = some u -> (∃ xs n, o.data = .seq xs n) \/ ∃ ps, o.data = .fields ps /\ o.cls = .none := fun {b o u} e q => by
   rcases hA b u q with ⟨rfl, _⟩ | ⟨p, hp, _⟩
   ·rw [ha] at e; cases e; exact .inl ⟨_, _, rfl⟩
   ·obtain ⟨c, _, e'⟩ := hτ b p hp
    rw [e'] at e; cases e; exact .inr ⟨_, rfl, rfl⟩
  have base_of : ∀ {b : Addr} {o : Obj}, s₁.heap.get? b = some o -> H b = none -> (hidT s₁.heap H).get? b = some o := fun e n => hidT_get e n
  have noA : ∀ {b : Addr} {o : Obj} {es : Array DictEntry} {ep : Nat}, s₁.heap.get? b = some o -> o.data = .dict es ep -> H b = none := fun {b o es ep} e d => by
   cases q : H b with
   | none => rfl
   | some u =>
    rcases obj_of e q with ⟨xs, n, z⟩ | ⟨ps, z, _⟩
    ·rw [d] at z; cases z
    ·rw [d] at z; cases z
  have nsK : ∀ {b : Addr} {m : Str -> Option Value}, s₁.heap.Ns b m -> (hidT s₁.heap H).Ns b m := fun {b m} ⟨o, es, ep, e, d, r⟩ => ⟨o, es, ep, base_of e (noA e d), d, r⟩
  have hKb : K.In (hidT s₁.heap H) := fun b o e => base_of (KX b o e) (by
   cases q : H b with
   | none => rfl
   | some u =>
    rcases hA b u q with ⟨rfl, _, z⟩ | ⟨p, hp, _⟩
    ·rw [z] at e; cases e
    ·rw [hτK b p hp] at e; cases e)
  obtain ⟨bm, ob, m1, m2, m3, m4, m5, m6⟩ := hbm
  have hbmH : H bm = none := by
   cases q : H bm with
   | none => rfl
   | some u =>
    rcases obj_of m3 q with ⟨xs, n, z⟩ | ⟨ps, z, _⟩
    ·rw [m6] at z; cases z
    ·rw [m6] at z; cases z
  have hM : Mod K mg (hidT s₁.heap H) := ⟨hKb, nsK hns, ⟨mb, nsK hb, hbb⟩, let ⟨mc, h1, h2⟩ := hlim; ⟨mc, nsK h1, h2⟩, ⟨bm, ob, m1, m2, base_of m3 hbmH, m4, m5, m6⟩⟩
  have e0 : Env0 P w K mg (hidT s₁.heap H) callerA [] s₁ H := ⟨rfl, hM, fun b o e => of_hidT e, Nat.le_of_eq (hidT_size _ _), trivial, fun b hb => absurd (show b ∈ ([] : List Addr) from hb) (by simp), hok, .of_eq hg⟩
  refine codeAny_mono ((F _ hKb (nsK hns)).run callerA [] s₁ H ⟨[.ref a], []⟩ [.ref a] [.ref a] _ _ hr e0 (hbind s₁ (.ref a)) (.cons rfl .nil) (hsp H hT hS)) fun r s' h => ?_
  cases r with
  | error e => exact (hCX H e s' h).elim
  | ok fl =>
   cases fl with
   | next => exact False.elim h
   | brk => exact False.elim h
   | cont => exact False.elim h
   | ret u =>
    obtain ⟨v, H', os, bare, un, hok', r', q⟩ := h
    have q' : v = .bl true := q
    subst q'
    obtain rfl : u = Value.bool true := r'
    have was : ∀ b o, s₁.heap.get? b = some o -> asItWas s₁.heap s'.heap b o := fun b o e => by
     cases q : H b with
     | none => exact .inl (un.keep b o e q (by intro z; exact absurd (show b ∈ ([] : List Addr) from z) (by simp)) (by simp))
     | some u =>
      rcases hA b u q with ⟨rfl, ⟨ob', xs, rfl⟩, _⟩ | ⟨p, hp, rfl⟩
      ·have z2 := un.frzs b ob' _ q
       obtain ⟨e1, _⟩ := hok b _ q
       obtain ⟨e2, _⟩ := hok' b _ z2
       rw [e] at e1; cases e1
       exact .inl e2
      ·obtain ⟨c, C, e'⟩ := hτ b p hp
       rw [e'] at e; cases e
       obtain ⟨ps, z, _⟩ := hok' b _ (un.tbls b _ _ q)
       refine .inr (.inl ⟨(C.tab e').isCodeTable, rfl, #[], ps, rfl, ?_⟩)
       rw [z]
       simp
    exact ⟨rfl, ⟨was, fun b o e => un.there b o e (by simp)⟩, os, bare⟩
 have tok : ∀ (H : Hp) b p, τ b = some p -> ObjOk P w H s₁.heap b (.tbl p.1 p.2) := fun H b p hp => by
  obtain ⟨c, _, e⟩ := hτ b p hp
  refine ⟨#[], e, trivial, fun cv z => ?_⟩
  simp [codeAmong] at z
 cases hk : K.lookup a with
 | some o =>
  have e := KX a o hk
  rw [ha] at e
  cases e
  refine core (fun b => (τ b).map fun p => .tbl p.1 p.2) (fun b p hp => by simp [hp]) (.inr ⟨_, vs.toArray, _, hk, rfl, rfl, rfl, by rw [List.size_toArray, lenV]; exact hl, by simpa using rv⟩) (fun b u z => ?_) (fun b u z => ?_)
  ·obtain ⟨p, hp, rfl⟩ := Option.map_eq_some_iff.mp z
   exact tok _ b p hp
  ·obtain ⟨p, hp, rfl⟩ := Option.map_eq_some_iff.mp z
   exact .inr ⟨p, hp, rfl⟩
 | none =>
  refine core (fun b => if b = a then some (.frz { cls := .type "list", data := .seq vs.toArray } (.lst (ns.map V.int))) else (τ b).map fun p => .tbl p.1 p.2) (fun b p hp => ?_) (.inl (.inr ⟨{ cls := .type "list", data := .seq vs.toArray }, if_pos rfl⟩)) (fun b u z => ?_) (fun b u z => ?_)
  ·have hb : b ≠ a := fun q => hta p (q ▸ hp)
   show (if b = a then _ else _) = _
   rw [if_neg hb, hp]; rfl
  ·by_cases hb : b = a
   ·have z' := (if_pos hb).symm.trans z
    cases z'
    subst hb
    exact ⟨ha, by rw [List.length_map]; exact hl, vs, _, rv, ha⟩
   ·have z' := (if_neg hb).symm.trans z
    obtain ⟨p, hp, rfl⟩ := Option.map_eq_some_iff.mp z'
    exact tok _ b p hp
  ·by_cases hb : b = a
   ·have z' := (if_pos hb).symm.trans z
    cases z'
    exact .inl ⟨hb, ⟨_, _, rfl⟩, hk⟩
   ·have z' := (if_neg hb).symm.trans z
    obtain ⟨p, hp, rfl⟩ := Option.map_eq_some_iff.mp z'
    exact .inr ⟨p, hp, rfl⟩
theorem walk_ofT {l : PySem.W.OpenLaw} {n k : Nat} {q : Program} {loose : List Str} {XP : (Str -> Option Value) -> Heap -> Prop} {YP : World -> Heap -> Prop} {d : DefRec} {K : Params -> PySem.W.Frag} {CX : World -> CXT} {sp : World -> Sp} {x : Str} (L : List (Str × Pos × Str))
  (hn : l.most = some n) (hn2 : n <= sizeLine) (hdf : d.params.defaults = []) (hr : Room k callerA)
  (hY : ∀ (w : World) (h : Heap), YP w h -> (K w.params).In h)
  (hL : ∀ e ∈ L, ∃ d', (recsOf q).find? (fun r => r.name == e.1) = some d') (hK : ∀ (w : World), ∀ e ∈ L, ∀ c P, tabIn (K w.params) e.1 = some (c, P) -> (K w.params).lookup P = none)
  (F : ∀ (w : World) (mg : Str -> Option Value) (fa : Addr) (h : Heap), (K w.params).In h -> h.Ns mainGlobals mg -> mg d.name = some (.ref fa) ->
   ∃ fd : FuncData, (∀ (s : Shared) (u : Value), BindsTo s fd ⟨[u], []⟩ [(x, u)]) /\
    ∀ base : Heap, (K w.params).In base -> base.Ns mainGlobals mg -> FnOk l.prog w (K w.params) mg base (CX w) k fa fd [x] (sp w))
  (hsp : ∀ (w : World) (H : Hp) (a : Addr) (ns : List Int), ns.length <= n -> TabsIn (K w.params) L H -> SqL (K w.params) H a (ns.map V.int) -> sp w [.ref a] H (fun v _ => v = .bl true) fun _ _ _ => False)
  (hCX : ∀ (w : World) (H : Hp) (s : Shared) (e : Value) (s' : Shared), CX w [] H s (fun _ _ _ => False) e s' -> False) :
  PySem.W.WalkO q loose XP YP l.row.toRowW d [] (fun f vs => PySem.call f vs) := by
 refine Att.attach_call hn hdf fun w s₀ s₁ mg mb fa o pm cd doc a vs ns G Y ho hd hcd hmg hobj hints hlen hg => ?_
 have KX := hY w _ Y
 obtain ⟨fd, hb, hF⟩ := F w mg fa _ KX G.T.g hmg
 refine law_callT (tabsOf (K w.params) L) KX G.T.g G.T.b G.T.builtins G.T.nolimit hg G.T.bmain (fun b p hp => ?_) (fun b p hp => ?_) hobj hints (Nat.le_trans hlen hn2) hr hF hb (fun H hO hS => hsp w H a ns hlen hO hS) fun H e s' => hCX w H s₁ e s'
 ·obtain ⟨e, he, c, z⟩ := tabs_mem hp
  obtain ⟨d', hd'⟩ := hL e he
  obtain ⟨h1, h2⟩ := PySem.W.tab_of G.T KX hd' z
  exact ⟨c, h1, h2⟩
 ·obtain ⟨e, he, c, z⟩ := tabs_mem hp
  exact hK w e he c b z
end L2
namespace My
open PySem L2 PyProof.Rows
theorem small1000' {n : Nat} (h : n <= 100000) : n < sizeLine := by rw [sizeLine_eq]; omega
end My
namespace My
theorem steps_append {T : List Int} {b : Bool} : ∀ {ms ms' : List Yd.Mv} {s s' : Yd.St}, Yd.steps T b s ms = some s' -> Yd.steps T b s (ms ++ ms') = Yd.steps T b s' ms'
 | [], ms', s, s', h => by
  have : s = s' := Option.some.inj h
  rw [this]
  rfl
 | m :: r, ms', s, s', h => by
  have h' : (Yd.step T b s m).bind (fun z => Yd.steps T b z r) = some s' := h
  show (Yd.step T b s m).bind (fun z => Yd.steps T b z (r ++ ms')) = _
  cases e : Yd.step T b s m with
  | none => rw [e] at h'; cases h'
  | some z => rw [e] at h'; exact steps_append h'
theorem steps_stuck {T : List Int} {b : Bool} {s s' : Yd.St} {ms : List Yd.Mv} {i : Nat} {m : Yd.Mv} (h : Yd.steps T b s (ms.take i) = some s') (hm : ms[i]? = some m) (h2 : Yd.step T b s' m = none) : Yd.steps T b s ms = none := by
 have e : ms = ms.take i ++ (m :: ms.drop (i + 1)) := by
  obtain ⟨hi, rfl⟩ := List.getElem?_eq_some_iff.mp hm
  rw [<- List.drop_eq_getElem_cons hi, List.take_append_drop]
 rw [e, steps_append h]
 show (Yd.step T b s' m).bind _ = none
 rw [h2]
 rfl
end My
namespace L2
open PySem PySem.Spec PyProof.Rows
def revN (n : Nat) : Option Int -> Nat
 | none => n
 | some i => (max (-1) (min (if i < 0 then i + n else i) ((n : Int) - 1)) + 1).toNat
theorem revN_le (n : Nat) (lo : Option Int) : revN n lo <= n := by
 cases lo with
 | none => exact Nat.le_refl _
 | some i => unfold revN; split <;> omega
def revV (xs : List V) (lo : Option Int) : List V := (xs.take (revN xs.length lo)).reverse
theorem pick_rev {α : Type} (its : List α) : ∀ m, m <= its.length -> ((List.range m).map fun k => m - 1 - k).filterMap (its[·]?) = (its.take m).reverse
 | 0, _ => rfl
 | m + 1, h => by
  have ih := pick_rev its m (by omega)
  rw [List.range_succ_eq_map, List.map_cons, List.map_map, List.filterMap_cons]
  have e0 : its[m + 1 - 1 - 0]? = some its[m] := by simp
  rw [e0, take_snocG (its := its) (show m < its.length by omega), List.reverse_append]
  show its[m] :: _ = its[m] :: _
  congr 1
  rw [<- ih]
  congr 1
  refine List.map_congr_left fun k hk => ?_
  show m + 1 - 1 - (k + 1) = m - 1 - k
  omega
where
 take_snocG {α : Type} {its : List α} {m : Nat} (h : m < its.length) : its.take (m + 1) = its.take m ++ [its[m]] := by
  rw [List.take_add_one, List.getElem?_eq_getElem h]
  rfl
theorem slicePick_rev (its : List Value) (lo : Option Int) : slicePick its.toArray lo none (some (-1)) = ((its.take (revN its.length lo)).reverse).toArray := by
 have hle := revN_le its.length lo
 rw [<- pick_rev its _ hle]
 unfold slicePick
 have hb : (sliceBounds lo none (some (-1)) its.toArray.size).1 = (revN its.length lo : Int) - 1 /\ (sliceBounds lo none (some (-1)) its.toArray.size).2.1 = -1 /\ (sliceBounds lo none (some (-1)) its.toArray.size).2.2 = -1 := by
  refine ⟨?_, ?_, rfl⟩
  ·rw [List.size_toArray]
   cases lo with
   | none => simp [sliceBounds, revN]
   | some i =>
    simp only [sliceBounds, revN, Option.getD_some, show ¬ ((-1 : Int) > 0) by decide, if_false]
    split <;> omega
  ·simp [sliceBounds]
 rw [hb.1, hb.2.1, hb.2.2]
 congr 1
 have er : sliceRange ((revN its.length lo : Int) - 1) (-1) (-1) = (List.range (revN its.length lo)).map fun k => revN its.length lo - 1 - k := by
  unfold sliceRange
  simp only [show ¬ ((-1 : Int) > 0) by decide, if_false]
  by_cases h : revN its.length lo = 0
  ·rw [h]
   simp
  ·rw [if_pos (show ((revN its.length lo : Int) - 1) > -1 by omega)]
   have e1 : (((revN its.length lo : Int) - 1 - -1 - -1 - 1) / - -1).toNat = revN its.length lo := by
    rw [show - -(1 : Int) = 1 from rfl, Int.ediv_one]
    omega
   rw [e1]
   refine List.map_congr_left fun k hk => ?_
   have := List.mem_range.mp hk
   omega
 rw [er]
 congr 1
 funext x
 simp
section
variable {X : Cx} {K : PySem.W.Frag} {e st : Expr} {te : TE} {lo : Option Expr} {tl ts : TO} {pos p2 : Pos}
def tRev (K : PySem.W.Frag) (te : TE) (tl ts : TO) : TE := fun σ H Q => te σ H fun x H1 => tl σ H1 fun l H2 => ts σ H2 fun z H3 => z = some (-1) /\ ∃ a xs, x = .ref a /\ SqL K H3 a xs /\ ∀ p, H3 p = none -> Q (.ref p) (upd H3 p (.lst (revV xs l)))
theorem pe_rev (hK : X.K = K) (he : PE X e te) (hl : PO X lo tl) (hs : PO X (some st) ts) : PE X (.Subscript e (.Slice lo none (some st) p2) pos) (tRev K te tl ts) := by
 subst hK
 intro pins s σ H Q I h
 refine Subscript_ (thn (he pins s σ H _ I h) fun v s1 ⟨x, H1, I1, r1, q1⟩ => ?_)
 refine wpAny_Slice (thn (hl pins s1 σ H1 _ I1 q1) fun vl s2 ⟨l, H2, I2, pl, q2⟩ => ?_)
 rw [evalPart_none]
 refine wpAny_pure (thn (hs pins s2 σ H2 _ I2 q2) fun vs s3 ⟨z, H3, I3, pz, ez, a, xs, ex, hx, q3⟩ => ?_)
 subst ez ex
 cases r1
 have I4 : Inv X pins σ H3 { s3 with heap := s3.heap.push { cls := .type "slice", data := .fields #[vl, .none, vs] } } := I3.kept (t' := s3.toks) fun b ob q => Heap.get?_push_of_some _ q
 obtain ⟨its, r, ht, hz⟩ := I4.list hx
 have hlen := r.length
 show wpAny (model X.prog X.w) X.A (subscriptTail e (.Slice lo none (some st) p2) (.ref a) (.ref s3.heap.objs.size)) (EP X pins σ Q) X.xe { s3 with heap := s3.heap.push { cls := .type "slice", data := .fields #[vl, .none, vs] } }
 refine tail_any (ops := [.ref a, .ref s3.heap.objs.size]) ht.isList.typeIs slot_list_getitem.lookup ?_ (by with_unfolding_all rfl)
 refine wpAny_getItem_list_slice ht.isList (Heap.IsSliceOf.new ..) pl .none pz (by simp) ?_ (by rw [List.size_toArray]; omega)
 rw [slicePick_rev, <- hlen]
 refine ⟨.ref _, _, I4.laid (t' := s3.toks) (o := .lst (revV xs l)) (fun b ob q => Heap.get?_push_of_some _ q) (Nat.le_refl _) ?_, rfl, q3 _ (I4.hok.fresh (Nat.le_refl _))⟩
 refine ⟨?_, (its.take (revN xs.length l)).reverse, 0, ?_, Heap.get?_push_size _ rfl⟩
 ·unfold revV
  rw [List.length_reverse, List.length_take]
  omega
 ·unfold revV
  exact (r.take _).reverse
end
theorem revV_all (xs : List V) : revV xs none = xs.reverse := by
 unfold revV revN
 rw [List.take_length]
end L2
namespace Yd
theorem step_app {T : List Int} {bl : Bool} {s s' : St} {m : Mv} (h : step T bl s m = some s') : ∃ w, s'.left = s.left ++ w := by
 unfold step at h
 split at h
 ·split at h
  ·cases h; exact ⟨[], by simp⟩
  ·cases h
 ·split at h
  ·split at h
   ·cases h; exact ⟨_, rfl⟩
   ·cases h
  ·split at h
   ·cases h; exact ⟨_, rfl⟩
   ·cases h
theorem steps_cons {T : List Int} {bl : Bool} {s st : St} {m : Mv} {r : List Mv} (h : steps T bl s (m :: r) = some st) : ∃ s', step T bl s m = some s' /\ steps T bl s' r = some st := by
 have h1 : (step T bl s m).bind (fun s' => steps T bl s' r) = some st := h
 cases e : step T bl s m with
 | none => rw [e] at h1; cases h1
 | some s' => rw [e] at h1; exact ⟨s', rfl, h1⟩
theorem steps_app {T : List Int} {bl : Bool} : ∀ {s st : St} {ms : List Mv}, steps T bl s ms = some st -> ∃ w, st.left = s.left ++ w
 | s, st, [], h => by
  have e : s = st := by simpa [steps] using h
  exact ⟨[], by rw [e]; simp⟩
 | s, st, m :: r, h => by
  obtain ⟨s', h1, h2⟩ := steps_cons h
  obtain ⟨w1, e1⟩ := step_app h1
  obtain ⟨w2, e2⟩ := steps_app h2
  exact ⟨w1 ++ w2, by rw [e2, e1, List.append_assoc]⟩
theorem steps_append {T : List Int} {bl : Bool} : ∀ {s : St} {a b : List Mv}, steps T bl s (a ++ b) = (steps T bl s a).bind fun s' => steps T bl s' b
 | s, [], b => rfl
 | s, m :: a, b => by
  show (step T bl s m).bind (fun s' => steps T bl s' (a ++ b)) = ((step T bl s m).bind fun s' => steps T bl s' a).bind fun s' => steps T bl s' b
  cases e : step T bl s m with
  | none => rfl
  | some s' => exact steps_append
theorem step_cases {T : List Int} {bl : Bool} {s s' : St} {m : Mv} (h : step T bl s m = some s') (hv : m.2 < s.tr.length) :
  (m.1 = true /\ ∃ x c, T[s.came]? = some x /\ s.tr[m.2]? = some c /\ s' = ⟨s.tr.set m.2 (c ++ [x]), s.left, s.came + 1⟩) \/
  (m.1 = false /\ bl = true /\ ∃ x c, s.tr[m.2]? = some (c ++ [x]) /\ s' = ⟨s.tr.set m.2 c, s.left ++ [x], s.came⟩) \/
  (m.1 = false /\ bl = false /\ ∃ x c, s.tr[m.2]? = some (x :: c) /\ s' = ⟨s.tr.set m.2 c, s.left ++ [x], s.came⟩) := by
 obtain ⟨c, hc⟩ : ∃ c, s.tr[m.2]? = some c := ⟨_, List.getElem?_eq_getElem hv⟩
 have hD : s.tr.getD m.2 [] = c := by rw [List.getD_eq_getElem?_getD, hc]; rfl
 unfold step at h
 rw [hD] at h
 split at h
 ·rename_i h1
  split at h
  ·rename_i x e
   cases h
   exact .inl ⟨h1, x, c, e, hc, rfl⟩
  ·cases h
 ·rename_i h1
  have h1' : m.1 = false := by simpa using h1
  split at h
  ·rename_i h2
   split at h
   ·rename_i x e
    cases h
    refine .inr (.inl ⟨h1', h2, x, c.dropLast, ?_, rfl⟩)
    rw [hc]
    congr 1
    have hne : c ≠ [] := fun z => by rw [z] at e; cases e
    have := List.dropLast_concat_getLast hne
    rw [List.getLast?_eq_some_getLast hne] at e
    rw [<- Option.some.inj e]
    exact this.symm
   ·cases h
  ·rename_i h2
   have h2' : bl = false := by simpa using h2
   split at h
   ·rename_i x r
    cases h
    exact .inr (.inr ⟨h1', h2', _, _, hc, rfl⟩)
   ·cases h
theorem sum_set {tr : List (List Int)} {j : Nat} {c c' : List Int} (h : tr[j]? = some c) : ((tr.set j c').map List.length).sum + c.length = (tr.map List.length).sum + c'.length := by
 induction tr generalizing j with
 | nil => simp at h
 | cons a r ih =>
  cases j with
  | zero =>
   have e : a = c := by simpa using h
   subst e
   simp only [List.set_cons_zero, List.map_cons, List.sum_cons]
   omega
  | succ j =>
   have h' : r[j]? = some c := by simpa using h
   have := ih h'
   simp only [List.set_cons_succ, List.map_cons, List.sum_cons]
   omega
theorem le_sum {l : List Nat} {x : Nat} (h : x ∈ l) : x <= l.sum := by
 induction l with
 | nil => cases h
 | cons a r ih =>
  rw [List.sum_cons]
  rcases List.mem_cons.mp h with rfl | z
  ·omega
  ·have := ih z; omega
theorem steps_count {T : List Int} {bl : Bool} : ∀ {s st : St} {ms : List Mv}, steps T bl s ms = some st -> (∀ m ∈ ms, m.2 < s.tr.length) -> s.left.length + (s.tr.map List.length).sum = s.came -> st.left.length + (st.tr.map List.length).sum = st.came
 | s, st, [], h, _, hc => by
  have e : s = st := by simpa [steps] using h
  rw [<- e]; exact hc
 | s, st, m :: r, h, hv, hc => by
  obtain ⟨s', h1, h2⟩ := steps_cons h
  have hl := step_len h1
  refine steps_count h2 (fun m' hm => by rw [hl]; exact hv m' (List.mem_cons_of_mem _ hm)) ?_
  rcases step_cases h1 (hv m List.mem_cons_self) with ⟨_, x, c, _, e, rfl⟩ | ⟨_, _, x, c, e, rfl⟩ | ⟨_, _, x, c, e, rfl⟩
  ·have := sum_set (c' := c ++ [x]) e
   simp only [List.length_append, List.length_cons, List.length_nil] at this ⊢
   omega
  ·have := sum_set (c' := c) e
   simp only [List.length_append, List.length_cons, List.length_nil] at this ⊢
   omega
  ·have := sum_set (c' := c) e
   simp only [List.length_append, List.length_cons, List.length_nil] at this ⊢
   omega
theorem init_count (n : Nat) : (init n).left.length + ((init n).tr.map List.length).sum = (init n).came := by
 show 0 + ((List.replicate n ([] : List Int)).map List.length).sum = 0
 rw [List.map_replicate]
 simp
structure Done (T : List Int) (st : St) : Prop where
 came : st.came = T.length
 empty : ∀ (j : Nat) c, st.tr[j]? = some c -> c = []
theorem done_of {T : List Int} {bl : Bool} {n : Nat} {st : St} {ms : List Mv} (h : steps T bl (init n) ms = some st) (hv : ∀ m ∈ ms, m.2 < n) (hl : st.left.length = T.length) : Done T st := by
 have h1 := steps_count h (fun m hm => by show m.2 < (List.replicate n ([] : List Int)).length; rw [List.length_replicate]; exact hv m hm) (init_count n)
 have h2 := steps_came h (Nat.zero_le _)
 refine ⟨by omega, fun j c e => ?_⟩
 have h3 : c.length <= (st.tr.map List.length).sum := by
  have hm : c.length ∈ st.tr.map List.length := List.mem_map.mpr ⟨c, List.mem_of_getElem? e, rfl⟩
  exact le_sum hm
 have h4 : c.length = 0 := by omega
 exact List.length_eq_zero_iff.mp h4
theorem leaves {T : List Int} {bl : Bool} : ∀ {s st : St} {ms : List Mv} {j : Nat} {c : List Int} {a : Int}, steps T bl s ms = some st -> (∀ m ∈ ms, m.2 < s.tr.length) -> Done T st -> s.tr[j]? = some c -> a ∈ c -> ∃ w, st.left = s.left ++ w /\ a ∈ w
 | s, st, [], j, c, a, h, _, D, hc, ha => by
  have e : s = st := by simpa [steps] using h
  rw [e] at hc
  rw [D.empty j c hc] at ha
  cases ha
 | s, st, m :: r, j, c, a, h, hv, D, hc, ha => by
  obtain ⟨s', h1, h2⟩ := steps_cons h
  have hl := step_len h1
  have hv' : ∀ m' ∈ r, m'.2 < s'.tr.length := fun m' hm => by rw [hl]; exact hv m' (List.mem_cons_of_mem _ hm)
  obtain ⟨w1, e1⟩ := step_app h1
  have go : ∀ {c' : List Int}, s'.tr[j]? = some c' -> a ∈ c' -> ∃ w, st.left = s.left ++ w /\ a ∈ w := fun hc' ha' => by
   obtain ⟨w, e, hw⟩ := leaves h2 hv' D hc' ha'
   exact ⟨w1 ++ w, by rw [e, e1, List.append_assoc], List.mem_append_right _ hw⟩
  have gone : ∀ {x : Int}, s'.left = s.left ++ [x] -> a = x -> ∃ w, st.left = s.left ++ w /\ a ∈ w := fun {x} e ex => by
   obtain ⟨w, e2⟩ := steps_app h2
   exact ⟨[x] ++ w, by rw [e2, e, List.append_assoc], by simp [ex]⟩
  have hj : j < s.tr.length := (List.getElem?_eq_some_iff.mp hc).1
  rcases step_cases h1 (hv m List.mem_cons_self) with ⟨_, x, d, _, e, es⟩ | ⟨_, _, x, d, e, es⟩ | ⟨_, _, x, d, e, es⟩
  ·by_cases hjm : m.2 = j
   ·subst hjm
    rw [hc] at e
    cases e
    exact go (c' := c ++ [x]) (by rw [es]; exact List.getElem?_set_self hj) (List.mem_append_left _ ha)
   ·exact go (c' := c) (by rw [es]; show (s.tr.set m.2 _)[j]? = _; rw [List.getElem?_set_ne hjm]; exact hc) ha
  ·by_cases hjm : m.2 = j
   ·subst hjm
    rw [hc] at e
    have e' : c = d ++ [x] := Option.some.inj e
    rw [e'] at ha
    rcases List.mem_append.mp ha with z | z
    ·exact go (c' := d) (by rw [es]; exact List.getElem?_set_self hj) z
    ·exact gone (by rw [es]) (by simpa using z)
   ·exact go (c' := c) (by rw [es]; show (s.tr.set m.2 _)[j]? = _; rw [List.getElem?_set_ne hjm]; exact hc) ha
  ·by_cases hjm : m.2 = j
   ·subst hjm
    rw [hc] at e
    have e' : c = x :: d := Option.some.inj e
    rw [e'] at ha
    rcases List.mem_cons.mp ha with z | z
    ·exact gone (by rw [es]) z
    ·exact go (c' := d) (by rw [es]; exact List.getElem?_set_self hj) z
   ·exact go (c' := c) (by rw [es]; show (s.tr.set m.2 _)[j]? = _; rw [List.getElem?_set_ne hjm]; exact hc) ha
theorem comes {T : List Int} {bl : Bool} : ∀ {s st : St} {ms : List Mv} {k : Nat} {x : Int}, steps T bl s ms = some st -> (∀ m ∈ ms, m.2 < s.tr.length) -> Done T st -> s.came <= k -> T[k]? = some x -> ∃ w, st.left = s.left ++ w /\ x ∈ w
 | s, st, [], k, x, h, _, D, hk, hx => by
  have e : s = st := by simpa [steps] using h
  have := (List.getElem?_eq_some_iff.mp hx).1
  have := D.came
  rw [<- e] at this
  omega
 | s, st, m :: r, k, x, h, hv, D, hk, hx => by
  obtain ⟨s', h1, h2⟩ := steps_cons h
  have hl := step_len h1
  have hv' : ∀ m' ∈ r, m'.2 < s'.tr.length := fun m' hm => by rw [hl]; exact hv m' (List.mem_cons_of_mem _ hm)
  obtain ⟨w1, e1⟩ := step_app h1
  have go : s'.came <= k -> ∃ w, st.left = s.left ++ w /\ x ∈ w := fun hk' => by
   obtain ⟨w, e, hw⟩ := comes h2 hv' D hk' hx
   exact ⟨w1 ++ w, by rw [e, e1, List.append_assoc], List.mem_append_right _ hw⟩
  rcases step_cases h1 (hv m List.mem_cons_self) with ⟨_, y, d, ey, e, es⟩ | ⟨_, _, y, d, e, es⟩ | ⟨_, _, y, d, e, es⟩
  ·by_cases hkk : k = s.came
   ·subst hkk
    rw [hx] at ey
    cases ey
    obtain ⟨w, e', hw⟩ := leaves h2 hv' D (j := m.2) (c := d ++ [x]) (a := x) (by rw [es]; exact List.getElem?_set_self (hv m List.mem_cons_self)) (List.mem_append_right _ (by simp))
    exact ⟨w1 ++ w, by rw [e', e1, List.append_assoc], List.mem_append_right _ hw⟩
   ·exact go (by rw [es]; show s.came + 1 <= k; omega)
  ·exact go (by rw [es]; exact hk)
  ·exact go (by rw [es]; exact hk)
theorem lifo {T : List Int} {bl : Bool} : ∀ {s st : St} {ms : List Mv} {j : Nat} {u v w : List Int} {a b : Int}, steps T bl s ms = some st -> (∀ m ∈ ms, m.2 < s.tr.length) -> Done T st -> st.left.Pairwise (· < ·) -> s.tr[j]? = some (u ++ a :: v ++ b :: w) ->
  if bl = true then b < a else a < b
 | s, st, [], j, u, v, w, a, b, h, _, D, _, hc => by
  have e : s = st := by simpa [steps] using h
  rw [e] at hc
  have := D.empty j _ hc
  simp at this
 | s, st, m :: r, j, u, v, w, a, b, h, hv, D, hp, hc => by
  obtain ⟨s', h1, h2⟩ := steps_cons h
  have hl := step_len h1
  have hv' : ∀ m' ∈ r, m'.2 < s'.tr.length := fun m' hm => by rw [hl]; exact hv m' (List.mem_cons_of_mem _ hm)
  have hj : j < s.tr.length := (List.getElem?_eq_some_iff.mp hc).1
  have stay : ∀ {u' v' w' : List Int}, s'.tr[j]? = some (u' ++ a :: v' ++ b :: w') -> if bl = true then b < a else a < b := fun e => lifo h2 hv' D hp e
  have other : ∀ (c' : List Int), m.2 ≠ j -> (s.tr.set m.2 c')[j]? = some (u ++ a :: v ++ b :: w) := fun c' hm => by rw [List.getElem?_set_ne hm]; exact hc
  have order : ∀ {y z : Int} {c' : List Int}, s'.left = s.left ++ [y] -> s'.tr[j]? = some c' -> z ∈ c' -> y < z := fun {y z c'} e hc' hz => by
   obtain ⟨w', e', hw⟩ := leaves h2 hv' D hc' hz
   rw [e', e, List.append_assoc, List.pairwise_append] at hp
   exact (List.pairwise_append.mp hp.2.1).2.2 y (by simp) z hw
  rcases step_cases h1 (hv m List.mem_cons_self) with ⟨_, y, d, ey, e, es⟩ | ⟨_, hb, y, d, e, es⟩ | ⟨_, hb, y, d, e, es⟩
  ·by_cases hm : m.2 = j
   ·subst hm
    rw [hc] at e
    have ed := Option.some.inj e
    refine stay (u' := u) (v' := v) (w' := w ++ [y]) ?_
    rw [es]
    show (s.tr.set m.2 (d ++ [y]))[m.2]? = _
    rw [List.getElem?_set_self hj, <- ed]
    simp
   ·exact stay (by rw [es]; exact other _ hm)
  ·by_cases hm : m.2 = j
   ·subst hm
    rw [hc] at e
    have ed := Option.some.inj e
    rw [if_pos hb]
    have hs' : s'.tr[m.2]? = some d := by rw [es]; exact List.getElem?_set_self hj
    rcases List.eq_nil_or_concat w with rfl | ⟨w', x, rfl⟩
    ·
     have e2 : u ++ a :: v = d /\ [b] = [y] := by
      have : (u ++ a :: v) ++ [b] = d ++ [y] := ed
      exact List.append_inj' this rfl
     have : y = b := by simpa using e2.2.symm
     subst this
     exact order (by rw [es]) hs' (by rw [<- e2.1]; simp)
    ·have e2 : u ++ a :: v ++ b :: w' = d := by
      have : (u ++ a :: v ++ b :: w') ++ [x] = d ++ [y] := by rw [<- ed]; simp
      exact (List.append_inj' this rfl).1
     have := stay (u' := u) (v' := v) (w' := w') (by rw [hs', e2])
     rw [if_pos hb] at this
     exact this
   ·exact stay (by rw [es]; exact other _ hm)
  ·by_cases hm : m.2 = j
   ·subst hm
    rw [hc] at e
    have ed := Option.some.inj e
    have hbl : ¬ bl = true := by rw [hb]; exact Bool.false_ne_true
    rw [if_neg hbl]
    have hs' : s'.tr[m.2]? = some d := by rw [es]; exact List.getElem?_set_self hj
    cases u with
    | nil =>
     have e2 : a = y /\ v ++ b :: w = d := by simpa using ed
     exact order (y := a) (by rw [es, e2.1]) hs' (by rw [<- e2.2]; simp)
    | cons x u' =>
     have e2 : x = y /\ u' ++ a :: v ++ b :: w = d := by simpa using ed
     have := stay (u' := u') (v' := v) (w' := w) (by rw [hs', e2.2])
     rw [if_neg hbl] at this
     exact this
   ·exact stay (by rw [es]; exact other _ hm)
def cm (ms : List Mv) : List Nat := (ms.filter (·.1)).map (·.2)
theorem cm_append (a b : List Mv) : cm (a ++ b) = cm a ++ cm b := by unfold cm; rw [List.filter_append, List.map_append]
theorem cm_in (t : Nat) : cm [(true, t)] = [t] := rfl
theorem cm_out (t : Nat) : cm [(false, t)] = [] := rfl
structure Placed (T : List Int) (p : List Mv) (s : St) : Prop where
 came : s.came = (cm p).length
 at_ : ∀ (i : Nat) (a : Int) (t : Nat), T[i]? = some a -> (cm p)[i]? = some t -> a ∈ s.left \/ ∃ c, s.tr[t]? = some c /\ a ∈ c
theorem placed_init (T : List Int) (n : Nat) : Placed T [] (init n) := ⟨rfl, fun i a t _ h => by simp [cm] at h⟩
theorem Placed.step {T : List Int} {bl : Bool} {p : List Mv} {s s' : St} {m : Mv} (P : Placed T p s) (h : step T bl s m = some s') (hv : m.2 < s.tr.length) : Placed T (p ++ [m]) s' := by
 obtain ⟨m1, m2⟩ := m
 have moved : ∀ {c c' : List Int} {l : List Int}, s.tr[m2]? = some c -> (∀ a ∈ c, a ∈ c' \/ a ∈ l) -> (∀ a ∈ s.left, a ∈ l) -> ∀ (a : Int) (t : Nat), (a ∈ s.left \/ ∃ c, s.tr[t]? = some c /\ a ∈ c) -> a ∈ l \/ ∃ d, (s.tr.set m2 c')[t]? = some d /\ a ∈ d := fun {c c' l} hc hcc hl a t ha => by
  rcases ha with ha | ⟨d, hd, ha⟩
  ·exact .inl (hl a ha)
  ·by_cases e : m2 = t
   ·subst e
    rw [hc] at hd
    cases hd
    rcases hcc a ha with z | z
    ·exact .inr ⟨c', List.getElem?_set_self hv, z⟩
    ·exact .inl z
   ·exact .inr ⟨d, by rw [List.getElem?_set_ne e]; exact hd, ha⟩
 rcases step_cases h hv with ⟨h1, x, c, hx, hc, rfl⟩ | ⟨h1, _, x, c, hc, rfl⟩ | ⟨h1, _, x, c, hc, rfl⟩
 ·have h1' : m1 = true := h1
  subst h1'
  refine ⟨by rw [cm_append, cm_in, List.length_append]; show s.came + 1 = _; rw [P.came]; rfl, fun i a t hi ht => ?_⟩
  rw [cm_append, cm_in] at ht
  rcases Nat.lt_or_ge i (cm p).length with hlt | hge
  ·rw [List.getElem?_append_left hlt] at ht
   exact moved (l := s.left) hc (fun a ha => .inl (List.mem_append_left _ ha)) (fun a ha => ha) a t (P.at_ i a t hi ht)
  ·rw [List.getElem?_append_right hge] at ht
   have e0 : i - (cm p).length = 0 := by
    cases q : i - (cm p).length with
    | zero => rfl
    | succ n => rw [q] at ht; simp at ht
   rw [e0] at ht
   have et : m2 = t := by simpa using ht
   have ei : i = s.came := by rw [P.came]; omega
   have hx' : T[s.came]? = some x := hx
   rw [ei, hx'] at hi
   cases hi
   subst et
   exact .inr ⟨_, List.getElem?_set_self hv, List.mem_append_right _ (List.mem_singleton.mpr rfl)⟩
 ·have h1' : m1 = false := h1
  subst h1'
  refine ⟨by rw [cm_append, cm_out, List.append_nil]; exact P.came, fun i a t hi ht => ?_⟩
  rw [cm_append, cm_out, List.append_nil] at ht
  refine moved (l := s.left ++ [x]) hc (fun a ha => ?_) (fun a ha => List.mem_append_left _ ha) a t (P.at_ i a t hi ht)
  rcases List.mem_append.mp ha with z | z
  ·exact .inl z
  ·exact .inr (List.mem_append_right _ z)
 ·have h1' : m1 = false := h1
  subst h1'
  refine ⟨by rw [cm_append, cm_out, List.append_nil]; exact P.came, fun i a t hi ht => ?_⟩
  rw [cm_append, cm_out, List.append_nil] at ht
  refine moved (l := s.left ++ [x]) hc (fun a ha => ?_) (fun a ha => List.mem_append_left _ ha) a t (P.at_ i a t hi ht)
  rcases List.mem_cons.mp ha with z | z
  ·exact .inr (by rw [z]; simp)
  ·exact .inl z
theorem Placed.steps {T : List Int} {bl : Bool} : ∀ {p q : List Mv} {s st : St}, Placed T p s -> steps T bl s q = some st -> (∀ m ∈ q, m.2 < s.tr.length) -> Placed T (p ++ q) st
 | p, [], s, st, P, h, _ => by
  have e : s = st := by simpa [Yd.steps] using h
  rw [List.append_nil, <- e]; exact P
 | p, m :: q, s, st, P, h, hv => by
  obtain ⟨s', h1, h2⟩ := steps_cons h
  have := Placed.steps (P.step h1 (hv m List.mem_cons_self)) h2 (fun m' hm => by rw [step_len h1]; exact hv m' (List.mem_cons_of_mem _ hm))
  rw [List.append_assoc] at this
  exact this
theorem cm_split : ∀ {ms : List Mv} {j t : Nat}, (cm ms)[j]? = some t -> ∃ p q, ms = p ++ (true, t) :: q /\ (cm p).length = j
 | [], j, t, h => by simp [cm] at h
 | (true, t') :: r, j, t, h => by
  have e : cm ((true, t') :: r) = t' :: cm r := rfl
  rw [e] at h
  cases j with
  | zero =>
   have : t' = t := by simpa using h
   subst this
   exact ⟨[], r, rfl, rfl⟩
  | succ j =>
   obtain ⟨p, q, e1, e2⟩ := cm_split (ms := r) (j := j) (t := t) (by simpa using h)
   exact ⟨(true, t') :: p, q, by rw [e1]; rfl, by show (t' :: cm p).length = _; rw [List.length_cons, e2]⟩
 | (false, t') :: r, j, t, h => by
  have e : cm ((false, t') :: r) = cm r := rfl
  rw [e] at h
  obtain ⟨p, q, e1, e2⟩ := cm_split (ms := r) (j := j) (t := t) h
  exact ⟨(false, t') :: p, q, by rw [e1]; rfl, e2⟩
structure Brings (T : List Int) (bl : Bool) (n : Nat) (ms : List Mv) : Prop where
 valid : ∀ m ∈ ms, m.2 < n
 ex : ∃ st, steps T bl (init n) ms = some st /\ st.left.length = T.length /\ st.left.Pairwise (· < ·)
theorem Brings.cm_len {T : List Int} {bl : Bool} {n : Nat} {ms : List Mv} (B : Brings T bl n ms) : (cm ms).length = T.length := by
 obtain ⟨st, h, hl, hp⟩ := B.ex
 have hv : ∀ m ∈ ms, m.2 < (init n).tr.length := fun m hm => by show m.2 < (List.replicate n ([] : List Int)).length; rw [List.length_replicate]; exact B.valid m hm
 have P := (placed_init T n).steps h hv
 rw [List.nil_append] at P
 rw [<- P.came, (done_of h B.valid hl).came]
theorem Brings.cm_lt {T : List Int} {bl : Bool} {n : Nat} {ms : List Mv} (B : Brings T bl n ms) {i t : Nat} (h : (cm ms)[i]? = some t) : t < n := by
 have hm : t ∈ cm ms := List.mem_of_getElem? h
 unfold cm at hm
 obtain ⟨m, hm', rfl⟩ := List.mem_map.mp hm
 exact B.valid m (List.mem_filter.mp hm').1
theorem Brings.two {T : List Int} {bl : Bool} {n : Nat} {ms : List Mv} (B : Brings T bl n ms) {i j t : Nat} {a b : Int} (hij : i < j) (hi : T[i]? = some a) (hj : T[j]? = some b) (ci : (cm ms)[i]? = some t) (cj : (cm ms)[j]? = some t) :
  (if bl = true then b < a else a < b) \/ ∀ k x, j <= k -> T[k]? = some x -> a < x := by
 obtain ⟨st, h, hl, hp⟩ := B.ex
 have D := done_of h B.valid hl
 obtain ⟨p, q, rfl, hpl⟩ := cm_split cj
 have hv0 : ∀ m ∈ p, m.2 < (init n).tr.length := fun m hm => by show m.2 < (List.replicate n ([] : List Int)).length; rw [List.length_replicate]; exact B.valid m (List.mem_append_left _ hm)
 rw [steps_append] at h
 cases e : steps T bl (init n) p with
 | none => rw [e] at h; cases h
 | some s =>
  rw [e] at h
  have h' : steps T bl s ((true, t) :: q) = some st := h
  have P := (placed_init T n).steps e hv0
  rw [List.nil_append] at P
  have hlen : s.tr.length = n := by rw [steps_len e]; show (List.replicate n ([] : List Int)).length = n; rw [List.length_replicate]
  have hvq : ∀ m ∈ (true, t) :: q, m.2 < s.tr.length := fun m hm => by rw [hlen]; exact B.valid m (List.mem_append_right _ hm)
  have ci' : (cm p)[i]? = some t := by
   rw [cm_append, List.getElem?_append_left (by omega)] at ci
   exact ci
  rcases P.at_ i a t hi ci' with ha | ⟨c, hc, ha⟩
  ·right
   intro k x hk hx
   obtain ⟨w, ew, hw⟩ := comes h' hvq D (k := k) (x := x) (by rw [P.came]; omega) hx
   rw [ew, List.pairwise_append] at hp
   exact hp.2.2 a ha x hw
  ·left
   obtain ⟨s', h1, h2⟩ := steps_cons h'
   have hvm := hvq (true, t) List.mem_cons_self
   rcases step_cases h1 hvm with ⟨_, x, d, hx, hd, es⟩ | ⟨z, _⟩ | ⟨z, _⟩
   ·have hd' : s.tr[t]? = some d := hd
    rw [hc] at hd'
    cases hd'
    rw [P.came, hpl, hj] at hx
    cases hx
    obtain ⟨u, v, rfl⟩ := List.append_of_mem ha
    refine lifo (j := t) (u := u) (v := v) (w := []) h2 (fun m hm => by rw [step_len h1]; exact hvq m (List.mem_cons_of_mem _ hm)) D hp ?_
    rw [es]
    exact List.getElem?_set_self hvm
   ·cases z
   ·cases z
theorem Brings.through {T : List Int} {n : Nat} {ms : List Mv} (B : Brings T false n ms) {i j t : Nat} {a b : Int} (hij : i < j) (hi : T[i]? = some a) (hj : T[j]? = some b) (ci : (cm ms)[i]? = some t) (cj : (cm ms)[j]? = some t) : a < b := by
 rcases B.two hij hi hj ci cj with h | h
 ·simpa using h
 ·exact h j b (Nat.le_refl _) hj
theorem Brings.track {T : List Int} {bl : Bool} {n : Nat} {ms : List Mv} (B : Brings T bl n ms) {i : Nat} (h : i < T.length) : ∃ t, (cm ms)[i]? = some t /\ t < n := by
 have hl := B.cm_len
 have : i < (cm ms).length := by omega
 exact ⟨_, List.getElem?_eq_getElem this, B.cm_lt (List.getElem?_eq_getElem this)⟩
theorem pigeon : ∀ {n : Nat} {l : List Nat}, l.Nodup -> (∀ x ∈ l, x < n) -> l.length <= n
 | 0, l, _, h => by
  cases l with
  | nil => exact Nat.le_refl _
  | cons a r => exact absurd (h a List.mem_cons_self) (Nat.not_lt_zero _)
 | n + 1, l, hn, h => by
  have h1 : (l.erase n).length <= n := pigeon (hn.erase n) fun x hx => by
   have := h x (List.mem_of_mem_erase hx)
   have hne : x ≠ n := fun z => by
    subst z
    exact (List.Nodup.mem_erase_iff hn).mp hx |>.1 rfl
   omega
  have := List.length_erase_of_mem (a := n) (l := l)
  by_cases hm : n ∈ l
  ·have := this hm; omega
  ·rw [List.erase_of_not_mem hm] at h1; omega
theorem Brings.falling {T : List Int} {n : Nat} {ms : List Mv} (B : Brings T false n ms) {ps : List Nat} (hr : ps.Pairwise (· < ·)) (hb : ∀ p ∈ ps, p < T.length) (hf : ps.Pairwise fun p q => T.getD q 0 < T.getD p 0) : ps.length <= n := by
 have hc : ∀ p ∈ ps, ∃ t, (cm ms)[p]? = some t /\ t < n := fun p hp => B.track (hb p hp)
 have e : (ps.map fun p => (cm ms).getD p 0).length <= n := by
  refine pigeon ?_ fun x hx => ?_
  ·unfold List.Nodup
   rw [List.pairwise_map]
   refine List.Pairwise.imp_of_mem ?_ (hr.and hf)
   intro p q hp hq ⟨h1, h2⟩ z
   obtain ⟨t, e1, _⟩ := hc p hp
   obtain ⟨t', e2, _⟩ := hc q hq
   rw [List.getD_eq_getElem?_getD, List.getD_eq_getElem?_getD, e1, e2] at z
   have z' : t = t' := z
   subst z'
   have g1 : T[p]? = some (T.getD p 0) := by rw [List.getD_eq_getElem?_getD, List.getElem?_eq_getElem (hb p hp)]; rfl
   have g2 : T[q]? = some (T.getD q 0) := by rw [List.getD_eq_getElem?_getD, List.getElem?_eq_getElem (hb q hq)]; rfl
   have := B.through h1 g1 g2 e1 e2
   omega
  ·obtain ⟨p, hp, rfl⟩ := List.mem_map.mp hx
   obtain ⟨t, e1, ht⟩ := hc p hp
   rw [List.getD_eq_getElem?_getD, e1]
   exact ht
 rw [List.length_map] at e
 exact e
def St.map (f : Int -> Int) (s : St) : St := ⟨s.tr.map (List.map f), s.left.map f, s.came⟩
theorem step_map {T : List Int} {bl : Bool} (f : Int -> Int) (s : St) (m : Mv) : step (T.map f) bl (s.map f) m = (step T bl s m).map (St.map f) := by
 have hD : (s.tr.map (List.map f)).getD m.2 [] = (s.tr.getD m.2 []).map f := by
  rw [List.getD_eq_getElem?_getD, List.getD_eq_getElem?_getD, List.getElem?_map]
  cases s.tr[m.2]? <;> rfl
 unfold step
 show (if m.1 = true then _ else _) = _
 split
 ·show (match (T.map f)[s.came]? with | some x => _ | none => _) = _
  rw [List.getElem?_map]
  cases T[s.came]? with
  | none => rfl
  | some x =>
   show some (St.mk ((s.tr.map (List.map f)).set m.2 ((s.tr.map (List.map f)).getD m.2 [] ++ [f x])) (s.left.map f) (s.came + 1)) = some (St.map f ⟨s.tr.set m.2 (s.tr.getD m.2 [] ++ [x]), s.left, s.came + 1⟩)
   unfold St.map
   rw [hD, List.map_set, List.map_append]
   rfl
 ·split
  ·show (match ((s.tr.map (List.map f)).getD m.2 []).getLast? with | some x => _ | none => _) = _
   rw [hD, List.getLast?_map]
   cases (s.tr.getD m.2 []).getLast? with
   | none => rfl
   | some x =>
    show some (St.mk ((s.tr.map (List.map f)).set m.2 ((s.tr.map (List.map f)).getD m.2 []).dropLast) (s.left.map f ++ [f x]) s.came) = some (St.map f ⟨s.tr.set m.2 (s.tr.getD m.2 []).dropLast, s.left ++ [x], s.came⟩)
    unfold St.map
    rw [hD, List.map_set, List.map_append, List.map_dropLast]
    rfl
  ·show (match (s.tr.map (List.map f)).getD m.2 [] with | x :: r => _ | [] => _) = _
   rw [hD]
   cases s.tr.getD m.2 [] with
   | nil => rfl
   | cons x r =>
    show some (St.mk ((s.tr.map (List.map f)).set m.2 (r.map f)) (s.left.map f ++ [f x]) s.came) = some (St.map f ⟨s.tr.set m.2 r, s.left ++ [x], s.came⟩)
    unfold St.map
    rw [List.map_set, List.map_append]
    rfl
theorem steps_map {T : List Int} {bl : Bool} (f : Int -> Int) : ∀ (s : St) (ms : List Mv), steps (T.map f) bl (s.map f) ms = (steps T bl s ms).map (St.map f)
 | s, [] => rfl
 | s, m :: r => by
  show (step (T.map f) bl (s.map f) m).bind (fun s' => steps (T.map f) bl s' r) = ((step T bl s m).bind fun s' => steps T bl s' r).map (St.map f)
  rw [step_map]
  cases step T bl s m with
  | none => rfl
  | some s' => exact steps_map f s' r
theorem init_map (f : Int -> Int) (n : Nat) : (init n).map f = init n := by
 unfold init St.map
 rw [List.map_replicate]
 rfl
end Yd
namespace Yd
theorem perm_of_all : ∀ {l m : List Int}, l.Nodup -> (∀ x ∈ l, x ∈ m) -> m.length <= l.length -> m.Perm l
 | [], m, _, _, h => by
  have : m = [] := List.length_eq_zero_iff.mp (by simpa using h)
  rw [this]
 | a :: r, m, hn, hs, h => by
  have ha : a ∈ m := hs a List.mem_cons_self
  have hn' := List.nodup_cons.mp hn
  have p1 : m.Perm (a :: m.erase a) := List.perm_cons_erase ha
  have hl : (m.erase a).length <= r.length := by
   rw [List.length_erase_of_mem ha]
   simp only [List.length_cons] at h
   omega
  have p2 := perm_of_all (m := m.erase a) hn'.2 (fun x hx => by
   have hne : x ≠ a := fun z => hn'.1 (z ▸ hx)
   exact (List.mem_erase_of_ne hne).mpr (hs x (List.mem_cons_of_mem _ hx))) hl
  exact p1.trans (List.Perm.cons a p2)
def R (n : Nat) : List Int := (List.range n).map fun (i : Nat) => (i : Int)
theorem R_len (n : Nat) : (R n).length = n := by unfold R; rw [List.length_map, List.length_range]
theorem R_get {n i : Nat} (h : i < n) : (R n)[i]? = some (i : Int) := by
 unfold R
 rw [List.getElem?_map, List.getElem?_range h]
 rfl
theorem R_lt (n : Nat) : (R n).Pairwise (· < ·) := by
 unfold R
 rw [List.pairwise_map]
 exact List.Pairwise.imp (fun h => by omega) List.pairwise_lt_range
theorem R_nodup (n : Nat) : (R n).Nodup := List.Pairwise.imp (fun h => Int.ne_of_lt h) (R_lt n)
theorem R_mem {n : Nat} {x : Int} (h : x ∈ R n) : 0 <= x /\ x < n := by
 unfold R at h
 obtain ⟨i, hi, rfl⟩ := List.mem_map.mp h
 have := List.mem_range.mp hi
 omega
theorem clear_blind {T : List Int} : ∀ {c : List Int} {s : St} {j : Nat}, s.tr[j]? = some c -> steps T true s (List.replicate c.length (false, j)) = some ⟨s.tr.set j [], s.left ++ c.reverse, s.came⟩ := by
 intro c
 generalize hn : c.length = n
 induction n generalizing c with
 | zero =>
  intro s j h
  have : c = [] := List.length_eq_zero_iff.mp hn
  subst this
  have hj := (List.getElem?_eq_some_iff.mp h)
  show some s = _
  rw [List.reverse_nil, List.append_nil]
  have e : s.tr.set j [] = s.tr := by
   refine List.ext_getElem? fun i => ?_
   by_cases hi : j = i
   ·subst hi
    rw [List.getElem?_set_self hj.1, h]
   ·rw [List.getElem?_set_ne hi]
  rw [e]
 | succ n ih =>
  intro s j h
  have hne : c ≠ [] := fun z => by rw [z] at hn; cases hn
  have ec := List.dropLast_concat_getLast hne
  have hj := (List.getElem?_eq_some_iff.mp h).1
  have hs : step T true s (false, j) = some ⟨s.tr.set j c.dropLast, s.left ++ [c.getLast hne], s.came⟩ := by
   unfold step
   rw [if_neg Bool.false_ne_true, if_pos rfl]
   have hD : s.tr.getD j [] = c := by rw [List.getD_eq_getElem?_getD, h]; rfl
   simp only [hD]
   rw [List.getLast?_eq_some_getLast hne]
  rw [List.replicate_succ]
  show (step T true s (false, j)).bind (fun s' => steps T true s' (List.replicate n (false, j))) = _
  rw [hs]
  show steps T true _ _ = _
  rw [ih (c := c.dropLast) (by rw [List.length_dropLast, hn]; rfl) (j := j) (s := ⟨s.tr.set j c.dropLast, s.left ++ [c.getLast hne], s.came⟩) (List.getElem?_set_self hj)]
  show some (St.mk ((s.tr.set j c.dropLast).set j []) (s.left ++ [c.getLast hne] ++ c.dropLast.reverse) s.came) = _
  rw [List.set_set, List.append_assoc]
  congr 3
  conv => rhs; rw [<- ec]
  rw [List.reverse_append]
  rfl
theorem clear_through {T : List Int} : ∀ {c : List Int} {s : St} {j : Nat}, s.tr[j]? = some c -> steps T false s (List.replicate c.length (false, j)) = some ⟨s.tr.set j [], s.left ++ c, s.came⟩
 | [], s, j, h => by
  have hj := (List.getElem?_eq_some_iff.mp h)
  show some s = _
  rw [List.append_nil]
  have e : s.tr.set j [] = s.tr := by
   refine List.ext_getElem? fun i => ?_
   by_cases hi : j = i
   ·subst hi
    rw [List.getElem?_set_self hj.1, h]
   ·rw [List.getElem?_set_ne hi]
  rw [e]
 | x :: c, s, j, h => by
  have hj := (List.getElem?_eq_some_iff.mp h).1
  have hs : step T false s (false, j) = some ⟨s.tr.set j c, s.left ++ [x], s.came⟩ := by
   unfold step
   rw [if_neg Bool.false_ne_true, if_neg Bool.false_ne_true]
   have hD : s.tr.getD j [] = x :: c := by rw [List.getD_eq_getElem?_getD, h]; rfl
   simp only [hD]
  rw [List.length_cons, List.replicate_succ]
  show (step T false s (false, j)).bind (fun s' => steps T false s' (List.replicate c.length (false, j))) = _
  rw [hs]
  show steps T false _ _ = _
  rw [clear_through (c := c) (j := j) (s := ⟨s.tr.set j c, s.left ++ [x], s.came⟩) (List.getElem?_set_self hj)]
  show some (St.mk ((s.tr.set j c).set j []) (s.left ++ [x] ++ c) s.came) = _
  rw [List.set_set, List.append_assoc]
  rfl
theorem clear {T : List Int} {bl : Bool} {c : List Int} {s : St} {j : Nat} (h : s.tr[j]? = some c) : steps T bl s (List.replicate c.length (false, j)) = some ⟨s.tr.set j [], s.left ++ (if bl = true then c.reverse else c), s.came⟩ := by
 cases bl with
 | true => exact clear_blind h
 | false => exact clear_through h
theorem steps_trans {T : List Int} {bl : Bool} {s s' s'' : St} {a b : List Mv} (h1 : steps T bl s a = some s') (h2 : steps T bl s' b = some s'') : steps T bl s (a ++ b) = some s'' := by
 rw [steps_append, h1]
 exact h2
theorem left_perm {n k : Nat} {bl : Bool} {ms : List Mv} {st : St} (h : steps (R n) bl (init k) ms = some st) (hv : ∀ m ∈ ms, m.2 < k) (hl : st.left.length = n) : st.left.Perm (R n) := by
 have D := done_of h hv (by rw [hl, R_len])
 refine perm_of_all (R_nodup n) (fun x hx => ?_) (by rw [R_len, hl]; exact Nat.le_refl _)
 obtain ⟨i, hi, e⟩ := List.mem_iff_getElem.mp hx
 obtain ⟨w, ew, hw⟩ := comes h (fun m hm => by show m.2 < (List.replicate k ([] : List Int)).length; rw [List.length_replicate]; exact hv m hm) D (k := i) (x := x) (Nat.zero_le _) (by rw [List.getElem?_eq_getElem hi, e])
 rw [ew]
 exact List.mem_append_right _ hw
theorem sum_nils (n : Nat) : ((List.replicate n ([] : List Int)).map List.length).sum = 0 := by
 rw [List.map_replicate]
 simp
theorem cleared {tr : List (List Int)} {j : Nat} (h : j < tr.length) : (List.replicate j ([] : List Int) ++ tr.drop j).set j [] = List.replicate (j + 1) [] ++ tr.drop (j + 1) := by
 rw [List.set_append_right _ _ (by rw [List.length_replicate]; exact Nat.le_refl _), List.length_replicate, Nat.sub_self, List.drop_eq_getElem_cons h, List.set_cons_zero, List.replicate_succ', List.append_assoc]
 rfl
theorem made_brings {n k : Nat} {bl : Bool} {ms : List Mv} {st : St} {T : List Int} (h : steps (R n) bl (init k) ms = some st) (hv : ∀ m ∈ ms, m.2 < k) (hl : st.left.length = n) (hT : T.length = n)
  (hat : ∀ (j : Nat) (x : Int), st.left[j]? = some x -> T[x.toNat]? = some (j : Int)) : Brings T bl k ms /\ T.Perm (R n) := by
 have D := done_of h hv (by rw [hl, R_len])
 have all : ∀ x ∈ R n, x ∈ st.left := fun x hx => by
  obtain ⟨i, hi, e⟩ := List.mem_iff_getElem.mp hx
  obtain ⟨w, ew, hw⟩ := comes h (fun m hm => by show m.2 < (List.replicate k ([] : List Int)).length; rw [List.length_replicate]; exact hv m hm) D (k := i) (x := x) (Nat.zero_le _) (by rw [List.getElem?_eq_getElem hi, e])
  rw [ew]
  exact List.mem_append_right _ hw
 have hp : st.left.Perm (R n) := perm_of_all (R_nodup n) all (by rw [R_len, hl]; exact Nat.le_refl _)
 have e1 : (R n).map (fun x => T.getD x.toNat 0) = T := by
  refine List.ext_getElem? fun i => ?_
  rw [List.getElem?_map]
  by_cases hi : i < n
  ·rw [R_get hi]
   show some (T.getD (i : Int).toNat 0) = T[i]?
   rw [Int.toNat_natCast, List.getD_eq_getElem?_getD, List.getElem?_eq_getElem (by omega)]
   rfl
  ·rw [List.getElem?_eq_none_iff.mpr (by rw [R_len]; omega), List.getElem?_eq_none_iff.mpr (by omega)]
   rfl
 have e2 : st.left.map (fun x => T.getD x.toNat 0) = R n := by
  refine List.ext_getElem? fun j => ?_
  rw [List.getElem?_map]
  by_cases hj : j < n
  ·obtain ⟨x, hx⟩ : ∃ x, st.left[j]? = some x := ⟨_, List.getElem?_eq_getElem (by omega)⟩
   rw [hx, R_get hj]
   show some (T.getD x.toNat 0) = _
   rw [List.getD_eq_getElem?_getD, hat j x hx]
   rfl
  ·rw [List.getElem?_eq_none_iff.mpr (by omega), List.getElem?_eq_none_iff.mpr (by rw [R_len]; omega)]
   rfl
 have h2 := steps_map (T := R n) (bl := bl) (fun x => T.getD x.toNat 0) (init k) ms
 rw [h, init_map, e1] at h2
 refine ⟨⟨hv, st.map _, h2, ?_, ?_⟩, ?_⟩
 ·show (st.left.map _).length = T.length
  rw [List.length_map, hl, hT]
 ·show (st.left.map _).Pairwise _
  rw [e2]
  exact R_lt n
 ·have := hp.map (fun x => T.getD x.toNat 0)
  rw [e1, e2] at this
  exact this.symm
end Yd
namespace My
open PySem L2
open PySem.W (Dat)
abbrev Gm := Str × Int
def gmv (n : Nat) (g : Gm) : Option Yd.Mv := if 0 <= g.2 /\ g.2 < n then (if g.1 = Str.ofString "in" then some (true, g.2.toNat) else if g.1 = Str.ofString "out" then some (false, g.2.toNat) else none) else none
def gstep (T : List Int) (b : Bool) (n : Nat) (s : Yd.St) (g : Gm) : Option Yd.St := (gmv n g).bind fun m => Yd.step T b s m
def gsteps (T : List Int) (b : Bool) (n : Nat) : Yd.St -> List Gm -> Option Yd.St
 | s, [] => some s
 | s, g :: r => (gstep T b n s g).bind fun s' => gsteps T b n s' r
theorem gsteps_append {T : List Int} {b : Bool} {n : Nat} : ∀ {s : Yd.St} {x y : List Gm}, gsteps T b n s (x ++ y) = (gsteps T b n s x).bind fun s' => gsteps T b n s' y
 | s, [], y => rfl
 | s, g :: x, y => by
  show (gstep T b n s g).bind (fun s' => gsteps T b n s' (x ++ y)) = ((gstep T b n s g).bind fun s' => gsteps T b n s' x).bind fun s' => gsteps T b n s' y
  cases e : gstep T b n s g with
  | none => rfl
  | some s' => exact gsteps_append
theorem gsteps_next {T : List Int} {b : Bool} {n : Nat} {s s' s'' : Yd.St} {gs : List Gm} {i : Nat} {g : Gm} (h : gsteps T b n s (gs.take i) = some s') (hg : gs[i]? = some g) (h2 : gstep T b n s' g = some s'') : gsteps T b n s (gs.take (i + 1)) = some s'' := by
 rw [take_snoc hg, gsteps_append, h]
 show (gstep T b n s' g).bind (fun s => some s) = _
 rw [h2]
 rfl
theorem gsteps_stuck {T : List Int} {b : Bool} {n : Nat} {s s' : Yd.St} {gs : List Gm} {i : Nat} {g : Gm} (h : gsteps T b n s (gs.take i) = some s') (hg : gs[i]? = some g) (h2 : gstep T b n s' g = none) : gsteps T b n s gs = none := by
 have hi := (List.getElem?_eq_some_iff.mp hg)
 have e : gs = gs.take i ++ g :: gs.drop (i + 1) := by
  conv => lhs; rw [<- List.take_append_drop i gs]
  rw [List.drop_eq_getElem_cons hi.1, hi.2]
 rw [e, gsteps_append, h]
 show (gstep T b n s' g).bind _ = none
 rw [h2]
 rfl
theorem gstep_len {T : List Int} {b : Bool} {n : Nat} {s s' : Yd.St} {g : Gm} (h : gstep T b n s g = some s') : s'.tr.length = s.tr.length := by
 unfold gstep at h
 cases e : gmv n g with
 | none => rw [e] at h; cases h
 | some m => rw [e] at h; exact Yd.step_len h
theorem gsteps_len {T : List Int} {b : Bool} {n : Nat} : ∀ {s s' : Yd.St} {gs : List Gm}, gsteps T b n s gs = some s' -> s'.tr.length = s.tr.length
 | s, s', [], h => by
  have e : s = s' := by simpa [gsteps] using h
  rw [e]
 | s, s', g :: r, h => by
  have h1 : (gstep T b n s g).bind (fun s'' => gsteps T b n s'' r) = some s' := h
  cases e : gstep T b n s g with
  | none => rw [e] at h1; cases h1
  | some s1 => rw [e] at h1; rw [gsteps_len h1, gstep_len e]
theorem gmv_lt {n : Nat} {g : Gm} {m : Yd.Mv} (h : gmv n g = some m) : m.2 < n := by
 unfold gmv at h
 split at h
 ·rename_i hr
  split at h
  ·cases h; show g.2.toNat < n; omega
  ·split at h
   ·cases h; show g.2.toNat < n; omega
   ·cases h
 ·cases h
theorem gsteps_steps {T : List Int} {b : Bool} {n : Nat} : ∀ {s s' : Yd.St} {gs : List Gm}, gsteps T b n s gs = some s' -> ∃ ms, Yd.steps T b s ms = some s' /\ (∀ m ∈ ms, m.2 < n) /\ ms.length = gs.length
 | s, s', [], h => ⟨[], h, fun m hm => by (cases hm), rfl⟩
 | s, s', g :: r, h => by
  have h1 : (gstep T b n s g).bind (fun s'' => gsteps T b n s'' r) = some s' := h
  cases e : gstep T b n s g with
  | none => rw [e] at h1; cases h1
  | some s1 =>
   rw [e] at h1
   obtain ⟨ms, a1, a2, a3⟩ := gsteps_steps h1
   unfold gstep at e
   cases em : gmv n g with
   | none => rw [em] at e; cases e
   | some m =>
    rw [em] at e
    refine ⟨m :: ms, ?_, fun x hx => ?_, by rw [List.length_cons, List.length_cons, a3]⟩
    ·show (Yd.step T b s m).bind (fun s'' => Yd.steps T b s'' ms) = some s'
     rw [show Yd.step T b s m = some s1 from e]
     exact a1
    ·rcases List.mem_cons.mp hx with rfl | z
     ·exact gmv_lt em
     ·exact a2 x z
def gOf (m : Yd.Mv) : Gm := (deed m.1, (m.2 : Int))
theorem gmv_of {n : Nat} {m : Yd.Mv} (h : m.2 < n) : gmv n (gOf m) = some m := by
 obtain ⟨m1, m2⟩ := m
 unfold gmv gOf
 rw [if_pos ⟨by show (0 : Int) <= (m2 : Int); omega, by show (m2 : Int) < n; have h' : m2 < n := h; omega⟩]
 cases m1 with
 | true =>
  rw [if_pos (show deed true = Str.ofString "in" from rfl)]
  show some (true, (m2 : Int).toNat) = _
  rw [Int.toNat_natCast]
 | false =>
  rw [if_neg (show ¬ deed false = Str.ofString "in" from by decide +kernel), if_pos (show deed false = Str.ofString "out" from rfl)]
  show some (false, (m2 : Int).toNat) = _
  rw [Int.toNat_natCast]
theorem gsteps_of {T : List Int} {b : Bool} {n : Nat} : ∀ {s : Yd.St} {ms : List Yd.Mv}, (∀ m ∈ ms, m.2 < n) -> gsteps T b n s (ms.map gOf) = Yd.steps T b s ms
 | s, [], _ => rfl
 | s, m :: r, h => by
  show (gstep T b n s (gOf m)).bind (fun s' => gsteps T b n s' (r.map gOf)) = (Yd.step T b s m).bind fun s' => Yd.steps T b s' r
  unfold gstep
  rw [gmv_of (h m List.mem_cons_self)]
  show (Yd.step T b s m).bind _ = _
  cases Yd.step T b s m with
  | none => rfl
  | some s' => exact gsteps_of fun x hx => h x (List.mem_cons_of_mem _ hx)
def GmT (H : Hp) (r : Addr) (g : Gm) : Prop := H r = some (.tup [.str g.1, .int g.2])
def GMovesAt (H : Hp) (a : Addr) (gs : List Gm) : Prop := ∃ rs : List Addr, H a = some (.lst (rs.map V.ref)) /\ Paired (GmT H) rs gs
theorem GmT.same {H H' : Hp} (s : Same H H') {r : Addr} {g : Gm} (h : GmT H r g) : GmT H' r g := s _ _ h
theorem GMovesAt.same {H H' : Hp} (s : Same H H') {a : Addr} {gs : List Gm} (h : GMovesAt H a gs) : GMovesAt H' a gs :=
 let ⟨rs, e, p⟩ := h; ⟨rs, s _ _ e, Paired.imp (fun _ _ z => z.same s) p⟩
theorem MovesAt.g {H : Hp} {a : Addr} {ms : List Yd.Mv} (h : MovesAt H a ms) : GMovesAt H a (ms.map gOf) := by
 obtain ⟨rs, e, p⟩ := h
 refine ⟨rs, e, ?_⟩
 clear e
 induction p with
 | nil => exact .nil
 | cons h t ih => exact .cons h ih
def rises (m : Int) : Int -> List Int -> Bool
 | _, [] => true
 | last, p :: r => decide (last < p) && decide (p < m) && rises m p r
theorem rises_split {m : Int} : ∀ {last : Int} {ps : List Int}, rises m last ps = true ↔ (last :: ps).Pairwise (· < ·) /\ ∀ p ∈ ps, p < m
 | last, [] => by simp [rises]
 | last, p :: r => by
  unfold rises
  rw [Bool.and_eq_true, Bool.and_eq_true, decide_eq_true_iff, decide_eq_true_iff, rises_split (last := p) (ps := r)]
  constructor
  ·rintro ⟨⟨h1, h2⟩, h3, h4⟩
   refine ⟨?_, fun q hq => ?_⟩
   ·rw [List.pairwise_cons]
    refine ⟨fun q hq => ?_, h3⟩
    rcases List.mem_cons.mp hq with rfl | z
    ·exact h1
    ·have := (List.pairwise_cons.mp h3).1 q z; omega
   ·rcases List.mem_cons.mp hq with rfl | z
    ·exact h2
    ·exact h4 q z
  ·rintro ⟨h1, h2⟩
   have h3 := List.pairwise_cons.mp h1
   exact ⟨⟨h3.1 p List.mem_cons_self, h2 p List.mem_cons_self⟩, h3.2, fun q hq => h2 q (List.mem_cons_of_mem _ hq)⟩
theorem rises_take {m : Int} {last : Int} {ps : List Int} {i : Nat} {p : Int} (h : rises m last (ps.take i) = true) (hp : ps[i]? = some p) : rises m last ps = (decide (((ps.take i).getLast?.getD last) < p) && decide (p < m) && rises m p (ps.drop (i + 1))) := by
 induction ps generalizing last i with
 | nil => simp at hp
 | cons q r ih =>
  cases i with
  | zero =>
   have : q = p := by simpa using hp
   subst this
   rfl
  | succ i =>
   rw [List.take_succ_cons] at h
   unfold rises at h
   rw [Bool.and_eq_true] at h
   have hr := ih (last := q) (i := i) h.2 (by simpa using hp)
   conv => lhs; unfold rises
   rw [h.1, Bool.true_and, hr, List.take_succ_cons, List.drop_succ_cons]
   congr 3
   cases hq : (r.take i) with
   | nil => rfl
   | cons a l =>
    rw [List.getLast?_cons_cons, List.getLast?_eq_some_getLast (by simp)]
    rfl
end My
namespace L2
open PySem PySem.Spec PyProof.Rows
section
variable {X : Cx} {K : PySem.W.Frag}
def rRangeV : List V -> Hp -> VK -> Prop := fun xs H Q => ∃ i j : Int, (xs = [.int j] /\ i = 0 \/ xs = [.int i, .int j]) /\ ∀ r, H r = none -> Q (.ref r) (upd H r (.rng i j))
theorem call_rangeV : CallR X (.type "range") rRangeV := by
 intro pins s σ H xs us Q I r h
 obtain ⟨i, j, e, q⟩ := h
 rcases e with ⟨rfl, rfl⟩ | rfl
 ·obtain ⟨u, rfl, ru⟩ := vals1 r
  obtain ⟨t, rfl⟩ := ru
  refine call_range_1 ⟨.ref s.heap.objs.size, _, I.laid (o := .rng 0 j) (fun b o e => Heap.get?_push_of_some _ e) (Nat.le_refl _) ⟨_, _, _, Heap.get?_push_size _ rfl⟩, rfl, q _ (I.hok.fresh (Nat.le_refl _))⟩
 ·obtain ⟨u, w', rfl, ru, rw'⟩ := vals2 r
  obtain ⟨t, rfl⟩ := ru
  obtain ⟨t', rfl⟩ := rw'
  refine call_range_2 ⟨.ref s.heap.objs.size, _, I.laid (o := .rng i j) (fun b o e => Heap.get?_push_of_some _ e) (Nat.le_refl _) ⟨_, _, _, Heap.get?_push_size _ rfl⟩, rfl, q _ (I.hok.fresh (Nat.le_refl _))⟩
end
end L2
namespace L2
open PySem PySem.Spec PyProof.Rows
structure InsT (K : PySem.W.Frag) (C : Addr) : Prop where
 ha : PySem.W.findIn K (.ref C) "__class__" = some (some (.builtin "object.__class__"))
 hn : PySem.W.specialIn K (.builtin "object.__class__") "__get__" = some (some (.builtin "getset_descriptor.__get__"))
 htk : PySem.W.takesIn K (.builtin "object.__class__") = some true
 hm : PySem.W.mroIn K C (.type "object") = some true
theorem PE.or {X : Cx} {e : Expr} {t t' : TE} (h : PE X e t) (h' : PE X e t') : PE X e (fun σ H Q => t σ H Q \/ t' σ H Q) := fun pins s σ H Q I q => q.elim (h pins s σ H Q I) (h' pins s σ H Q I)
theorem b_range : bootBuiltins ("range" : Str) = some (.type "range") := by decide +kernel
theorem InsT.ty {K : PySem.W.Frag} {C p dx : Addr} {H : Hp} {fs : List (Str × V)} (i : InsT K C) (cl : Cls K C) (e : H p = some (.ins C dx fs)) : TyOf K H (.ref p) (.ref C) := .ins e cl i.ha i.hn i.htk i.hm
end L2
namespace My
open PySem L2
open PySem.W (Dat)
def shuntB (T : List Int) (b : Bool) (n : Nat) (gs : List Gm) : Bool := match gsteps T b n (Yd.init n) gs with
 | some st => decide (st.left.length = T.length) && decide (st.left.Pairwise (· < ·))
 | none => false
theorem left_perm_of {T : List Int} {b : Bool} {n : Nat} {ms : List Yd.Mv} {st : Yd.St} (hT : T.Nodup) (h : Yd.steps T b (Yd.init n) ms = some st) (hv : ∀ m ∈ ms, m.2 < n) (hl : st.left.length = T.length) : st.left.Perm T := by
 have D := Yd.done_of h hv hl
 refine Yd.perm_of_all hT (fun x hx => ?_) (by rw [hl]; exact Nat.le_refl _)
 obtain ⟨i, hi, e⟩ := List.mem_iff_getElem.mp hx
 obtain ⟨w, ew, hw⟩ := Yd.comes h (fun m hm => by show m.2 < (List.replicate n ([] : List Int)).length; rw [List.length_replicate]; exact hv m hm) D (k := i) (x := x) (Nat.zero_le _) (by rw [List.getElem?_eq_getElem hi, e])
 rw [ew]
 exact List.mem_append_right _ hw
theorem sorted_unique : ∀ {l m : List Int}, l.Pairwise (· <= ·) -> m.Pairwise (· <= ·) -> l.Perm m -> l = m
 | [], m, _, _, h => by rw [List.nil_perm.mp h]
 | a :: l, m, h1, h2, h => by
  cases m with
  | nil => exact absurd h.symm.length_eq (by simp)
  | cons b m =>
   have p1 := List.pairwise_cons.mp h1
   have p2 := List.pairwise_cons.mp h2
   have hab : a <= b := by
    rcases List.mem_cons.mp (h.mem_iff.mpr (List.mem_cons_self (a := b) (l := m))) with z | z
    ·omega
    ·exact p1.1 b z
   have hba : b <= a := by
    rcases List.mem_cons.mp (h.mem_iff.mp (List.mem_cons_self (a := a) (l := l))) with z | z
    ·omega
    ·exact p2.1 a z
   have e : a = b := by omega
   subst e
   rw [sorted_unique p1.2 p2.2 (List.Perm.cons_inv h)]
theorem strict_of {l : List Int} (h : l.Pairwise (· <= ·)) (hn : l.Nodup) : l.Pairwise (· < ·) := by
 have := h.and hn
 exact List.Pairwise.imp (fun ⟨a, b⟩ => by omega) this
theorem left_sorted {T ns : List Int} {b : Bool} {n : Nat} {gs : List Gm} {st : Yd.St} (hT : T.Nodup) (h : gsteps T b n (Yd.init n) gs = some st) (hp : ns.Perm T) (hs : ns.Pairwise (· <= ·)) : (st.left = ns) ↔ shuntB T b n gs = true := by
 unfold shuntB
 rw [h]
 show _ ↔ (decide _ && decide _) = true
 rw [Bool.and_eq_true, decide_eq_true_iff, decide_eq_true_iff]
 constructor
 ·intro e
  rw [e]
  exact ⟨hp.length_eq, strict_of hs (hp.nodup_iff.mpr hT)⟩
 ·rintro ⟨h1, h2⟩
  obtain ⟨ms, a1, a2, _⟩ := gsteps_steps h
  exact sorted_unique (List.Pairwise.imp (fun z => Int.le_of_lt z) h2) hs ((left_perm_of hT a1 a2 h1).trans hp.symm)
theorem left_none {T : List Int} {b : Bool} {n : Nat} {gs : List Gm} (h : gsteps T b n (Yd.init n) gs = none) : shuntB T b n gs = false := by
 unfold shuntB
 rw [h]
theorem after_all {T : List Int} {b : Bool} {n t : Nat} {gs : List Gm} (h : shuntB T b n gs = true) (ht : t < n) : shuntB T b n (gs ++ [(Str.ofString "out", (t : Int))]) = false := by
 have h0 := h
 unfold shuntB at h
 split at h
 ·rename_i st e
  rw [Bool.and_eq_true, decide_eq_true_iff, decide_eq_true_iff] at h
  obtain ⟨ms, h1, h2, _⟩ := gsteps_steps e
  have D := Yd.done_of h1 h2 h.1
  refine left_none ?_
  rw [gsteps_append, e]
  show (gstep T b n st (Str.ofString "out", (t : Int))).bind (fun s' => some s') = none
  have hg : gstep T b n st (Str.ofString "out", (t : Int)) = Yd.step T b st (false, t) := by
   unfold gstep
   rw [show ((Str.ofString "out", (t : Int)) : Gm) = gOf (false, t) from rfl, gmv_of (show ((false, t) : Yd.Mv).2 < n from ht)]
   rfl
  rw [hg]
  have hl : st.tr.length = n := by rw [Yd.steps_len h1]; show (List.replicate n ([] : List Int)).length = n; rw [List.length_replicate]
  have e0 : st.tr.getD t [] = [] := by
   rw [List.getD_eq_getElem?_getD, List.getElem?_eq_getElem (by omega)]
   exact D.empty t _ (List.getElem?_eq_getElem (by omega))
  have : Yd.step T b st (false, t) = none := by
   unfold Yd.step
   rw [if_neg Bool.false_ne_true]
   show (if b = true then _ else _) = _
   simp only [e0]
   split <;> rfl
  rw [this]
  rfl
 ·cases h
theorem bl_no {c : Prop} {inst : Decidable c} {H : Hp} {Q : VK} (h : ¬ c) (q : Q (.bl false) H) : Q (.bl (decide c)) H := by rw [decide_eq_false h]; exact q
theorem bl_yes {c : Prop} {inst : Decidable c} {H : Hp} {Q : VK} (h : c) (q : Q (.bl true) H) : Q (.bl (decide c)) H := by rw [decide_eq_true h]; exact q
def fallAt (T ps : List Int) (k : Nat) : Bool := decide (T.getD (ps.getD (k + 1) 0).toNat 0 < T.getD (ps.getD k 0).toNat 0)
def fallsB (T ps : List Int) : Bool := rises T.length (-1) ps && (List.range (ps.length - 1)).all (fallAt T ps)
theorem falls_rising {T ps : List Int} (h : rises T.length (-1) ps = true) : (ps.map Int.toNat).Pairwise (· < ·) /\ (∀ p ∈ ps.map Int.toNat, p < T.length) /\ ∀ p ∈ ps, 0 <= p /\ p < T.length := by
 rw [rises_split] at h
 obtain ⟨h1, h2⟩ := h
 have p1 := List.pairwise_cons.mp h1
 have nn : ∀ p ∈ ps, 0 <= p /\ p < T.length := fun p hp => ⟨by have := p1.1 p hp; omega, h2 p hp⟩
 refine ⟨?_, fun p hp => ?_, nn⟩
 ·rw [List.pairwise_map]
  refine List.Pairwise.imp_of_mem (fun {a b} ha hb hab => ?_) p1.2
  have := nn a ha
  omega
 ·obtain ⟨q, hq, rfl⟩ := List.mem_map.mp hp
  have := nn q hq
  omega
theorem pairwise_adj {R : Nat -> Nat -> Prop} (tr : ∀ a b c, R a b -> R b c -> R a c) : ∀ {l : List Nat}, (∀ k, k + 1 < l.length -> R (l.getD k 0) (l.getD (k + 1) 0)) -> l.Pairwise R
 | [], _ => .nil
 | [a], _ => by simp
 | a :: b :: r, h => by
  have ih : (b :: r).Pairwise R := pairwise_adj tr (l := b :: r) fun k hk => by
   have := h (k + 1) (by simp only [List.length_cons] at hk ⊢; omega)
   simpa using this
  have hab : R a b := by simpa using h 0 (by simp)
  rw [List.pairwise_cons]
  refine ⟨fun c hc => ?_, ih⟩
  rcases List.mem_cons.mp hc with rfl | z
  ·exact hab
  ·exact tr _ _ _ hab ((List.pairwise_cons.mp ih).1 c z)
theorem falls_pair {T ps : List Int} (h : fallsB T ps = true) : (ps.map Int.toNat).Pairwise fun p q => T.getD q 0 < T.getD p 0 := by
 unfold fallsB at h
 rw [Bool.and_eq_true] at h
 refine pairwise_adj (fun a b c h1 h2 => by omega) fun k hk => ?_
 rw [List.length_map] at hk
 have hk' := List.all_eq_true.mp h.2 k (List.mem_range.mpr (by omega))
 unfold fallAt at hk'
 have e : ∀ j, j < ps.length -> (ps.map Int.toNat).getD j 0 = (ps.getD j 0).toNat := fun j hj => by
  rw [List.getD_eq_getElem?_getD, List.getD_eq_getElem?_getD, List.getElem?_map, List.getElem?_eq_getElem hj]
  rfl
 rw [e k (by omega), e (k + 1) hk]
 exact of_decide_eq_true hk'
theorem falls_most {T ps : List Int} {n : Nat} {ms : List Yd.Mv} (B : Yd.Brings T false n ms) (h : fallsB T ps = true) : ps.length <= n := by
 have h1 := falls_rising (by unfold fallsB at h; rw [Bool.and_eq_true] at h; exact h.1)
 have := B.falling h1.1 h1.2.1 (falls_pair h)
 rwa [List.length_map] at this
def fewB (T : List Int) (gs : List Gm) (ps : List Int) : Bool := fallsB T ps && (decide (ps ≠ []) || decide (T = [])) && shuntB T false (max 1 ps.length) gs
def FwAt (C : Addr) (H : Hp) (p mA pA : Addr) (gs : List Gm) (ps : List Int) : Prop := ∃ dx fs, H p = some (.ins C dx fs) /\ fs.lookup (Str.ofString "moves") = some (.ref mA) /\ fs.lookup (Str.ofString "places") = some (.ref pA) /\ fs.lookup (Str.ofString "shows") = none /\ GMovesAt H mA gs /\ H pA = some (.lst (ps.map V.int)) /\ mA ≠ pA
theorem FwAt.same {C : Addr} {H H' : Hp} {p mA pA : Addr} {gs : List Gm} {ps : List Int} (h : FwAt C H p mA pA gs ps) (s : Same H H') : FwAt C H' p mA pA gs ps := let ⟨dx, fs, a, b, c, d, e, f, g⟩ := h; ⟨dx, fs, s _ _ a, b, c, d, e.same s, s _ _ f, g⟩
theorem FwAt.add {C : Addr} {H : Hp} {p mA pA : Addr} {gs : List Gm} {ps : List Int} (g : FwAt C H p mA pA gs ps) : ∃ rs : List Addr, H mA = some (.lst (rs.map V.ref)) /\ rs.length = gs.length /\
  ∀ (t : Addr) (x : Str) (k : Int), H t = none -> FwAt C (upd (upd H t (.tup [.str x, .int k])) mA (.lst (rs.map V.ref ++ [.ref t]))) p mA pA (gs ++ [(x, k)]) ps /\
   ∀ H', Same (upd (upd H t (.tup [.str x, .int k])) mA (.lst (rs.map V.ref ++ [.ref t]))) H' -> FwAt C (upd H' mA (.lst (rs.map V.ref))) p mA pA gs ps := by
 obtain ⟨dx, fs, h1, h2, h3, h4, ⟨rs, hm, hpr⟩, h6, h7⟩ := g
 refine ⟨rs, hm, Paired.length hpr, fun t x k ht => ?_⟩
 have npm : p ≠ mA := ne_of h1 hm (by intro z; cases z)
 have ntm : t ≠ mA := (ne_of_none hm ht).symm
 have keep : ∀ r g, GmT H r g -> GmT (upd (upd H t (.tup [.str x, .int k])) mA (.lst (rs.map V.ref ++ [.ref t]))) r g := fun r g z => by
  have z6 : H r = some (.tup [.str g.1, .int g.2]) := z
  show upd _ mA _ r = _
  rw [upd_ne (ne_of z6 hm (by intro w; cases w))]
  exact upd_get z6 ht
 have a1 : upd (upd H t (.tup [.str x, .int k])) mA (.lst (rs.map V.ref ++ [.ref t])) p = some (.ins C dx fs) := by rw [upd_ne npm]; exact upd_get h1 ht
 have a2 : upd (upd H t (.tup [.str x, .int k])) mA (.lst (rs.map V.ref ++ [.ref t])) pA = some (.lst (ps.map V.int)) := by rw [upd_ne h7.symm]; exact upd_get h6 ht
 refine ⟨⟨dx, fs, a1, h2, h3, h4, ⟨rs ++ [t], by rw [upd_same, List.map_append]; rfl, Paired.snoc' (Paired.imp keep hpr) ?_⟩, a2, h7⟩, fun H' s' => ⟨dx, fs, by rw [upd_ne npm]; exact s' _ _ a1, h2, h3, h4, ⟨rs, upd_same, Paired.imp (fun r g z => ?_) hpr⟩, by rw [upd_ne h7.symm]; exact s' _ _ a2, h7⟩⟩
 ·show upd _ mA _ t = _
  rw [upd_ne ntm, upd_same]
 ·have z6 : H r = some (.tup [.str g.1, .int g.2]) := z
  show upd H' mA _ r = _
  rw [upd_ne (ne_of z6 hm (by intro w; cases w))]
  exact s' _ _ (keep r g z)
theorem rises_len {m : Nat} {ps : List Int} (h : rises (m : Int) (-1) ps = true) : ps.length <= m := by
 rw [rises_split] at h
 obtain ⟨h1, h2⟩ := h
 have p1 := List.pairwise_cons.mp h1
 have nn : ∀ p ∈ ps, 0 <= p := fun p hp => by have := p1.1 p hp; omega
 have e : (ps.map Int.toNat).length <= m := Yd.pigeon (by
  unfold List.Nodup
  rw [List.pairwise_map]
  refine List.Pairwise.imp_of_mem (fun {a b} ha hb hab => ?_) p1.2
  have := nn a ha
  omega) fun x hx => by
   obtain ⟨p, hp, rfl⟩ := List.mem_map.mp hx
   have := nn p hp
   have := h2 p hp
   omega
 rwa [List.length_map] at e
theorem falls_len {T ps : List Int} (h : fallsB T ps = true) : ps.length <= T.length := by
 unfold fallsB at h
 rw [Bool.and_eq_true] at h
 exact rises_len h.1
theorem falls_nought (T ps : List Int) : fallsB T (ps ++ [0]) = true -> ps = [] /\ T ≠ [] := fun h => by
 unfold fallsB at h
 rw [Bool.and_eq_true, rises_split] at h
 obtain ⟨⟨h1, h2⟩, _⟩ := h
 have p1 := List.pairwise_cons.mp h1
 have p2 := List.pairwise_append.mp p1.2
 refine ⟨?_, fun z => ?_⟩
 ·cases ps with
  | nil => rfl
  | cons a r =>
   have a1 := p1.1 a (by simp)
   have a2 := p2.2.2 a (by simp) 0 (by simp)
   omega
 ·have := h2 0 (by simp)
  rw [z] at this
  simp at this
end My
namespace My
open PySem L2 PyProof.Rows
def lts (ps : List Int) : List Bool := (ps.zip (ps.drop 1)).map fun q => decide (q.1 < q.2)
theorem lts_get {ns : List Int} {i : Nat} {x y : Int} (hx : ns[i]? = some x) (hy : (ns.drop 1)[i]? = some y) : (lts ns)[i]? = some (decide (x < y)) := by
 unfold lts
 rw [List.getElem?_map, List.getElem?_zip_eq_some (z := (x, y)) |>.mpr ⟨hx, hy⟩]
 rfl
theorem lts_len (ns : List Int) : (lts ns).length = min ns.length (ns.length - 1) := by
 unfold lts
 rw [List.length_map, List.length_zip, List.length_drop]
theorem lts_all : ∀ {ps : List Int}, (lts ps).all id = true ↔ ps.Pairwise (· < ·)
 | [] => by simp [lts]
 | [a] => by simp [lts]
 | a :: b :: r => by
  have e : lts (a :: b :: r) = decide (a < b) :: lts (b :: r) := by unfold lts; simp
  rw [e, List.all_cons, Bool.and_eq_true, lts_all (ps := b :: r)]
  constructor
  ·rintro ⟨h1, h2⟩
   rw [List.pairwise_cons]
   have h1 : a < b := of_decide_eq_true h1
   refine ⟨fun x hx => ?_, h2⟩
   rcases List.mem_cons.mp hx with rfl | hx
   ·exact h1
   ·exact Int.lt_trans h1 ((List.pairwise_cons.mp h2).1 x hx)
  ·intro h
   obtain ⟨h1, h2⟩ := List.pairwise_cons.mp h
   exact ⟨decide_eq_true (h1 b List.mem_cons_self), h2⟩
def inb (m : Int) (ps : List Int) : Bool := ps.all fun p => decide (0 <= p) && decide (p < m)
theorem rises_eq (m : Int) (ps : List Int) : rises m (-1) ps = (inb m ps && (lts ps).all id) := by
 rw [Bool.eq_iff_iff, rises_split, Bool.and_eq_true, lts_all, List.pairwise_cons]
 unfold inb
 rw [List.all_eq_true]
 constructor
 ·rintro ⟨⟨h1, h2⟩, h3⟩
  refine ⟨fun p hp => ?_, h2⟩
  have := h1 p hp
  rw [Bool.and_eq_true, decide_eq_true_iff, decide_eq_true_iff]
  exact ⟨by omega, h3 p hp⟩
 ·rintro ⟨h1, h2⟩
  have h : ∀ p ∈ ps, 0 <= p /\ p < m := fun p hp => by
   have := h1 p hp
   rw [Bool.and_eq_true, decide_eq_true_iff, decide_eq_true_iff] at this
   exact this
  exact ⟨⟨fun p hp => by have := h p hp; omega, h2⟩, fun p hp => (h p hp).2⟩
theorem Paired.unmap {α β γ : Type} {F : α -> γ -> Prop} {f : β -> γ} : ∀ {l : List α} {m : List β}, Paired F l (m.map f) -> Paired (fun a b => F a (f b)) l m
 | _, [], .nil => .nil
 | _, b :: r, .cons h t => .cons h (Paired.unmap t)
theorem GMovesAt.m {H : L2.Hp} {a : PySem.Addr} {ms : List Yd.Mv} (h : GMovesAt H a (ms.map gOf)) : MovesAt H a ms := by
 obtain ⟨rs, e, p⟩ := h
 exact ⟨rs, e, Paired.unmap (F := GmT H) (f := gOf) p⟩
def GOk (n : Nat) (gs : List Gm) : Prop := ∃ ms : List Yd.Mv, gs = ms.map gOf /\ ∀ m ∈ ms, m.2 < n
theorem GOk.snoc {n : Nat} {gs : List Gm} (h : GOk n gs) {t : Nat} (ht : t < n) : GOk n (gs ++ [(PySem.Str.ofString "out", (t : Int))]) := by
 obtain ⟨ms, rfl, hm⟩ := h
 refine ⟨ms ++ [(false, t)], by rw [List.map_append]; rfl, fun m hmm => ?_⟩
 rcases List.mem_append.mp hmm with z | z
 ·exact hm m z
 ·rw [List.mem_singleton.mp z]
  exact ht
end My
namespace PyProof.Rows
open PySem
section
variable {prog : Program} {w : World} {A : Around} {E : Value -> Shared -> Prop} {s : Shared}
theorem collect_rng {Q : List Value -> Shared -> Prop} {r : Addr} {a b c : Int} {t u v : Tok} {n : Nat} (hh : A.handled = none) (hr : IsRange s.heap r a b c t u v) (hsmall : Builtin.Range.small a b c = true)
  (hn : Builtin.Range.rangeSize a b c = n) (hlen : n <= 2 ^ 24)
  (hQ : ∀ h' tk acc, (∀ b o, s.heap.get? b = some o -> h'.get? b = some o) -> ItemsOf (fun i v => ∃ t, v = .int (a + i * c) t) acc n -> Q acc.toList { s with heap := h', toks := tk }) :
  wpAny (model prog w) A (collect (.ref r)) Q E s := by
 unfold collect
 refine wpAny_bind
  (wpAny_runValue (codeAny_builtin F.entry_proto_collect ?_))
 rw [Around.under_plainId
  F.plain_proto_collect _]
 show wpAny _ A.in1 (newList [] >>= fun l => again (.builtin "list.__iadd__" ⟨[l, .ref r], []⟩)) _ _ s
 refine wpAny_bind (wpAny_newObj_type ?_)
 refine wpAny_pure
  ⟨plainId_quiet F.plain_list_iadd _, codeAny_builtin F.entry_list_iadd ?_⟩
 rw [Around.under_plainId
  F.plain_list_iadd _]
 show wpAny _ A.in1 (Builtin.List.listExtendWith (.ref s.heap.objs.size) (.ref r) (.ref s.heap.objs.size)) _ _ _
 have hS : (s.heap.push { cls := .type "list", data := .seq ([] : List Value).toArray }).get? s.heap.objs.size = some { cls := .type "list", data := .seq #[] } := Heap.get?_push_size _ rfl
 have fin : ∀ s', (∃ acc c', s'.heap.get? s.heap.objs.size = some { cls := .type "list", dict := none, data := .seq acc c', slots := #[] } /\ Q acc.toList s') ->
   wpAny (model prog w) A (load s.heap.objs.size >>= fun o => match o.data with
    | .seq xs _ => pure xs.toList
    | _ => unsupported "internal:collect") Q E s' := fun s' ⟨acc, c', e, q⟩ => wpAny_bind (wpAny_load e (wpAny_pure q))
 refine wpAny_mono (wpAny_extend_range (s := { s with heap := s.heap.push { cls := .type "list", data := .seq ([] : List Value).toArray } })
  (R := fun res s' => res = .ok (.ret (.ref s.heap.objs.size)) /\ ∃ acc c', s'.heap.get? s.heap.objs.size = some { cls := .type "list", dict := none, data := .seq acc c', slots := #[] } /\ Q acc.toList s')
  hh (Heap.get?_push_of_some _ hr) hsmall hn hlen s.heap.objs.size (.ref s.heap.objs.size) 0 hS fun h' tk acc' c' hk hS' hacc => ⟨rfl, acc', c', hS', ?_⟩) (fun z s' hz => ?_) fun e s' he => ?_
 ·exact hQ h' tk acc' (fun b o e => hk b o (Nat.ne_of_lt (Heap.lt_size e)) (Heap.get?_push_of_some _ e)) hacc
 ·cases z with
  | done f =>
   obtain ⟨hr', q⟩ := hz
   cases hr'
   exact fin s' q
  | again c' =>
   refine ⟨hz.1, codeAny_mono hz.2 fun res s2 q => ?_⟩
   obtain ⟨rfl, q⟩ := q
   exact fin s2 q
 ·cases he.1
end
end PyProof.Rows
namespace L2
open PySem PySem.Spec PyProof.Rows
def SortTo (lim : Nat) : Prop := ∀ {prog : Program} {w : World} {A : Around} {E : Value -> Shared -> Prop} {s : Shared} {a₀ : Array Keyed} {st : SortSt} {Q : Unit -> SortSt -> Prop}, IntKeys a₀ -> SBase a₀ st -> 2 <= a₀.size -> a₀.size <= lim ->
 (∀ st', (arrOf st').Perm a₀ -> failedOf st' = none -> SortedTo (arrOf st') a₀.size -> Q () st') -> wpS (model prog w) A E s sortRuns' Q st
theorem sortTo63 : SortTo 63 := fun h0 hB h2 h64 h => wpS_sortRuns h0 hB h2 (Nat.lt_succ_of_le h64) h
section
variable {X : Cx} {pins : List (Addr × Obj)} {σ : St} {H : Hp} {s : Shared} {A : Around} {E : Value -> Shared -> Prop}
theorem Inv.pin_add {a : Addr} {o : Obj} (I : Inv X pins σ H s) (f : FpOk X pins H a) (e : s.heap.get? a = some o) (nc : ∀ v, o.data ≠ .cell v) : Inv X ((a, o) :: pins) σ H s := I.pins_of fun p hp => by
 rcases List.mem_cons.mp hp with rfl | hp
 ·exact ⟨e, f.1, f.2.1, f.2.2.1, nc⟩
 ·exact I.pin p (List.mem_append_right _ hp)
theorem Inv.pin_drop {p : Addr × Obj} (I : Inv X (p :: pins) σ H s) : Inv X pins σ H s := I.pins_of fun q hq => I.pin q (List.mem_append_right _ (List.mem_cons_of_mem _ hq))
theorem Inv.pin_get {p : Addr × Obj} (I : Inv X pins σ H s) (h : p ∈ pins) : s.heap.get? p.1 = some p.2 := (I.pin p (List.mem_append_right _ h)).1
theorem Inv.turn1 {t' : Nat} {a : Addr} {h' : Heap} (I : Inv X pins σ H s) (f : FpOk X pins H a) (k : ∀ b o, b ≠ a -> s.heap.get? b = some o -> h'.get? b = some o) : Inv X pins σ H { s with heap := h', toks := t' } :=
 I.turned k f.1 f.2.1 f.2.2.2.1 f.2.2.2.2.1 f.2.2.2.2.2
theorem key_sort {a : Addr} {f : Value} {vs : List Value} {kz : List Int} {n : Nat} {P : PySem.Fin -> Shared -> Prop}
  (I : Inv X pins σ H s) (ho : s.heap.get? a = some (seqObj "list" vs.toArray n)) (fa : FpOk X pins H a) (hlen : kz.length = vs.length) {lim : Nat} (srt : SortTo lim) (hlim : lim <= 100000) (hz : vs.length <= lim)
  (turn : ∀ (i : Nat) (v : Value) (k : Int), vs[i]? = some v -> kz[i]? = some k -> ∀ (pins' : List (Addr × Obj)) (s' : Shared), (∀ p ∈ pins, p ∈ pins') -> Inv X pins' σ H s' ->
   wpAny (model X.prog X.w) A (call f [v]) (fun u s'' => (∃ t, u = .int k t) /\ Inv X pins' σ H s'') (fun _ _ => False) s')
  (h : ∀ s' out e, Inv X pins σ H s' -> s'.heap.get? a = some (seqObj "list" out e) -> KskOut false kz vs out.toList -> P (.done (.ret .none)) s') :
  wpAny (model X.prog X.w) A (ksk_tree a f false) P E s := by
 have hsl : ∀ m, m <= vs.length -> m <= sizeLine := fun m hm => by rw [sizeLine_eq]; omega
 unfold ksk_tree
 refine wpAny_bind
  (listItems_at ho rfl ?_)
 refine wpAny_bind
  (listUpdate_at ho rfl ?_ (by rw [List.size_toArray]; exact hsl _ (Nat.le_refl _)) (Nat.zero_le _))
 obtain ⟨e1, ho1⟩ : ∃ e1, (s.heap.update a (Obj.mapSeq fun _ => (#[] : Array Value))).get? a =
   some (seqObj "list" #[] e1) := ⟨_, get?_update_seq ho _⟩
 have s1 := Heap.SameBut.update s.heap a (Obj.mapSeq fun _ => (#[] : Array Value))
 have I1 : Inv X pins σ H { s with heap := s.heap.update a (Obj.mapSeq fun _ => (#[] : Array Value)) } :=
  I.turn1 (t' := s.toks) fa fun b o hb e => (s1.2 b hb).trans e
 refine wpAny_bind
  (seqEpoch_at ho1 rfl ?_)
 refine wpAny_bind
  (wpAny_newTuple ?_ (by show vs.length <= _; exact hsl _ (Nat.le_refl _)))
 refine wpAny_bind
  (wpAny_newList ?_ (Nat.zero_le _))
 refine wpAny_holding ?_
 dsimp only
 generalize hh1 : s.heap.update a (Obj.mapSeq fun _ => (#[] : Array Value)) = h1 at *
 have I2 : Inv X pins σ H { s with heap := h1.push (seqObj "tuple" vs.toArray 0) } := I1.kept (t' := s.toks) fun b o e => Heap.get?_push_of_some _ e
 have I3 : Inv X pins σ H { s with heap := (h1.push (seqObj "tuple" vs.toArray 0)).push (seqObj "list" #[] 0) } := I2.kept (t' := s.toks) fun b o e => Heap.get?_push_of_some _ e
 have fk : FpOk X pins H (h1.push (seqObj "tuple" vs.toArray 0)).objs.size := I2.fpOk (Nat.le_refl _) (I2.hok.fresh (Nat.le_refl _))
 have ha3 : ((h1.push (seqObj "tuple" vs.toArray 0)).push (seqObj "list" #[] 0)).get? a = some (seqObj "list" #[] e1) := Heap.get?_push_of_some _ (Heap.get?_push_of_some _ ho1)
 have hk3 : ((h1.push (seqObj "tuple" vs.toArray 0)).push (seqObj "list" #[] 0)).get? (h1.push (seqObj "tuple" vs.toArray 0)).objs.size = some (seqObj "list" #[] 0) := Heap.get?_push_size _ rfl
 have hak : a ≠ (h1.push (seqObj "tuple" vs.toArray 0)).objs.size := fun z => by
  have := Heap.lt_size (Heap.get?_push_of_some (seqObj "tuple" vs.toArray 0) ho1)
  rw [z] at this
  exact Nat.lt_irrefl _ this
 generalize hkS : (h1.push (seqObj "tuple" vs.toArray 0)).objs.size = kS at *
 have both : ∀ {s' : Shared} {oK : Obj}, Inv X pins σ H s' -> s'.heap.get? a = some (seqObj "list" #[] e1) -> s'.heap.get? kS = some oK -> (∀ v, oK.data ≠ .cell v) -> Inv X ((a, seqObj "list" #[] e1) :: (kS, oK) :: pins) σ H s' := fun {s' oK} J ea ek nc => by
  refine (J.pin_add fk ek nc).pin_add ⟨fa.1, fa.2.1, fa.2.2.1, fa.2.2.2.1, fa.2.2.2.2.1, fun p hp => ?_⟩ ea (fun v z => by cases z)
  rcases List.mem_append.mp hp with q | q
  ·exact fa.2.2.2.2.2 p (List.mem_append_left _ q)
  ·rcases List.mem_cons.mp q with rfl | q
   ·exact fun z => hak z.symm
   ·exact fa.2.2.2.2.2 p (List.mem_append_right _ q)
 unfold ksk_rest
 refine wpAny_bind (wpAny_rule ?_)
 rw [<- Array.forIn_toList]
 simp only [List.toList_toArray]
 refine wpAny_bind (ksk_fold (fun i s' => ∃ kA e, Inv X ((a, seqObj "list" #[] e1) :: (kS, seqObj "list" kA e) :: pins) σ H s' /\ IntsAre kA.toList (kz.take i)) vs 0 _
  ⟨#[], 0, both I3 ha3 hk3 (fun v z => by cases z), by simpa using IntsAre.nil⟩ ?step ?done)
 case step =>
  rintro j x s' hx ⟨kA, e, J, hk⟩
  simp only [Nat.zero_add] at hk ⊢
  have hj : j < vs.length := (List.getElem?_eq_some_iff.mp hx).1
  obtain ⟨k, hkj⟩ : ∃ k, kz[j]? = some k := ⟨_, List.getElem?_eq_getElem (by omega)⟩
  have hzA : kA.size <= vs.length := by
   have z := hk.length
   rw [Array.length_toList, List.length_take] at z
   omega
  refine wpAny_bind (wpAny_attempt (wpAny_mono (turn j x k hx hkj _ s' (fun p hp => List.mem_cons_of_mem _ (List.mem_cons_of_mem _ hp)) J) (fun v s2 hq => ?_) fun _ _ hF => hF.elim))
  obtain ⟨⟨t2, rfl⟩, J2⟩ := hq
  dsimp only
  have ea := J2.pin_get (p := (a, seqObj "list" #[] e1)) List.mem_cons_self
  have ek := J2.pin_get (p := (kS, seqObj "list" kA e)) (List.mem_cons_of_mem _ List.mem_cons_self)
  dsimp only at ea ek
  have sb := Heap.SameBut.update s2.heap kS (Obj.mapSeq (·.push (.int k t2)))
  obtain ⟨c2, hc2⟩ : ∃ c2, (s2.heap.update kS (Obj.mapSeq (·.push (.int k t2)))).get? kS = some (seqObj "list" (kA.push (.int k t2)) c2) :=
   ⟨_, get?_update_seq ek _⟩
  have et : kz.take (j + 1) = kz.take j ++ [k] := by rw [List.take_add_one, hkj]; rfl
  refine wpAny_bind
   (listUpdate_at ek rfl ?_ (hsl _ hzA) (by rw [Array.size_push]; exact Nat.succ_le_succ (hsl _ hzA)))
  refine wpAny_pure ⟨rfl, kA.push (.int k t2), c2, ?_, ?_⟩
  ·exact both (J2.pin_drop.pin_drop.turn1 (t' := s2.toks) fk fun b o hb z => (sb.2 b hb).trans z) ((sb.2 a hak).trans ea) hc2 (fun v z => by cases z)
  ·rw [et, Array.toList_push]
   exact ksk_snoc hk
 case done =>
  rintro s' ⟨kA, e, J, hk⟩
  have hk' : IntsAre kA.toList kz := by
   rw [Nat.zero_add, List.take_of_length_le (by omega)] at hk
   exact hk
  have hszk : kA.size = vs.length := by
   have z := hk'.length
   rw [Array.length_toList] at z
   omega
  have ea := J.pin_get (p := (a, seqObj "list" #[] e1)) List.mem_cons_self
  have ek := J.pin_get (p := (kS, seqObj "list" kA e)) (List.mem_cons_of_mem _ List.mem_cons_self)
  dsimp only at ea ek ⊢
  have J0 := J.pin_drop.pin_drop
  refine wpAny_bind
   (listItems_at ek rfl ?_)
  have hzs : (kA.zip vs.toArray).size = vs.length := by rw [Array.size_zip, hszk, List.size_toArray, Nat.min_self]
  have tail : ∀ st : SortSt, (arrOf st).Perm (kA.zip vs.toArray) -> SortedTo (arrOf st) (arrOf st).size -> failedOf st = none -> wpAny (model X.prog X.w) A (ksk_tail a false e1 (.ref kS) st) P E s' := by
   intro st hp hs hfl
   have hs2 : (arrOf st).size = vs.length := by rw [hp.size_eq, hzs]
   have sb := Heap.SameBut.update s'.heap kS (Obj.mapSeq fun _ => (#[] : Array Value))
   have ea1 : (s'.heap.update kS (Obj.mapSeq fun _ => (#[] : Array Value))).get? a = some (seqObj "list" #[] e1) := (sb.2 a hak).trans ea
   have sb2 := Heap.SameBut.update (s'.heap.update kS (Obj.mapSeq fun _ => (#[] : Array Value))) a (Obj.mapSeq fun _ => (arrOf st).map (·.2))
   obtain ⟨c2, hc2⟩ : ∃ c2, ((s'.heap.update kS (Obj.mapSeq fun _ => (#[] : Array Value))).update a (Obj.mapSeq fun _ => (arrOf st).map (·.2))).get? a = some (seqObj "list" ((arrOf st).map (·.2)) c2) :=
    ⟨_, get?_update_seq ea1 _⟩
   unfold ksk_tail
   dsimp only
   refine wpAny_bind
    (listUpdate_at ek rfl ?_ (hsl _ (Nat.le_of_eq hszk)) (Nat.zero_le _))
   refine wpAny_bind (wpAny_letGo ?_)
   refine wpAny_bind
    (seqEpoch_at ea1 rfl ?_)
   simp only [Bool.false_eq_true, if_false]
   refine wpAny_bind
    (listUpdate_at ea1 rfl ?_ (Nat.zero_le _) (by rw [Array.size_map, hs2]; exact Nat.le_succ_of_le (hsl _ (Nat.le_refl _))))
   rw [hfl]
   simp only [bne_self_eq_false, Bool.false_eq_true, if_false]
   refine wpAny_pure (h _ _ c2 ?_ hc2 ?_)
   ·exact (J0.turn1 (t' := s'.toks) fk fun b o hb z => (sb.2 b hb).trans z).turn1 (t' := s'.toks) fa fun b o hb z => (sb2.2 b hb).trans z
   ·have z := ksk_out (b := false) hk' hp hs
    simpa using z
  unfold ksk_end
  simp only [Bool.false_eq_true, if_false]
  by_cases h2 : vs.toArray.size < 2
  ·rw [if_pos h2, if_pos h2]
   refine wpAny_bind (wpAny_pure ?_)
   rw [StateT.run_pure]
   refine wpAny_bind (wpAny_pure ?_)
   dsimp only
   refine tail _ (Array.Perm.refl _) ?_ rfl
   intro i j hij hj
   have hj2 : j < (kA.zip vs.toArray).size := hj
   rw [hzs] at hj2
   rw [List.size_toArray] at h2
   have : i = j := by omega
   subst this
   exact Int.le_refl _
  ·rw [if_neg h2, if_neg h2]
   rw [List.size_toArray] at h2
   rw [ksk_kind hk' (by rw [hszk]; omega)]
   refine wpAny_bind (wpAny_pure ?_)
   refine wpAny_bind
    (wpAny_mono (srt (a₀ := kA.zip vs.toArray) (st := SortSt.mk' oneType' (kA.zip vs.toArray) #[] 7 none)
     (Q := fun _ z => (arrOf z).Perm (kA.zip vs.toArray) /\ failedOf z = none /\ SortedTo (arrOf z) (kA.zip vs.toArray).size)
     (ksk_intKeys hk') ⟨Array.Perm.refl _, rfl, rfl, rfl⟩ (by rw [hzs]; omega) (by rw [hzs]; exact hz) fun z b1 b2 b3 => ⟨b1, b2, b3⟩) ?_ fun _ _ e => e)
   rintro ⟨⟨⟩, z⟩ s2 ⟨rfl, b1, b2, b3⟩
   dsimp only
   exact tail z b1 (by rw [b1.size_eq]; exact b3) b2
theorem lam_make {P c : Addr} {params : Arguments} {body : Expr} {scope : Scope} {pos : Pos} {N' : List Str} {cap : List (Option Nat)} {Q : Value -> Shared -> Prop} (I : Inv X pins σ H s)
  (hT : H P = some (.tbl pos (X.env.qual ++ "<lambda>"))) (hcode : X.env.code = .ref c) (C : PySem.W.CodeHd X.base c P) (S : CSc X scope N' cap) (hdef : defaultsOf params X.env = ([], []))
  (h : ∀ (f c' : Addr) (oc : Obj) (vs : Array Value) (t : Tok) (ctv : Value) (s' : Shared) (H' : Hp),
   Inv X ((f, kla_obj "<lambda>" (X.env.qual ++ "<lambda>") params body scope (compCl X.env scope.names []) ((X.mg "__name__").getD .none) c' ctv) :: pins) σ H' s' ->
   (H' = H \/ ∃ b, H b = none /\ H' = upd H b (.frz oc (.own P))) -> H' c' = some (.frz oc (.own P)) -> oc.data = .fields vs -> vs[1]? = some (.str (X.env.qual ++ "<lambda>") t) -> Q (.ref f) s') :
  wpAny (model X.prog X.w) A (eval (.Lambda params body scope pos) X.env) Q E s := by
 obtain ⟨ps, hP, tr, hc⟩ := (show ObjOk X.prog X.w H s.heap P (.tbl pos (X.env.qual ++ "<lambda>")) from I.hok P _ hT)
 obtain ⟨bm, ob, m1, m2, m3, m4, m5, m6⟩ := I.mod.bm
 have hgl : s.heap.Ns mainGlobals X.mg := I.mod.glob.keeps I.bk
 have hbmG : bm ≠ mainGlobals := fun q => by
  obtain ⟨o, es, ep, e, hd, _⟩ := I.mod.glob
  rw [q, e] at m3; cases m3; rw [hd] at m6; cases m6
 have hbmP : bm ≠ P := fun q => by
  have e := I.bk _ _ m3
  rw [q, hP] at e; cases e; cases m4
 have hgP : mainGlobals ≠ P := fun q => by
  obtain ⟨o, es, ep, e, hd, _⟩ := hgl
  rw [q, hP] at e; cases e; cases hd
 have hB : s.heap.BuiltinsAt X.mg P := ⟨bm, ob, m1, m2, hbmG, hbmP, I.bk _ _ m3, m4, m5, m6⟩
 have hcl : closureFor scope X.env = pure (compCl X.env scope.names []) := closure_eq (I.cellOf S)
 refine PySem.W.kla_eval hdef ?_
 cases hca : codeAmong pos ps.toList with
 | none =>
  refine PySem.W.kla_makeFunction hcl I.ok.glob hgl hcode (C.keeps I.bk) hP tr hca hgP hB fun c' ctv h' tk hx hge hlt hrec htb => ?_
  obtain ⟨c2, oc, vs, t, ec, hoc, hdc, hq⟩ := hrec
  cases ec
  have hn : H c' = none := I.hok.fresh hge
  have hPc : P ≠ c' := ne_of_none hT hn
  have hsz : s.heap.objs.size <= h'.objs.size := Nat.le_trans hge (Nat.le_of_lt hlt)
  have lt : ∀ b o, s.heap.get? b = some o -> b ≠ c' := fun b o e => Nat.ne_of_lt (Nat.lt_of_lt_of_le (Heap.lt_size e) hge)
  have old : ∀ b o, b ≠ P -> s.heap.get? b = some o -> (h'.push (kla_obj "<lambda>" (X.env.qual ++ "<lambda>") params body scope (compCl X.env scope.names []) ((X.mg "__name__").getD .none) c' ctv)).get? b = some o :=
   fun b o hb e => Heap.get?_push_of_some _ (hx b o hb e)
  have nP : ∀ b, H b = none -> b ≠ P := fun b n z => by rw [z, hT] at n; cases n
  have hun : Un X.fs [] H (upd H c' (.frz oc (.own P))) s.heap (h'.push (kla_obj "<lambda>" (X.env.qual ++ "<lambda>") params body scope (compCl X.env scope.names []) ((X.mg "__name__").getD .none) c' ctv)) := by
   refine ⟨fun b o e n _ _ => old b o (nP b n) e, fun b o e n _ _ => ⟨o.slots, old b o (nP b n) e⟩, fun b o e n _ => by rw [upd_ne (lt b o e)]; exact n, fun b o e _ => ?_,
    fun b xs q => by rw [upd_ne (ne_of_none q hn)]; exact q, fun b o u q => by rw [upd_ne (ne_of_none q hn)]; exact q, fun b pl y q => by rw [upd_ne (ne_of_none q hn)]; exact q⟩
   by_cases hb : b = P
   ·exact ⟨_, by rw [hb]; exact Heap.get?_push_of_some _ htb⟩
   ·exact ⟨o, old b o hb e⟩
  have hok : HOk X.prog X.w (upd H c' (.frz oc (.own P))) (h'.push (kla_obj "<lambda>" (X.env.qual ++ "<lambda>") params body scope (compCl X.env scope.names []) ((X.mg "__name__").getD .none) c' ctv)) := fun b u e => by
   by_cases hbc : b = c'
   ·subst hbc
    rw [upd_same] at e
    cases e
    exact ⟨Heap.get?_push_of_some _ hoc, _, Heap.get?_push_of_some _ hoc⟩
   ·rw [upd_ne hbc] at e
    by_cases hb : b = P
    ·subst hb
     rw [hT] at e
     cases e
     have eL : (ps ++ #[rawInt pos.line, rawInt pos.col, Value.ref c']).toList = ps.toList ++ [rawInt pos.line, rawInt pos.col, Value.ref c'] := by simp
     refine ⟨_, Heap.get?_push_of_some _ htb, by rw [eL]; exact TriplesOk_snoc _ _ _ _ tr, fun cv z => ?_⟩
     rw [eL, codeAmong_snoc _ tr hca] at z
     cases z
     exact ⟨c', oc, vs, t, rfl, upd_same, hdc, hq⟩
    ·refine (I.hok b u e).stay (fun d v hd q => old d v ?_ q) (fun d q => by rw [upd_ne (ne_of_none q hn)]; exact q) (fun d xs q => by rw [upd_ne (ne_of_none q hn)]; exact q) fun d o y q => by rw [upd_ne (ne_of_none q hn)]; exact q
     rcases hd with rfl | hd
     ·exact hb
     ·intro z; rw [z, hT] at hd; cases hd
  have J : Inv X pins σ (upd H c' (.frz oc (.own P))) { s with heap := h'.push (kla_obj "<lambda>" (X.env.qual ++ "<lambda>") params body scope (compCl X.env scope.names []) ((X.mg "__name__").getD .none) c' ctv), toks := tk } := I.un hun hok
  refine h h'.objs.size c' oc vs t ctv _ _ (J.pin_add ?_ (Heap.get?_push_size _ rfl) (fun v z => by cases z)) (.inr ⟨c', hn, rfl⟩) upd_same hdc hq
  exact I.fpOk hsz (by rw [upd_ne (Nat.ne_of_gt hlt)]; exact I.hok.fresh hsz)
 | some cv =>
  obtain ⟨c', oc, vs, t, rfl, e2, hdc, hq⟩ := hc cv hca
  refine PySem.W.kla_makeFunctionHit hcl I.ok.glob hgl hcode (C.keeps I.bk) hP tr hca hB fun ctv h' tk hk hsz => ?_
  have J : Inv X pins σ H { s with heap := h'.push (kla_obj "<lambda>" (X.env.qual ++ "<lambda>") params body scope (compCl X.env scope.names []) ((X.mg "__name__").getD .none) c' ctv), toks := tk } :=
   I.kept fun b o e => Heap.get?_push_of_some _ (hk b o e)
  refine h h'.objs.size c' oc vs t ctv _ H (J.pin_add ?_ (Heap.get?_push_size _ rfl) (fun v z => by cases z)) (.inl rfl) e2 hdc hq
  exact I.fpOk hsz (I.hok.fresh hsz)
def lamCx (X : Cx) (A : Around) (qual : Str) (scope : Scope) (N' : List Str) (f : Addr) (cd : Value) (s : Shared) (H : Hp) : Cx where
 prog := X.prog
 w := X.w
 K := X.K
 mg := X.mg
 base := X.base
 A := A.deeper (envX qual scope s.heap.objs.size f cd (compCl X.env scope.names []))
 N := N'
 s₀ := s
 H₀ := H
 env := envX qual scope s.heap.objs.size f cd (compCl X.env scope.names [])
 outer := X.stack
 stack := envX qual scope s.heap.objs.size f cd (compCl X.env scope.names []) :: X.stack
 ex := []
 calm := true
 fn := fun _ => false
 pn := []
 xe := fun _ _ => False
theorem lam_call {f c' : Addr} {oc : Obj} {vs : Array Value} {t : Tok} {ctv pm : Value} {qual x y : Str} {params : Arguments} {body : Expr} {scope : Scope} {j : Nat} {v : Value} {a b : V} {te : TE} {Qv : VK} {P : Addr}
  (I : Inv X pins σ H s) (hA : A.frames = some X.stack) (hh : A.handled = none) (hd : A.depth < recursionLimit)
  (hf : (f, kla_obj "<lambda>" qual params body scope (compCl X.env scope.names []) pm c' ctv) ∈ pins) (hc : H c' = some (.frz oc (.own P))) (hdc : oc.data = .fields vs) (hq : vs[1]? = some (.str qual t))
  (S : CSc X scope [x, y] [none, some j]) (hxl : scope.names.lookup x = some .local) (hco : scope.isCoroutine = false) (hgen : scope.isGenerator = false)
  (hbind : ∀ cdv, bindArgs (PySem.W.kla_fn "<lambda>" qual params body scope (compCl X.env scope.names []) pm cdv ctv) ⟨[v], []⟩ = pure [(x, v)])
  (hσ : σ[j]? = some (some b)) (rv : RelV a v) (hb : ∀ s', PE (lamCx X A qual scope [x, y] f (.ref c') s' H) body te) (q : te [some a, some b] H Qv) :
  wpAny (model X.prog X.w) A (call (.ref f) [v]) (fun u s' => ∃ z H', RelV z u /\ Qv z H' /\ Inv X pins σ H' s') (fun _ _ => False) s := by
 have hlim := I.nolimit
 have ho := I.pin_get hf
 obtain ⟨hoc, _⟩ := (show ObjOk X.prog X.w H s.heap c' (.frz oc (.own P)) from I.hok c' _ hc)
 refine wpAny_call (PySem.W.kla_callFunE hd ho rfl hco hgen rfl ⟨c', oc, vs, t, rfl, hoc, hdc, hq⟩ ?_)
 rw [hbind]
 refine wpAny_pure (wpAny_newFunctionEnv S.nocell (fun z hz => by rw [List.mem_singleton.mp hz]; exact hxl) (fun h₁ hns hsb => ?_) S.kind)
 have hk₁ : ∀ b o, s.heap.get? b = some o -> h₁.get? b = some o := fun b o e => hsb.extBut b o (Nat.ne_of_lt (Heap.lt_size e)) (Heap.get?_push_of_some _ e)
 refine ⟨hlim.keeps hk₁, ?_⟩
 show codeAny _ _ (.expr body (envX qual scope s.heap.objs.size f (.ref c') (compCl X.env scope.names []))) _ _
 have J : Inv (lamCx X A qual scope [x, y] f (.ref c') s H) [] [some a, some b] H { s with heap := h₁, toks := s.toks + 1 } := by
  refine ⟨⟨I.ok.mod, S.kind, rfl, rfl, Nat.le_refl _, fun z z' d h1 h2 => ?_, fun z hz => ?_, fun z d hz => (by cases hz), fun _ => hh, Around.frames_deeper hA, .inr ⟨rfl, rfl⟩, fun d hd' => absurd (show d ∈ ([] : List Addr) from hd') (by simp), I.bs, Nat.le_trans I.ok.bsz I.sz,
    fun d _ _ => (by show d ∉ ([] : List Addr); simp), fun d hd' => absurd (show d ∈ ([] : List Addr) from hd') (by simp), I.stack, I.stkFree⟩,
   rfl, I.bare, Un.kept hk₁, ⟨_, hns, fun i z u e1 e2 e3 => ?_⟩, fun z d e => ?_, I.hok.fresh (Nat.le_refl _), fun z d e => I.freeC z d (I.clLook S e), fun p hp => absurd (show p ∈ ([] : List (Addr × Obj)) from hp) (by simp), I.hok.kept hk₁, rfl⟩
  ·exact I.ok.inj z z' d (I.clLook S h1) (I.clLook S h2)
  ·have hz' : scope.names.lookup z = some .cell \/ scope.names.lookup z = some .free := hz
   rcases hz' with hz' | hz'
   ·exact absurd rfl (S.nocell _ (PySem.mem_of_lookup hz'))
   ·exact compCl_has _ _ z (PySem.mem_of_lookup hz')
  ·match i, e1, e2 with
   | 0, e1, e2 =>
    cases e1
    cases e2
    exact ⟨v, rv, .inl ⟨hxl, by simp⟩⟩
   | 1, e1, e2 =>
    cases e1
    cases e2
    obtain ⟨a1, _, a3⟩ := S.cap 1 (List.mem_range.mpr (by show 1 < 2; omega)) j rfl
    have a1' : X.N[j]? = some y := a1.symm
    have a3' : scope.names.lookup y = some .free := a3
    have hk' : X.env.kindOf y = some .cell \/ X.env.kindOf y = some .free := S.free _ (PySem.mem_of_lookup a3') rfl
    obtain ⟨m0, hn0, hl⟩ := I.loc
    obtain ⟨u', ru, lk⟩ := hl j y _ a1' hσ (hk'.elim (fun z => .inr (.inl z)) fun z => .inr (.inr z))
    refine ⟨u', ru, ?_⟩
    rcases lk with ⟨z, _⟩ | ⟨_, d, ec, hcell⟩
    ·rcases hk' with w' | w'
     ·rw [z] at w'; cases w'
     ·rw [z] at w'; cases w'
    ·obtain ⟨d', ec'⟩ := compCl_has (env := X.env) scope.names [] y (PySem.mem_of_lookup a3')
     have : d' = d := Option.some.inj ((I.clLook S ec').symm.trans ec)
     subst this
     exact .inr ⟨.inr a3', d', ec', hcell.keeps hk₁⟩
  ·obtain ⟨u', z'⟩ := I.cell z d (I.clLook S e)
   exact ⟨u', z'.keeps hk₁⟩
 refine PySem.W.kla_codeExpr (wpAny_mono (hb s [] _ _ H Qv J q) (fun u s' hu => ?_) fun _ _ z => False.elim z)
 obtain ⟨z, H', J', rz, qz⟩ := hu
 exact ⟨z, H', rz, qz, I.call' (ch := []) J'.os J'.base J'.hok J'.bare fun d hd' => absurd hd' (by simp)⟩
end
end L2
namespace Sh
section
variable {T : List Int} {ord trk : List Nat} {many : Nat}
end
section
variable {ord trk : List Nat} {many n : Nat}
structure Ord (ord : List Nat) (n : Nat) : Prop where
 nd : ord.Nodup
 mem : ∀ p, p ∈ ord ↔ p < n
theorem Ord.at_ (h : Ord ord n) {p : Nat} (hp : p < n) : ord[ord.idxOf p]? = some p := by
 have hm := (h.mem p).mpr hp
 rw [List.getElem?_eq_getElem (List.idxOf_lt_length_iff.mpr hm), List.getElem_idxOf]
theorem Ord.idx (h : Ord ord n) {j p : Nat} (e : ord[j]? = some p) : ord.idxOf p = j := by
 obtain ⟨hj, rfl⟩ := List.getElem?_eq_some_iff.mp e
 exact h.nd.idxOf_getElem j hj
theorem Ord.lt (h : Ord ord n) {j p : Nat} (e : ord[j]? = some p) : p < n := (h.mem p).mp (List.mem_of_getElem? e)
theorem Ord.inj (h : Ord ord n) {p q : Nat} (hp : p < n) (hq : q < n) (e : ord.idxOf p = ord.idxOf q) : p = q := by
 have a := h.at_ hp
 rw [e, h.at_ hq] at a
 exact (Option.some.inj a).symm
end
end Sh
namespace L2
open PySem PySem.Spec PyProof.Rows
structure Rank (T : List Int) (ord : List Nat) : Prop where
 perm : ord.Perm (List.range T.length)
 up : ord.Pairwise fun p q => T.getD p 0 <= T.getD q 0
theorem Rank.ord {T : List Int} {ord : List Nat} (h : Rank T ord) : Sh.Ord ord T.length := ⟨h.perm.nodup_iff.mpr List.nodup_range, fun p => by rw [h.perm.mem_iff, List.mem_range]⟩
theorem Rank.lt {T : List Int} {ord : List Nat} (h : Rank T ord) (hT : T.Nodup) (i j p q : Nat) (hij : i < j) (e1 : ord[i]? = some p) (e2 : ord[j]? = some q) : T.getD p 0 < T.getD q 0 := by
 obtain ⟨hi, rfl⟩ := List.getElem?_eq_some_iff.mp e1
 obtain ⟨hj, rfl⟩ := List.getElem?_eq_some_iff.mp e2
 have hle := List.pairwise_iff_getElem.mp h.up i j hi hj hij
 have hp := h.ord.lt e1
 have hq := h.ord.lt e2
 have hne : T.getD ord[i] 0 ≠ T.getD ord[j] 0 := fun z => by
  rw [List.getD_eq_getElem?_getD, List.getD_eq_getElem?_getD, List.getElem?_eq_getElem hp, List.getElem?_eq_getElem hq] at z
  have z' : T[ord[i]] = T[ord[j]] := z
  have := (List.getElem_inj hT).mp z'
  have := (List.getElem_inj h.ord.nd).mp this
  omega
 omega
section
variable {X : Cx} {E : XK}
theorem rank_of {T : List Int} {vs out : List Value} (hv : vs.length = T.length) (hi : ∀ (j : Nat) (v : Value), vs[j]? = some v -> ∃ t, v = .int (j : Int) t) (h : KskOut false T vs out) : ∃ ord, Rank T ord /\ Vals (ord.map fun (p : Nat) => V.int (p : Int)) out := by
 obtain ⟨ps, hp, rfl, hs⟩ := h
 let f : Int × Value -> Nat := fun p => match p.2 with | .int i _ => i.toNat | _ => 0
 have hmem : ∀ p ∈ ps, ∃ (j : Nat) (t : Tok), p.2 = .int (j : Int) t /\ j < T.length /\ T.getD j 0 = p.1 /\ f p = j := fun p hpm => by
  have hm := hp.mem_iff.mp hpm
  obtain ⟨j, hj, e⟩ := List.getElem_of_mem hm
  rw [List.length_zip, hv, Nat.min_self] at hj
  rw [List.getElem_zip] at e
  obtain ⟨t, et⟩ := hi j vs[j] (List.getElem?_eq_getElem (by omega))
  refine ⟨j, t, ?_, hj, ?_, ?_⟩
  ·rw [<- e]; exact et
  ·rw [List.getD_eq_getElem?_getD, List.getElem?_eq_getElem hj, <- e]; rfl
  ·rw [<- e]
   show (match vs[j] with | .int i _ => i.toNat | _ => 0) = j
   rw [et]
   exact Int.toNat_natCast j
 refine ⟨ps.map f, ⟨?_, ?_⟩, ?_⟩
 ·have h1 := hp.map f
  have h2 : (T.zip vs).map f = List.range T.length := by
   refine List.ext_getElem? fun k => ?_
   rw [List.getElem?_map]
   by_cases hk : k < T.length
   ·rw [List.getElem?_eq_getElem (by rw [List.length_zip, hv, Nat.min_self]; exact hk), List.getElem?_range hk, List.getElem_zip]
    obtain ⟨t, et⟩ := hi k vs[k] (List.getElem?_eq_getElem (by omega))
    show some (match vs[k] with | .int i _ => i.toNat | _ => 0) = some k
    rw [et]
    exact congrArg some (Int.toNat_natCast k)
   ·rw [List.getElem?_eq_none_iff.mpr (by rw [List.length_zip, hv, Nat.min_self]; omega), List.getElem?_eq_none_iff.mpr (by rw [List.length_range]; omega)]
    rfl
  rw [h2] at h1
  exact h1
 ·rw [List.pairwise_map]
  refine hs.imp_of_mem fun {p q} hp' hq' hle => ?_
  obtain ⟨j, _, _, _, e1, e2⟩ := hmem p hp'
  obtain ⟨k, _, _, _, e3, e4⟩ := hmem q hq'
  rw [e2, e4, e1, e3]
  simpa using hle
 ·clear hs hp
  induction ps with
  | nil => exact .nil
  | cons p r ih =>
   obtain ⟨j, t, e1, _, _, e2⟩ := hmem p List.mem_cons_self
   refine .cons ?_ (ih fun q hq => hmem q (List.mem_cons_of_mem _ hq))
   rw [e2]
   exact ⟨t, e1⟩
theorem Inv.adopt {pins : List (Addr × Obj)} {σ : St} {H : Hp} {s : Shared} {a : Addr} {xs : List V} {its : List Value} {m : Nat} (I : Inv X pins σ H s) (f : FpOk X pins H a) (n2 : X.s₀.heap.objs.size <= a)
  (ho : s.heap.get? a = some { cls := .type "list", data := .seq its.toArray m }) (rv : Vals xs its) (hz : xs.length <= sizeLine) : Inv X pins σ (upd H a (.lst xs)) s := by
 have n1 := f.1
 refine ⟨I.ok, I.os, I.bare, ⟨I.base.keep, I.base.slot, fun b o q n hx => ?_, I.base.there, fun b xs q => upd_get (I.base.tups b xs q) n1, fun b o u q => upd_get (I.base.frzs b o u q) n1, fun b pl y q => upd_get (I.base.tbls b pl y q) n1⟩, I.loc, I.cell,
  by rw [upd_ne f.2.1.symm]; exact I.free, fun x c e => by rw [upd_ne (f.2.2.2.2.1 x c e)]; exact I.freeC x c e, fun p hp => ?_, fun b o q => ?_, I.len⟩
 ·rw [upd_ne (fun z => by rw [z, Heap.get?_none_of_le n2] at q; cases q)]
  exact I.base.free b o q n hx
 ·obtain ⟨p1, p2, p3⟩ := I.pin p hp
  exact ⟨p1, by rw [upd_ne (f.2.2.2.2.2 p hp)]; exact p2, p3⟩
 ·by_cases hb : b = a
  ·subst hb
   rw [upd_same] at q
   cases q
   exact ⟨hz, its, m, rv, ho⟩
  ·rw [upd_ne hb] at q
   exact (I.hok b o q).stay (fun c v _ r => r) (fun c r => upd_get r n1) (fun c xs r => upd_get r n1) fun c ob y r => upd_get r n1
def KB (lim : Nat) (P : Addr) (pl : Pos) (q : Str) (j : Nat) (σ : St) (Q : VK) (v : V) (H1 : Hp) : Prop := ∃ (r a : Addr) (T : List Int), v = .ref r /\ H1 r = some (.rng 0 T.length) /\ σ[j]? = some (some (.ref a)) /\ H1 a = some (.lst (T.map V.int)) /\ T.length <= lim /\ H1 P = some (.tbl pl q) /\
 ∀ (l : Addr) (H' : Hp) (ord : List Nat), Same H1 H' -> H1 l = none -> Rank T ord -> H' l = some (.lst (ord.map fun (p : Nat) => V.int (p : Int))) -> Q (.ref l) H'
def tKey (lim : Nat) (P : Addr) (pl : Pos) (q : Str) (te : TE) (j : Nat) : TE := fun σ H Q => te σ H (KB lim P pl q j σ Q)
theorem pe_key {k : Nat} {P c : Addr} {x y : Str} {p cpos kp lpos spos xpos ypos : Pos} {e : Expr} {scope : Scope} {j : Nat} {te : TE} {params : Arguments}
  {lim : Nat} (srt : SortTo lim) (hlim : lim <= 100000) (he : PE X e te) (hr : Room (k + 1) X.A) (hcode : X.env.code = .ref c) (C : ∀ {h : Heap}, X.K.In h -> PySem.W.CodeHd h c P) (S : CSc X scope [x, y] [none, some j]) (hxl : scope.names.lookup x = some .local) (hyl : scope.names.lookup y = some .free)
  (hco : scope.isCoroutine = false) (hgen : scope.isGenerator = false) (hg : Gl X "sorted") (hm : X.mg "sorted" = none) (hdef : defaultsOf params X.env = ([], []))
  (hbind : ∀ (cl : List (Str × Addr)) (pm cdv ctv v : Value), bindArgs (PySem.W.kla_fn "<lambda>" (X.env.qual ++ "<lambda>") params (.Subscript (.Name y ypos) (.Name x xpos) spos) scope cl pm cdv ctv) ⟨[v], []⟩ = pure [(x, v)])
  (dx : (x == ("__debug__" : Str)) = false := by decide) (dx' : (x == ("__classdict__" : Str)) = false := by decide) (dy : (y == ("__debug__" : Str)) = false := by decide) (dy' : (y == ("__classdict__" : Str)) = false := by decide)
  (hst : starEach [e] X.env = (false, eval e X.env) :: starEach [] X.env := by rfl) :
  PE X (.Call (.Name "sorted" p) [e] [⟨some "key", .Lambda params (.Subscript (.Name y ypos) (.Name x xpos) spos) scope lpos, kp⟩] cpos) (tKey lim P lpos (X.env.qual ++ "<lambda>") te j) := by
 intro pins s σ H Q I h
 refine wpAny_Call_Name_kw (ld_blt I hg hm (u := .builtin "sorted") (by decide +kernel) ?_)
 have pa : PA X [e] (tCons te tNil) := pa_cons he pa_nil hst
 have hbt : backTo cpos (starEach [e] X.env) = (false, eval e X.env) :: backTo cpos (starEach [] X.env) := by rw [hst]; rfl
 refine callWith_kw (thn (pa cpos pins s σ H (fun vs H1 => match vs with | [v] => KB lim P lpos (X.env.qual ++ "<lambda>") j σ Q v H1 | _ => False) I h) fun us s1 ⟨vs, H1, I1, r1, q1⟩ => ?_) hbt (by rw [hst]; rfl)
 match vs, us, r1, q1 with
 | [_], _, .cons rr .nil, ⟨r, a, T, ev, hrng, hσ, hT, hz, hP, q⟩ =>
  subst ev
  cases (show _ = Value.ref r from rr)
  show wpAny _ _ (evalAll [do let v <- eval (.Lambda params (.Subscript (.Name y ypos) (.Name x xpos) spos) scope lpos) X.env; standAt cpos; pure v]) _ _ s1
  refine wpAny_evalAll_cons (wpAny_bind (lam_make I1 hP hcode (C I1.mod.kin) S hdef fun f c' oc ws t ctv s2 H2 I2 hH hc' hdc hq => wpAny_bind (wpAny_standAt (wpAny_pure (wpAny_evalAll_nil ?_)))))
  show wpAny _ _ (call (.builtin "sorted") [.ref r] [(Str.ofString "key", .ref f)]) _ _ s2
  have s12 : Same H1 H2 := by
   rcases hH with rfl | ⟨b, hb, rfl⟩
   ·exact Same.refl _
   ·exact Same.upd hb
  refine call_function_entry_kw kind_sorted plain_sorted entry_sorted (ksk_s1 _ _) ?_
  unfold Builtin.«sorted»
  refine wpAny_bind (m := checkCount "sorted" 1 1 _) (wpAny_pure ?_)
  obtain ⟨t1, t2, t3, ern⟩ := (show ObjOk X.prog X.w H2 s2.heap r (.rng 0 T.length) from I2.hok r _ (s12 _ _ hrng))
  have hn : Builtin.Range.rangeSize 0 (T.length : Int) 1 = (T.length : Nat) := by rw [rangeSize_one]; split <;> omega
  refine wpAny_bind (collect_rng (A := X.A.in1) hr.hd ern (small_one (by omega) (by omega) (by omega) (by omega)) hn (by omega) fun h3 tk acc hk3 hacc => ?_)
  have hal : acc.toList.length = T.length := by rw [Array.length_toList]; exact hacc.1
  have hai : ∀ (i : Nat) (v : Value), acc.toList[i]? = some v -> ∃ t, v = .int (i : Int) t := fun i v e => by
   obtain ⟨t', e'⟩ := hacc.2 i v (by simpa using e)
   exact ⟨t', by simpa using e'⟩
  refine wpAny_bind (wpAny_newList ?_ (by rw [hal, sizeLine_eq]; omega))
  have I3 : Inv X _ σ H2 { s2 with heap := h3, toks := tk } := I2.kept hk3
  have I4 : Inv X _ σ H2 { s2 with heap := h3.push (seqObj "list" acc.toList.toArray 0), toks := tk } := I3.kept (t' := tk) fun b o e => Heap.get?_push_of_some _ e
  have hoL : (h3.push (seqObj "list" acc.toList.toArray 0)).get? h3.objs.size = some (seqObj "list" acc.toList.toArray 0) := Heap.get?_push_size _ rfl
  have fa := I3.fpOk (b := h3.objs.size) (Nat.le_refl _) (I3.hok.fresh (Nat.le_refl _))
  refine wpAny_bind (wpAny_holding (wpAny_call_entry_kw slot_list_sort ⟨_, hoL, rfl⟩ entry_list_sort ?_ (ksk_l1 _ _)))
  show wpAny (model X.prog X.w) X.A.in1.in1 (Builtin.«list.sort» ⟨[.ref h3.objs.size], [(Str.ofString "key", .ref f)]⟩) _ _ { s2 with heap := h3.push (seqObj "list" acc.toList.toArray 0), toks := tk }
  rw [ksk_t1]
  refine key_sort (kz := T) I4 hoL fa hal.symm srt hlim (by omega) ?_ ?_
  ·intro i v k' ei ek pins' s' hp' I'
   obtain ⟨t', rfl⟩ := hai i v ei
   refine wpAny_mono (lam_call (A := X.A.in1.in1) (a := .int (i : Int)) (b := .ref a) (te := tOp (rIxL X.K) (tVar 1) (tVar 0)) (Qv := fun z H' => z = .int k' /\ H' = H2) I' I'.ok.frames hr.hd hr.depth (hp' _ List.mem_cons_self) hc' hdc hq S hxl hco hgen (fun cdv => hbind _ _ _ _ _) hσ ⟨t', rfl⟩
    (fun s'' => pe_ix ix_list (pe_var (i := 1) rfl (.inr (.inr hyl)) dy dy') (pe_var (i := 0) rfl (.inl hxl) dx dx') (fun _ _ => rfl)) ?_) (fun u s'' ⟨z, H', rz, ⟨ez, eH⟩, J⟩ => ?_) fun _ _ z => z
   ·refine ⟨_, rfl, _, rfl, a, _, (i : Int), .int k', rfl, rfl, SqL.of (s12 _ _ hT), atI_nat (by rw [List.getElem?_map, ek]; rfl), rfl, rfl⟩
   ·subst ez eH
    exact ⟨rz, J⟩
  ·intro s' out e' J ho hout
   refine ⟨_, rfl, wpAny_pure ⟨_, rfl, ?_⟩⟩
   obtain ⟨ord, hord, hvals⟩ := rank_of hal hai hout
   have hol : ord.length = T.length := by rw [hord.perm.length_eq, List.length_range]
   have fa' : FpOk X pins H2 h3.objs.size := ⟨fa.1, fa.2.1, fa.2.2.1, fa.2.2.2.1, fa.2.2.2.2.1, fun p hp => fa.2.2.2.2.2 p ((List.mem_append.mp hp).elim (fun z => List.mem_append_left _ z) fun z => List.mem_append_right _ (List.mem_cons_of_mem _ z))⟩
   have J' := J.pin_drop.adopt fa' (Nat.le_trans I3.sz (Nat.le_refl _)) (its := out.toList) (m := e') (by simpa using ho) hvals (by rw [List.length_map, hol, sizeLine_eq]; omega)
   refine ⟨.ref h3.objs.size, _, J', rfl, q _ _ ord (s12.trans (Same.upd fa.1)) (s12.free fa.1) hord upd_same⟩
end
end L2
namespace L2
open PySem PySem.Spec PyProof.Rows
structure LmT (K : PySem.W.Frag) (mg : Str -> Option Value) (x : Str) (st : Stmt) (ps : List Str) (c P : Addr) : Prop where
 ex : ∃ f fd, Fun K x x st f fd /\ mg x = some (.ref f) /\ Binds K fd ps [] /\ fd.code = .ref c
 hd : PySem.W.codeHdIn K c P = true
theorem Fun.okC {P : Program} {w : World} {K : PySem.W.Frag} {mg : Str -> Option Value} {base : Heap} {x qual : Str} {st : Stmt} {f c : Addr} {fd : FuncData} {N ps : List Str} {k : Nat} {sp : Sp} (F : Fun K x qual st f fd) (hc : fd.code = .ref c) (S : FnScope N ps (defScope st)) (len : ∀ vs H Q E, sp vs H Q E -> vs.length = ps.length)
  (hbody : ∀ (A : Around) (outer : List Env) (s : Shared) (H : Hp) (vs : List V) (Q : VK) (E : XK), Room k (A.deeper (envOfC qual (defScope st) s.heap.objs.size f (.ref c))) -> sp vs H Q E ->
   ∃ t, PSs (cxOf CX0 P w K mg base N qual (defScope st) f (.ref c) A outer s H E).nox (defBody st) t /\ t { nx := fun _ H' => Q .non H', rt := Q } (start N vs) H) : FnOk P w K mg base CX0 (k + 1) f fd ps sp := by
 obtain ⟨oc, od, kV, doc, pm, an, cdv, ct, osl, rfl, lk, hcd⟩ := F.ex
 have e : cdv = .ref c := hc
 subst e
 refine fn_of lk hcd S len fun A outer s H vs Q E hr hsp => ?_
 obtain ⟨t, h, q⟩ := hbody A outer s H vs Q E hr hsp
 exact ⟨t, h.nox, q⟩
theorem ctr_ofC {P : Program} {w : World} {K : PySem.W.Frag} {mg : Str -> Option Value} {base : Heap} {CX : CXT} {k : Nat} {x : Str} {st : Stmt} {ps : List Str} {sp : Sp} {c Pt : Addr} (F : LmT K mg x st ps c Pt)
  (h : ∀ f fd, Fun K x x st f fd -> fd.code = .ref c -> FnOk P w K mg base CX k f fd ps sp) : Ctr P w K mg base CX k x ps sp := by
 obtain ⟨f, fd, F, hm, hb, hc⟩ := F.ex
 exact ⟨f, fd, h f fd F hc, hm, F.kp, hb⟩
end L2
namespace My
open PySem L2 PyProof.Rows
abbrev ordV (ord : List Nat) : List V := ord.map fun (p : Nat) => V.int (p : Int)
theorem nats_ints (c : List Nat) : ordV c = (c.map fun (p : Nat) => (p : Int)).map V.int := by rw [List.map_map]; rfl
end My
namespace My
theorem pairwise_up : ∀ {l : List Nat}, (∀ (k a b : Nat), l[k]? = some a -> l[k + 1]? = some b -> a < b) -> l.Pairwise (· < ·)
 | [], _ => .nil
 | [a], _ => by simp
 | a :: b :: r, h => by
  have ih := pairwise_up (l := b :: r) fun k x y h1 h2 => h (k + 1) x y (by simpa using h1) (by simpa using h2)
  rw [List.pairwise_cons]
  have hab := h 0 a b rfl rfl
  refine ⟨fun x hx => ?_, ih⟩
  rcases List.mem_cons.mp hx with rfl | hx
  ·exact hab
  ·exact Nat.lt_trans hab ((List.pairwise_cons.mp ih).1 x hx)
end My
namespace My
end My
namespace My
end My
namespace Thr
structure S where
 tr : List Nat
 la : List Int
def fst (l : List Int) (w : Int) : Nat := l.findIdx fun x => decide (x < w)
def put (l : List Int) (t : Nat) (w : Int) : List Int := if t = l.length then l ++ [w] else l.set t w
def step (s : S) (w : Int) : S := ⟨s.tr ++ [fst s.la w], put s.la (fst s.la w) w⟩
def run (T : List Int) : S := T.foldl step ⟨[], []⟩
theorem run_snoc (T : List Int) (w : Int) : run (T ++ [w]) = step (run T) w := by unfold run; rw [List.foldl_append]; rfl
theorem fst_le (l : List Int) (w : Int) : fst l w <= l.length := List.findIdx_le_length
theorem fst_hit {l : List Int} {w : Int} (h : fst l w < l.length) : ∃ x, l[fst l w]? = some x /\ x < w := by
 refine ⟨l[fst l w], List.getElem?_eq_getElem h, ?_⟩
 have := List.findIdx_getElem (xs := l) (p := fun x => decide (x < w)) (w := h)
 exact of_decide_eq_true this
theorem fst_miss {l : List Int} {w : Int} {i : Nat} {x : Int} (h : i < fst l w) (e : l[i]? = some x) : w <= x := by
 have := List.not_of_lt_findIdx (xs := l) (p := fun x => decide (x < w)) h
 obtain ⟨hi, rfl⟩ := List.getElem?_eq_some_iff.mp e
 simpa using this
theorem fst_eq {l : List Int} {w : Int} {k : Nat} (h1 : ∀ i x, i < k -> l[i]? = some x -> w <= x) (h2 : k = l.length \/ ∃ x, l[k]? = some x /\ x < w) (hk : k <= l.length) : fst l w = k := by
 rcases Nat.lt_trichotomy (fst l w) k with q | q | q
 ·obtain ⟨x, e, hx⟩ := fst_hit (l := l) (w := w) (by omega)
  have := h1 _ x q e
  omega
 ·exact q
 ·rcases h2 with h2 | ⟨x, e, hx⟩
  ·have := fst_le l w
   omega
  ·have := fst_miss q e
   omega
structure K (T : List Int) (s : S) : Prop where
 len : s.tr.length = T.length
 fall : ∀ (i j : Nat) (x y : Int), i < j -> s.la[i]? = some x -> s.la[j]? = some y -> y < x
 last : ∀ (t : Nat) (x : Int), s.la[t]? = some x -> ∃ p : Nat, s.tr[p]? = some t /\ T[p]? = some x /\ ∀ q : Nat, p < q -> s.tr[q]? ≠ some t
 few : ∀ (p t : Nat), s.tr[p]? = some t -> t < s.la.length
 rise : ∀ (p q t : Nat) (x y : Int), p < q -> s.tr[p]? = some t -> s.tr[q]? = some t -> T[p]? = some x -> T[q]? = some y -> x < y
 back : ∀ (p t : Nat) (x : Int), s.tr[p]? = some (t + 1) -> T[p]? = some x -> ∃ (q : Nat) (y : Int), q < p /\ s.tr[q]? = some t /\ T[q]? = some y /\ x < y /\ ∀ r : Nat, q < r -> r < p -> s.tr[r]? ≠ some t
theorem put_len (l : List Int) (t : Nat) (w : Int) : (put l t w).length = if t = l.length then l.length + 1 else l.length := by
 unfold put; split
 ·rw [List.length_append]; rfl
 ·rw [List.length_set]
theorem put_get {l : List Int} {t i : Nat} {w x : Int} (ht : t <= l.length) (e : (put l t w)[i]? = some x) : (i = t /\ x = w) \/ (i ≠ t /\ l[i]? = some x) := by
 unfold put at e
 split at e
 ·rename_i z
  rw [List.getElem?_append] at e
  split at e
  ·exact .inr ⟨by omega, e⟩
  ·cases q : i - l.length with
   | zero => rw [q] at e; exact .inl ⟨by omega, (Option.some.inj e).symm⟩
   | succ d => rw [q] at e; simp at e
 ·rw [List.getElem?_set] at e
  split at e
  ·split at e
   ·rename_i z _; exact .inl ⟨z.symm, (Option.some.inj e).symm⟩
   ·cases e
  ·rename_i z; exact .inr ⟨Ne.symm z, e⟩
theorem snoc_get {α : Type} {l : List α} {a x : α} {i : Nat} (e : (l ++ [a])[i]? = some x) : (i < l.length /\ l[i]? = some x) \/ (i = l.length /\ x = a) := by
 rw [List.getElem?_append] at e
 split at e
 ·exact .inl ⟨by omega, e⟩
 ·cases q : i - l.length with
  | zero => rw [q] at e; exact .inr ⟨by omega, (Option.some.inj e).symm⟩
  | succ d => rw [q] at e; simp at e
theorem K.next {T : List Int} {s : S} {w : Int} (h : K T s) (hw : w ∉ T) : K (T ++ [w]) (step s w) := by
 have hle := fst_le s.la w
 have tlt : ∀ {p t : Nat}, s.tr[p]? = some t -> p < T.length := fun {p t} e => by rw [<- h.len]; exact (List.getElem?_eq_some_iff.mp e).1
 have hsn : ∀ {p t : Nat}, (s.tr ++ [fst s.la w])[p]? = some t -> (p < T.length /\ s.tr[p]? = some t) \/ (p = T.length /\ t = fst s.la w) := fun {p t} e => by rw [<- h.len]; exact snoc_get e
 refine ⟨by show (s.tr ++ [_]).length = _; rw [List.length_append, List.length_append, h.len]; rfl, fun i j x y hij e1 e2 => ?_, fun t x e => ?_, fun p t e => ?_, fun p q t x y hpq e1 e2 f1 f2 => ?_, fun p t x e f => ?_⟩
 ·rcases put_get hle e1 with ⟨rfl, rfl⟩ | ⟨n1, e3⟩ <;> rcases put_get hle e2 with ⟨rfl, rfl⟩ | ⟨n2, e4⟩
  ·omega
  ·obtain ⟨z, ez, hz⟩ := fst_hit (l := s.la) (w := x) (by have := (List.getElem?_eq_some_iff.mp e4).1; omega)
   have := h.fall _ j z y hij ez e4
   omega
  ·have hm : y ≠ x := fun z => by
    obtain ⟨p, _, e, _⟩ := h.last i x e3
    exact hw (z ▸ List.mem_of_getElem? e)
   have := fst_miss hij e3
   omega
  ·exact h.fall i j x y hij e3 e4
 ·rcases put_get hle e with ⟨rfl, rfl⟩ | ⟨n1, e⟩
  ·refine ⟨T.length, ?_, ?_, fun q hq z => ?_⟩
   ·show (s.tr ++ [_])[T.length]? = _
    rw [<- h.len, List.getElem?_append_right (Nat.le_refl _), Nat.sub_self]
    rfl
   ·rw [List.getElem?_append_right (Nat.le_refl _), Nat.sub_self]
    rfl
   ·rcases hsn z with ⟨z1, _⟩ | ⟨z1, _⟩ <;> omega
  ·obtain ⟨p, p1, p2, p3⟩ := h.last t x e
   have hp := tlt p1
   refine ⟨p, ?_, ?_, fun q hq z => ?_⟩
   ·show (s.tr ++ [_])[p]? = _
    rw [List.getElem?_append_left (by rw [h.len]; exact hp)]
    exact p1
   ·rw [List.getElem?_append_left hp]
    exact p2
   ·rcases hsn z with ⟨_, z2⟩ | ⟨_, z2⟩
    ·exact p3 q hq z2
    ·exact n1 z2
 ·show t < (put s.la (fst s.la w) w).length
  rw [put_len]
  rcases hsn e with ⟨_, e⟩ | ⟨_, rfl⟩
  ·have := h.few p t e
   split <;> omega
  ·split <;> omega
 ·rcases hsn e1 with ⟨a1, a2⟩ | ⟨a1, a2⟩
  ·rw [List.getElem?_append_left a1] at f1
   rcases hsn e2 with ⟨b1, b2⟩ | ⟨b1, b2⟩
   ·rw [List.getElem?_append_left b1] at f2
    exact h.rise p q t x y hpq a2 b2 f1 f2
   ·rw [b1, List.getElem?_append_right (Nat.le_refl _), Nat.sub_self] at f2
    have hy : w = y := Option.some.inj f2
    subst hy
    have ht := h.few p t a2
    rw [b2] at ht
    obtain ⟨z, ez, hz⟩ := fst_hit ht
    obtain ⟨r, r1, r2, r3⟩ := h.last _ z ez
    rcases Nat.lt_trichotomy p r with c | c | c
    ·have := h.rise p r t x z c a2 (by rw [b2]; exact r1) f1 r2
     omega
    ·rw [c, r2] at f1
     cases f1
     exact hz
    ·exact absurd a2 (by rw [b2]; exact r3 p c)
  ·rcases hsn e2 with ⟨b1, b2⟩ | ⟨b1, b2⟩ <;> omega
 ·rcases hsn e with ⟨a1, a2⟩ | ⟨a1, a2⟩
  ·rw [List.getElem?_append_left a1] at f
   obtain ⟨q, y, q1, q2, q3, q4, q5⟩ := h.back p t x a2 f
   have hq := tlt q2
   refine ⟨q, y, q1, ?_, ?_, q4, fun r r1 r2 z => ?_⟩
   ·show (s.tr ++ [_])[q]? = _
    rw [List.getElem?_append_left (by rw [h.len]; exact hq)]
    exact q2
   ·rw [List.getElem?_append_left hq]
    exact q3
   ·rcases hsn z with ⟨_, z2⟩ | ⟨z1, _⟩
    ·exact q5 r r1 r2 z2
    ·omega
  ·rw [a1, List.getElem?_append_right (Nat.le_refl _), Nat.sub_self] at f
   have hx : w = x := Option.some.inj f
   subst hx
   have ht : t < s.la.length := by omega
   obtain ⟨y, ey⟩ : ∃ y, s.la[t]? = some y := ⟨_, List.getElem?_eq_getElem ht⟩
   have hle2 := fst_miss (l := s.la) (w := w) (i := t) (by omega) ey
   obtain ⟨q, q1, q2, q3⟩ := h.last t y ey
   have hq := tlt q1
   have hne : w ≠ y := fun z => hw (z ▸ List.mem_of_getElem? q2)
   refine ⟨q, y, by omega, ?_, ?_, by omega, fun r r1 r2 z => ?_⟩
   ·show (s.tr ++ [_])[q]? = _
    rw [List.getElem?_append_left (by rw [h.len]; exact hq)]
    exact q1
   ·rw [List.getElem?_append_left hq]
    exact q2
   ·rcases hsn z with ⟨_, z2⟩ | ⟨z1, _⟩
    ·exact q3 r r1 z2
    ·omega
theorem K.nil : K [] ⟨[], []⟩ := ⟨rfl, fun i j x y _ e => by simp at e, fun t x e => by simp at e, fun p t e => by simp at e, fun p q t x y _ e => by simp at e, fun p t x e => by simp at e⟩
theorem K.run {T : List Int} (hT : T.Nodup) : K T (run T) := by
 have go : ∀ (k : Nat), k <= T.length -> K (T.take k) (Thr.run (T.take k)) := by
  intro k
  induction k with
  | zero => intro _; rw [List.take_zero]; exact K.nil
  | succ k ih =>
   intro hk
   have e : T.take (k + 1) = T.take k ++ [T[k]] := by rw [List.take_add_one, List.getElem?_eq_getElem (by omega)]; rfl
   rw [e, run_snoc]
   refine (ih (by omega)).next fun hm => ?_
   have nd : (T.take k ++ [T[k]]).Nodup := by rw [<- e]; exact hT.sublist (List.take_sublist _ _)
   rw [List.nodup_append] at nd
   exact nd.2.2 _ hm _ (List.mem_singleton.mpr rfl) rfl
 have := go T.length (Nat.le_refl _)
 rw [List.take_length] at this
 exact this
structure Dn (T : List Int) (tr : List Nat) (n : Nat) (i : Nat) (ps : List Nat) (wanted : Int) : Prop where
 cnt : wanted + (ps.length : Int) = (n : Int)
 at_ : ∀ (k p : Nat), ps[k]? = some p -> i <= p /\ ∃ t : Nat, (t : Int) + k = n /\ tr[p]? = some t
 adj : ∀ (k p q : Nat), ps[k]? = some p -> ps[k + 1]? = some q -> q < p /\ ∃ x y : Int, T[p]? = some x /\ T[q]? = some y /\ x < y
 none_ : ps = [] -> ∀ q : Nat, i <= q -> tr[q]? ≠ some n
 gap : ∀ p : Nat, ps.getLast? = some p -> ∀ (t : Nat), (t : Int) = wanted -> ∀ q : Nat, i <= q -> q < p -> tr[q]? ≠ some t
theorem Dn.start {T : List Int} {tr : List Nat} {n : Nat} : Dn T tr n tr.length [] n :=
 ⟨by simp, fun k p e => by simp at e, fun k p q e => by simp at e, fun _ q hq => by rw [List.getElem?_eq_none_iff.mpr hq]; simp, fun p e => by simp at e⟩
theorem Dn.skip {T : List Int} {tr : List Nat} {n i : Nat} {ps : List Nat} {wanted : Int} {t : Nat} (h : Dn T tr n (i + 1) ps wanted) (e : tr[i]? = some t) (ht : (t : Int) ≠ wanted) : Dn T tr n i ps wanted := by
 refine ⟨h.cnt, fun k p z => let ⟨a, b⟩ := h.at_ k p z; ⟨by omega, b⟩, h.adj, fun z q hq => ?_, fun p z t' ht' q h1 h2 => ?_⟩
 ·by_cases c : q = i
  ·rw [c, e]
   intro w
   have hc := h.cnt
   rw [z] at hc
   have : t = n := Option.some.inj w
   simp at hc
   omega
  ·exact h.none_ z q (by omega)
 ·by_cases c : q = i
  ·rw [c, e]
   intro w
   have : t = t' := Option.some.inj w
   omega
  ·exact h.gap p z t' ht' q (by omega) h2
theorem Dn.take {T : List Int} {s : S} {n i : Nat} {ps : List Nat} {wanted : Int} {t : Nat} (h : Dn T s.tr n (i + 1) ps wanted) (kk : K T s) (e : s.tr[i]? = some t) (ht : (t : Int) = wanted) : Dn T s.tr n i (ps ++ [i]) (wanted - 1) := by
 have hi : i < T.length := by rw [<- kk.len]; exact (List.getElem?_eq_some_iff.mp e).1
 refine ⟨by have := h.cnt; rw [List.length_append]; simp only [List.length_cons, List.length_nil]; omega, fun k p z => ?_, fun k p q z1 z2 => ?_, fun z => by simp at z, fun p z t' ht' q h1 h2 => ?_⟩
 ·rcases snoc_get z with ⟨_, z⟩ | ⟨z1, rfl⟩
  ·obtain ⟨a, b⟩ := h.at_ k p z
   exact ⟨by omega, b⟩
  ·have := h.cnt
   exact ⟨Nat.le_refl _, t, by omega, e⟩
 ·rcases snoc_get z2 with ⟨a1, z2⟩ | ⟨a1, rfl⟩
  ·rcases snoc_get z1 with ⟨_, z1⟩ | ⟨b1, _⟩
   ·exact h.adj k p q z1 z2
   ·omega
  ·rcases snoc_get z1 with ⟨b0, z1⟩ | ⟨b1, _⟩
   ·obtain ⟨a, t', b1, b2⟩ := h.at_ k p z1
    have hc := h.cnt
    have ht1 : t' = t + 1 := by omega
    rw [ht1] at b2
    have hp : p < T.length := by rw [<- kk.len]; exact (List.getElem?_eq_some_iff.mp b2).1
    obtain ⟨r, y, r1, r2, r3, r4, r5⟩ := kk.back p t _ b2 (List.getElem?_eq_getElem hp)
    have hl : ps.getLast? = some p := by rw [List.getLast?_eq_getElem?, show ps.length - 1 = k from by omega]; exact z1
    have hri : r = q := by
     rcases Nat.lt_trichotomy r q with c | c | c
     ·exact absurd e (r5 q c (by omega))
     ·exact c
     ·exact absurd r2 (h.gap p hl t ht r (by omega) r1)
    subst hri
    exact ⟨r1, _, y, List.getElem?_eq_getElem hp, r3, r4⟩
   ·omega
 ·rw [List.getLast?_append] at z
  have : i = p := Option.some.inj z
  omega
theorem Dn.end_ {T : List Int} {s : S} {n : Nat} {ps : List Nat} {wanted : Int} (h : Dn T s.tr n 0 ps wanted) (kk : K T s) (ex : ∃ q : Nat, s.tr[q]? = some n) : ps.length = n + 1 := by
 have hc := h.cnt
 rcases Int.lt_or_le wanted 0 with w0 | w0
 ·
  rcases Nat.lt_or_ge n (ps.length - 1) with q | q
  ·obtain ⟨p, ep⟩ : ∃ p, ps[ps.length - 1]? = some p := ⟨_, List.getElem?_eq_getElem (by omega)⟩
   obtain ⟨_, t, b1, _⟩ := h.at_ _ p ep
   omega
  ·omega
 ·exfalso
  cases hl : ps.getLast? with
  | none =>
   obtain ⟨q, eq⟩ := ex
   exact h.none_ (List.getLast?_eq_none_iff.mp hl) q (Nat.zero_le _) eq
  | some p =>
   have hne : ps ≠ [] := fun z => by rw [z] at hl; cases hl
   have hpos : 0 < ps.length := List.length_pos_iff.mpr hne
   have ep : ps[ps.length - 1]? = some p := by rw [<- List.getLast?_eq_getElem?]; exact hl
   obtain ⟨_, t, b1, b2⟩ := h.at_ _ p ep
   have ht : t = wanted.toNat + 1 := by omega
   rw [ht] at b2
   have hp : p < T.length := by rw [<- kk.len]; exact (List.getElem?_eq_some_iff.mp b2).1
   obtain ⟨r, y, r1, r2, _⟩ := kk.back p wanted.toNat _ b2 (List.getElem?_eq_getElem hp)
   exact h.gap p hl wanted.toNat (by omega) r (Nat.zero_le _) r1 r2
end Thr
namespace Thr
open Sh (Ord)
section
variable {T : List Int} {tr ord : List Nat} {n : Nat}
def cont (T : List Int) (tr ord : List Nat) (i j t : Nat) : List Int := ((List.range i).filter fun p => decide (tr.getD p 0 = t) && decide (j <= ord.idxOf p)).map fun p => T.getD p 0
def Y (T : List Int) (tr ord : List Nat) (n i j : Nat) : Yd.St := ⟨(List.range n).map (cont T tr ord i j), (ord.take j).map fun p => T.getD p 0, i⟩
theorem set_map {f g : Nat -> List Int} {t : Nat} {c : List Int} (h1 : g t = c) (h2 : ∀ t', t' ≠ t -> g t' = f t') : ((List.range n).map f).set t c = (List.range n).map g := by
 refine List.ext_getElem? fun k => ?_
 rw [List.getElem?_set]
 by_cases e : t = k
 ·subst e
  rw [if_pos rfl]
  split
  ·rename_i hl
   rw [List.length_map, List.length_range] at hl
   rw [List.getElem?_map, List.getElem?_range hl]
   exact congrArg some h1.symm
  ·rename_i hl
   rw [List.length_map, List.length_range] at hl
   rw [List.getElem?_eq_none_iff.mpr (by rw [List.length_map, List.length_range]; omega)]
 ·rw [if_neg e, List.getElem?_map, List.getElem?_map]
  by_cases hk : k < n
  ·rw [List.getElem?_range hk]
   exact congrArg some (h2 k (Ne.symm e)).symm
  ·rw [List.getElem?_eq_none_iff.mpr (by rw [List.length_range]; omega)]
   rfl
theorem get_map {f : Nat -> List Int} {t : Nat} (h : t < n) : ((List.range n).map f).getD t [] = f t := by
 rw [List.getD_eq_getElem?_getD, List.getElem?_map, List.getElem?_range h]
 rfl
theorem Y_in {i t : Nat} (hi : i < T.length) (ht : tr[i]? = some t) (hn : t < n) : Yd.step T false (Y T tr ord n i 0) (true, t) = some (Y T tr ord n (i + 1) 0) := by
 unfold Yd.step
 rw [if_pos rfl]
 show (match T[i]? with | some x => _ | none => none) = _
 rw [List.getElem?_eq_getElem hi]
 show some (Yd.St.mk (((List.range n).map (cont T tr ord i 0)).set t (((List.range n).map (cont T tr ord i 0)).getD t [] ++ [T[i]])) _ _) = some (Yd.St.mk _ _ _)
 have hg : tr.getD i 0 = t := by rw [List.getD_eq_getElem?_getD, ht]; rfl
 have hx : T.getD i 0 = T[i] := by rw [List.getD_eq_getElem?_getD, List.getElem?_eq_getElem hi]; rfl
 congr 2
 refine set_map ?_ fun t' ht' => ?_
 ·rw [get_map hn]
  unfold cont
  rw [List.range_succ, List.filter_append, List.map_append]
  congr 1
  rw [List.filter_cons, if_pos (by rw [hg]; simp), List.filter_nil]
  show [T.getD i 0] = _
  rw [hx]
 ·unfold cont
  rw [List.range_succ, List.filter_append, List.map_append, List.filter_cons, if_neg (by rw [hg]; simp [Ne.symm ht']), List.filter_nil]
  simp
theorem range_split {p m : Nat} (h : p < m) : List.range m = List.range p ++ p :: (List.range' (p + 1) (m - p - 1)) := by
 have h1 : List.range m = List.range' 0 p ++ List.range' p (m - p) := by
  rw [List.range_eq_range']
  have := List.range'_append (s := 0) (m := p) (n := m - p) (step := 1)
  rw [show 0 + 1 * p = p from by omega] at this
  rw [this]
  congr 1
  omega
 rw [h1, <- List.range_eq_range']
 congr 1
 rw [show m - p = (m - p - 1) + 1 from by omega, List.range'_succ]
 simp
theorem Y_out (k : K T ⟨tr, la⟩) (O : Ord ord T.length) (hs : ∀ (i j : Nat) (p q : Nat), i < j -> ord[i]? = some p -> ord[j]? = some q -> T.getD p 0 < T.getD q 0) {j p : Nat} (hp : ord[j]? = some p) (hn : tr.getD p 0 < n) :
  Yd.step T false (Y T tr ord n T.length j) (false, tr.getD p 0) = some (Y T tr ord n T.length (j + 1)) := by
 have hpl := O.lt hp
 have ip := O.idx hp
 have hcont : cont T tr ord T.length j (tr.getD p 0) = T.getD p 0 :: cont T tr ord T.length (j + 1) (tr.getD p 0) := by
  unfold cont
  rw [range_split hpl, List.filter_append, List.filter_append, List.filter_cons, List.filter_cons, if_pos (by simp [ip]), if_neg (by simp [ip]), List.map_append, List.map_append, List.map_cons]
  have e1 : ∀ jj, j <= jj -> ((List.range p).filter fun q => decide (tr.getD q 0 = tr.getD p 0) && decide (jj <= ord.idxOf q)) = [] := fun jj hj => by
   rw [List.filter_eq_nil_iff]
   intro q hq
   have hq := List.mem_range.mp hq
   simp only [Bool.and_eq_true, decide_eq_true_eq]
   rintro ⟨h1, h2⟩
   have hqT : q < T.length := by omega
   have tq : tr[q]? = some (tr.getD p 0) := by rw [<- h1, List.getD_eq_getElem?_getD, List.getElem?_eq_getElem (by rw [show tr.length = T.length from k.len]; exact hqT)]; rfl
   have tp : tr[p]? = some (tr.getD p 0) := by rw [List.getD_eq_getElem?_getD, List.getElem?_eq_getElem (by rw [show tr.length = T.length from k.len]; exact hpl)]; rfl
   have r := k.rise q p (tr.getD p 0) (T[q]) (T[p]) hq tq tp (List.getElem?_eq_getElem hqT) (List.getElem?_eq_getElem hpl)
   have iq := O.at_ hqT
   rcases Nat.lt_or_ge j (ord.idxOf q) with c | c
   ·have := hs j (ord.idxOf q) p q c hp iq
    rw [List.getD_eq_getElem?_getD, List.getD_eq_getElem?_getD, List.getElem?_eq_getElem hpl, List.getElem?_eq_getElem hqT] at this
    simp at this
    omega
   ·have : ord.idxOf q = ord.idxOf p := by omega
    have := O.inj hqT hpl this
    omega
  have e2 : ((List.range' (p + 1) (T.length - p - 1)).filter fun q => decide (tr.getD q 0 = tr.getD p 0) && decide (j <= ord.idxOf q)) = ((List.range' (p + 1) (T.length - p - 1)).filter fun q => decide (tr.getD q 0 = tr.getD p 0) && decide (j + 1 <= ord.idxOf q)) := by
   refine List.filter_congr fun q hq => ?_
   have hq := List.mem_range'_1.mp hq
   have hne : ord.idxOf q ≠ j := fun z => by
    have := O.inj (p := q) (q := p) (by omega) hpl (by omega)
    omega
   rw [show decide (j <= ord.idxOf q) = decide (j + 1 <= ord.idxOf q) from decide_eq_decide.mpr (by omega)]
  rw [e1 j (Nat.le_refl _), e1 (j + 1) (Nat.le_succ _), e2]
  rfl
 unfold Yd.step
 rw [if_neg Bool.false_ne_true, if_neg Bool.false_ne_true]
 show (match ((List.range n).map (cont T tr ord T.length j)).getD (tr.getD p 0) [] with | x :: r => _ | [] => none) = _
 rw [get_map hn, hcont]
 show some (Yd.St.mk _ _ _) = some (Yd.St.mk _ _ _)
 congr 2
 ·refine set_map rfl fun t' ht' => ?_
  unfold cont
  congr 1
  refine List.filter_congr fun q hq => ?_
  have hq := List.mem_range.mp hq
  by_cases c : tr.getD q 0 = t'
  ·have hne : ord.idxOf q ≠ j := fun z => by
    have := O.inj (p := q) (q := p) hq hpl (by omega)
    rw [this] at c
    exact ht' c.symm
   rw [show decide (j + 1 <= ord.idxOf q) = decide (j <= ord.idxOf q) from decide_eq_decide.mpr (by omega)]
  ·rw [decide_eq_false c, Bool.false_and, Bool.false_and]
 ·show (ord.take j).map (fun p => T.getD p 0) ++ [T.getD p 0] = (ord.take (j + 1)).map fun p => T.getD p 0
  rw [List.take_add_one, hp, List.map_append]
  rfl
theorem brings (k : K T ⟨tr, la⟩) (O : Ord ord T.length) (hs : ∀ (i j : Nat) (p q : Nat), i < j -> ord[i]? = some p -> ord[j]? = some q -> T.getD p 0 < T.getD q 0) (hn : ∀ (p t : Nat), tr[p]? = some t -> t < n) :
  Yd.steps T false (Yd.init n) (tr.map (fun t => (true, t)) ++ ord.map fun p => (false, tr.getD p 0)) = some (Y T tr ord n T.length ord.length) := by
 have h0 : Yd.init n = Y T tr ord n 0 0 := by
  unfold Yd.init Y
  congr 1
  refine List.ext_getElem? fun i => ?_
  rw [List.getElem?_replicate, List.getElem?_map]
  by_cases hi : i < n
  ·rw [if_pos hi, List.getElem?_range hi]; rfl
  ·rw [if_neg hi, List.getElem?_eq_none_iff.mpr (by rw [List.length_range]; omega)]; rfl
 have app : ∀ (ms ms' : List Yd.Mv) (s s' : Yd.St), Yd.steps T false s ms = some s' -> Yd.steps T false s (ms ++ ms') = Yd.steps T false s' ms' := by
  intro ms
  induction ms with
  | nil => intro ms' s s' h; have : s = s' := Option.some.inj h; rw [this]; rfl
  | cons m r ih =>
   intro ms' s s' h
   have h' : (Yd.step T false s m).bind (fun z => Yd.steps T false z r) = some s' := h
   show (Yd.step T false s m).bind (fun z => Yd.steps T false z (r ++ ms')) = _
   cases e : Yd.step T false s m with
   | none => rw [e] at h'; cases h'
   | some z => rw [e] at h'; exact ih ms' z s' h'
 have hin : ∀ i, i <= T.length -> Yd.steps T false (Yd.init n) ((tr.take i).map fun t => (true, t)) = some (Y T tr ord n i 0) := by
  intro i
  induction i with
  | zero => intro _; rw [h0]; rfl
  | succ i ih =>
   intro hi
   have hl : i < tr.length := by rw [show tr.length = T.length from k.len]; omega
   rw [List.take_add_one, List.getElem?_eq_getElem hl, List.map_append]
   rw [show ((some tr[i]).toList.map fun t => ((true, t) : Yd.Mv)) = [(true, tr[i])] from rfl, Yd.steps_snoc, ih (by omega)]
   exact Y_in (by omega) (List.getElem?_eq_getElem hl) (hn i _ (List.getElem?_eq_getElem hl))
 have hall := hin T.length (Nat.le_refl _)
 rw [List.take_of_length_le (by rw [show tr.length = T.length from k.len]; exact Nat.le_refl _)] at hall
 rw [app _ _ _ _ hall]
 have hout : ∀ j, j <= ord.length -> Yd.steps T false (Y T tr ord n T.length 0) ((ord.take j).map fun p => (false, tr.getD p 0)) = some (Y T tr ord n T.length j) := by
  intro j
  induction j with
  | zero => intro _; rfl
  | succ j ih =>
   intro hj
   have ej := List.getElem?_eq_getElem (l := ord) (i := j) (by omega)
   rw [List.take_add_one, ej, List.map_append]
   rw [show ((some ord[j]).toList.map fun p => ((false, tr.getD p 0) : Yd.Mv)) = [(false, tr.getD ord[j] 0)] from rfl, Yd.steps_snoc, ih (by omega)]
   refine Y_out k O hs ej (hn ord[j] _ ?_)
   have := O.lt ej
   rw [List.getD_eq_getElem?_getD, List.getElem?_eq_getElem (by rw [show tr.length = T.length from k.len]; exact this)]
   rfl
 have := hout ord.length (Nat.le_refl _)
 rw [List.take_length] at this
 exact this
end
end Thr
namespace PySem
namespace F
theorem nolen_lri : typeLookup (.type "list_reverseiterator") "__len__" = pure none := by
 rw [typeLookup_type, builtinLookup_eq_fast]; kernel_rfl
theorem hint_lri : typeLookup (.type "list_reverseiterator") "__length_hint__" = pure (some (.builtin "list_reverseiterator.__length_hint__")) := by
 rw [typeLookup_type, builtinLookup_eq_fast]; kernel_rfl
end F
section
variable {prog : Program} {w : World} {A : Around} {s : Shared} {R : Result -> Shared -> Prop} {I : Addr} {fp wr : List Addr} {G : Array GenState -> Array GenState -> Prop} {n : Nat} {P : Nat -> Value -> Prop} {St : Nat -> Shared -> Prop}
theorem ext_rev (W : WalksS prog w A.in1 I fp wr G n P St) (hT : ∀ i s, St i s -> s.TypeIs (.ref I) "list_reverseiterator") (S : Addr) (res : Value) (c₀ : Nat) (hst : St 0 s) (hSf : S ∉ fp) (hI : I ∈ fp)
  (hS : s.heap.get? S = some { cls := .type "list", data := .seq #[] c₀ })
  (hR : ∀ s' acc' c', Moved (S :: wr) G s s' -> s'.heap.get? S = some { cls := .type "list", dict := none, data := .seq acc' c', slots := #[] } -> ItemsOf P acc' n -> R (.ok (.ret res)) s') (hn : n <= sizeLine) :
  wpAny (model prog w) A.in1 (Builtin.List.listExtendWith (.ref S) (.ref I) res)
   (fun z s' => match z with | .done f => R (.ok f) s' | .again c' => c'.quiet = true /\ codeAny (model prog w) A c' R s') (fun e s' => R (.error e) s') s := by
 have hne : S ≠ I := fun e => hSf (e ▸ hI)
 unfold Builtin.List.listExtendWith
 refine wpAny_bind (wpAny_typeOf (T := "list_reverseiterator") (hT 0 _ hst) ?_)
 have k1 : Builtin.List.listSameRef (.ref S) (.ref I) = false := by
  simp [Builtin.List.listSameRef, hne]
 have k2 : (Value.type "list_reverseiterator" == Value.type "list") = false := by decide
 have k3 : (Value.type "list_reverseiterator" == Value.type "tuple") = false := by decide
 simp only [k1, k2, k3, Bool.or_false, Bool.false_eq_true, if_false]
 refine wpAny_bind
  (W.self 0 _ _ _ hst ?_)
 refine wpAny_bind
  (wpAny_holding ?_)
 unfold Builtin.List.listLengthHint
 refine wpAny_bind
  (wpAny_specialOf (hT 0 _ hst) F.nolen_lri ?_)
 show wpAny _ A.in1
  (specialOf (Value.ref I) (Str.ofString "__length_hint__") >>= _) _ _ _
 refine wpAny_bind
  (wpAny_specialOf (hT 0 _ hst) F.hint_lri ?_)
 (generalize hid : ("list_reverseiterator.__length_hint__" : String) = id0; (fail_if_success (clear hid id0)); wp_delta; rw [show splitId id0 = some ("list_reverseiterator", "__length_hint__") from by subst hid; decide +kernel]; subst hid)
 refine wpAny_bind
  (wpAny_isInstance (b := true) (hT 0 _ hst) (by rw [isSubtype_type]; kernel_rfl) ?_)
 refine wpAny_pure ?_
 rw [if_neg (by decide)]
 refine wpAny_pure
  ⟨plainId_quiet F.plain_extend_loop _, codeAny_extend_loopS W hn _ hSf _ n 0 _ _ _ rfl (Nat.zero_le _) hst hS (ItemsOf.nil P) fun s' acc' c' hm hS' hacc => ?_⟩
 exact hR s' acc' c' hm hS' hacc
end
section
variable {prog : Program} {w : World} {A : Around} {E : Value -> Shared -> Prop} {s : Shared} {I : Addr} {fp wr : List Addr} {G : Array GenState -> Array GenState -> Prop} {n : Nat} {P : Nat -> Value -> Prop} {St : Nat -> Shared -> Prop}
theorem list_rev {Q : Value -> Shared -> Prop} (W : WalksS prog w A.in1.in1 I fp wr G n P St) (hT : ∀ i s, St i s -> s.TypeIs (.ref I) "list_reverseiterator") (hst : St 0 s) (hfp : ∀ b ∈ fp, b < s.heap.objs.size) (hI : I ∈ fp)
  (hQ : ∀ s' acc' c', Moved (s.heap.objs.size :: wr) G { s with heap := s.heap.push { cls := .type "list", data := .seq #[] } } s' ->
   s'.heap.get? s.heap.objs.size = some { cls := .type "list", dict := none, data := .seq acc' c', slots := #[] } -> ItemsOf P acc' n -> Q (.ref s.heap.objs.size) s') (hn : n <= sizeLine) :
  wpAny (model prog w) A (call (.type "list") [.ref I]) Q E s := by
 have hnf : s.heap.objs.size ∉ fp := fun hm => Nat.lt_irrefl _ (hfp _ hm)
 refine callType_codes (Q₁ := fun ob s₁ => ob = .ref s.heap.objs.size /\ s₁ = { s with heap := s.heap.push { cls := .type "list", data := .seq #[] } }) F.called_list (F.typeCall_list_1 _) F.entry_list_init
  (code_list_new _ ⟨rfl, rfl⟩) fun ob s₁ h₁ => ?_
 obtain ⟨rfl, rfl⟩ := h₁
 have hS : (s.heap.push { cls := .type "list", data := .seq #[] }).get? s.heap.objs.size = some { cls := .type "list", data := .seq #[] } :=
  Heap.get?_push_size _ rfl
 refine ⟨⟨_, hS, rfl⟩, F.args_list_init_2 _ _, ?_⟩
 show wpAny _ A.in1.in1 (do let old <- Builtin.List.listItems (.ref s.heap.objs.size); Builtin.List.listUpdate (.ref s.heap.objs.size) (fun _ => #[]); letGo old.toList.reverse; Builtin.List.listExtendWith (.ref s.heap.objs.size) (.ref I) .none) _ _ _
 refine wpAny_bind ?_
 unfold Builtin.List.listItems
 refine wpAny_bind
  (wpAny_seqItems hS rfl (wpAny_pure ?_))
 show wpAny _ _ (updateSeq s.heap.objs.size (fun _ => #[]) >>= fun _ => letGo (#[] : Array Value).toList.reverse >>= fun _ => Builtin.List.listExtendWith (.ref s.heap.objs.size) (.ref I) .none) _ _ _
 refine wpAny_bind
  (wpAny_updateSeq hS rfl ?_)
 have hS2 := Heap.get?_update_self (Obj.mapSeq (fun _ => (#[] : Array Value))) hS rfl
 have oth : ∀ b o, b ≠ s.heap.objs.size -> (s.heap.push { cls := .type "list", data := .seq #[] }).get? b = some o -> ((s.heap.push { cls := .type "list", data := .seq #[] }).update s.heap.objs.size (Obj.mapSeq (fun _ => (#[] : Array Value)))).get? b = some o :=
  fun b o hb e => (Heap.get?_update_other _ _ (Ne.symm hb)).trans e
 refine wpAny_bind (wpAny_letGo ?_)
 have st1 := W.frame 0 s (s.heap.push { cls := .type "list", data := .seq #[] }) s.toks hst (Nat.le_refl _) fun b _ o e => Heap.get?_push_of_some _ e
 have st2 := W.frame 0 _ ((s.heap.push { cls := .type "list", data := .seq #[] }).update s.heap.objs.size (Obj.mapSeq (fun _ => (#[] : Array Value)))) s.toks st1 (Nat.le_refl _) fun b hb o e => oth b o (fun h => hnf (h ▸ hb)) e
 refine ext_rev (A := A.in1) W hT s.heap.objs.size .none _ st2 hnf hI hS2 (fun s' acc' c' hm hS' hacc => ?_) hn
 exact ⟨rfl, hQ s' acc' c' (Moved.trans W.gtrans ((Moved.refl W.grefl).then_heap (Nat.le_refl _) fun b o hb e => oth b o (fun h => hb (h ▸ List.mem_cons_self)) e) hm) hS' hacc⟩
end
end PySem
namespace L2
open PySem PySem.Spec PyProof.Rows
section
variable {X : Cx} {te : TE} {e : Expr} {tg : Expr}
def RB (Q : VK) (v : V) (H1 : Hp) : Prop := ∃ a ys, v = .ref a /\ H1 a = some (.lst ys) /\ ∀ l, H1 l = none -> Q (.ref l) (upd H1 l (.lst ys.reverse))
def tListRev (te : TE) : TE := fun σ H Q => te σ H (RB Q)
theorem vals_rev : ∀ {ys : List V} {us : List Value}, Vals ys us -> Vals ys.reverse us.reverse
 | _, _, .nil => .nil
 | y :: ys, u :: us, .cons h t => by
  rw [List.reverse_cons, List.reverse_cons]
  exact (vals_rev t).append (.cons h .nil)
theorem pe_listRev {p1 p2 pos1 pos2 : Pos} (he : PE X e te) (hc : X.calm = true) (hgL : Gl X "list") (hmL : X.mg "list" = none) (hgR : Gl X "reversed") (hmR : X.mg "reversed" = none)
  (hst : starEach [e] X.env = (false, eval e X.env) :: starEach [] X.env := by rfl) : PE X (.Call (.Name "list" p1) [.Call (.Name "reversed" p2) [e] [] pos2] [] pos1) (tListRev te) := by
 intro pins s σ H Q I h
 refine wpAny_Call_Name_kw (ld_blt I hgL hmL (u := .type "list") (by decide +kernel) ?_)
 refine PyProof.Rows.callWith_type1 ?_ rfl rfl
 show wpAny _ _ (spliced ((false, eval (.Call (.Name "reversed" p2) [e] [] pos2) X.env) :: backTo pos1 (starEach [] X.env))) _ _ s
 refine Calls.spliced_cons ?_
 refine wpAny_Call_Name_kw (ld_blt I hgR hmR (u := .type "reversed") (by decide +kernel) ?_)
 have pa : PA X [e] (tCons te tNil) := pa_cons he pa_nil hst
 refine PyProof.Rows.callWith_type1 (thn (pa pos2 pins s σ H (fun vs H1 => match vs with | [v] => RB Q v H1 | _ => False) I h) fun us s1 ⟨vs, H1, I1, r1, q1⟩ => ?_) hst rfl
 match vs, us, r1, q1 with
 | [_], _, .cons rr .nil, ⟨a, ys, ev, hys, q⟩ =>
  subst ev
  cases (show _ = Value.ref a from rr)
  obtain ⟨its, n', rv, ho, hz⟩ := I1.lst hys
  have hl : s1.heap.IsList a its.toArray := ⟨_, ho, rfl, n', rfl⟩
  have hln : its.length = ys.length := rv.length.symm
  refine call_reversed_list hl ?_
  refine Calls.spliced_nil ?_
  have hlt : a < s1.heap.objs.size := Heap.lt_size ho
  have W := (Walks.listRev (prog := X.prog) (w := X.w) (A := X.A.in1.in1) (I.ok.hd hc) s1.heap.objs.size a (Nat.ne_of_lt hlt) its.toArray).toS
  refine list_rev W (fun i s' st => st.2.1.typeIs) ⟨Nat.zero_le _, ?_, ?_⟩ (fun b hb => ?_) (by simp) (fun s' acc c' hm hS' hacc => ?_) (by rw [List.size_toArray, hln]; exact hz)
  ·refine ⟨_, Heap.get?_push_size _ rfl, rfl, ?_⟩
   show Data.fields #[_, _] = _
   congr 3
   simp
  ·exact ⟨_, Heap.get?_push_of_some _ ho, rfl, n', rfl⟩
  ·show b < (s1.heap.push _).objs.size
   rw [Heap.size_push]
   simp only [List.mem_cons, List.mem_nil_iff, or_false] at hb
   rcases hb with rfl | rfl
   ·exact Nat.lt_succ_self _
   ·exact Nat.lt_succ_of_lt hlt
  ·have hsz : (s1.heap.push (revObj a ((its.toArray.size : Int) - 1))).objs.size = s1.heap.objs.size + 1 := by rw [Heap.size_push]
   have keep : ∀ b o, s1.heap.get? b = some o -> s'.heap.get? b = some o := fun b o z => by
    refine hm.heap b o (fun hmem => ?_) (Heap.get?_push_of_some _ (Heap.get?_push_of_some _ z))
    have hb := Heap.lt_size z
    rcases List.mem_cons.mp hmem with w' | w'
    ·rw [w'] at hb
     exact absurd hb (by show ¬ (s1.heap.push _).objs.size < _; rw [hsz]; exact Nat.not_lt.mpr (Nat.le_succ _))
    ·rw [List.mem_singleton.mp w'] at hb
     exact Nat.lt_irrefl _ hb
   rw [Moved.eq_with hm] at hS' ⊢
   have hf : H1 (s1.heap.objs.size + 1) = none := I1.hok.fresh (Nat.le_succ _)
   have hacl : acc.toList = its.reverse := by
    refine List.ext_getElem? fun j => ?_
    by_cases hj : j < its.length
    ·have hjs : j < acc.size := by rw [hacc.1, List.size_toArray]; exact hj
     have hv := hacc.2 j acc[j] (Array.getElem?_eq_getElem hjs)
     rw [List.getElem?_reverse hj]
     have hv' : its.toArray[its.toArray.size - 1 - j]? = some acc[j] := hv
     rw [List.getElem?_toArray, List.size_toArray] at hv'
     rw [hv']
     simp [hjs]
    ·rw [List.getElem?_eq_none_iff.mpr (by rw [Array.length_toList, hacc.1, List.size_toArray]; omega), List.getElem?_eq_none_iff.mpr (by rw [List.length_reverse]; omega)]
   show EP X pins σ Q (.ref (s1.heap.push (revObj a ((its.toArray.size : Int) - 1))).objs.size) _
   rw [hsz] at hS' ⊢
   refine ⟨.ref (s1.heap.objs.size + 1), _, I1.laid (t' := s'.toks) (a := s1.heap.objs.size + 1) (o := .lst ys.reverse) keep (Nat.le_succ _) ⟨by rw [List.length_reverse]; exact hz, acc.toList, c', by rw [hacl]; exact vals_rev rv, by simpa using hS'⟩, rfl, q _ hf⟩
def Itd (n : Nat) : It := ⟨fun i _ => i < n, fun i H x H' => H' = H /\ x = .int ((n : Int) - 1 - i), fun i _ => n <= i⟩
theorem turn_down {P : Program} {w : World} {K : PySem.W.Frag} {tg : Expr} (it : Addr) (n : Nat) : Turn P w K tg (Itd n) [it] it (fun i h => IsRangeIter h it ((n : Int) - 1 + (i : Nat) * (-1)) ((n : Int) - (i : Nat)) (-1)) where
 mem := by simp
 obj := fun i h st b hb => by
  have e : b = it := by simpa using hb
  subst e
  exact ⟨_, st, fun v z => by
   have z' : Data.fields _ = Data.cell v := z
   cases z'⟩
 keep := fun i h h' st k => k it (by simp) _ st
 item := by
  intro X hP hw hK hc i pins s σ H E I hf st hg
  subst hP hw hK
  obtain ⟨f0, f1, f2, f3, f4, f5⟩ := hf it (by simp)
  have W := Walks.range (prog := X.prog) (w := X.w) (I.ok.hd hc) it ((n : Int) - 1) (-1) n
  refine W.item i s _ _ hg st fun v h' tk hv st' kk => ?_
  obtain ⟨t, rfl⟩ := hv
  have I1 : Inv X pins σ H { s with heap := h', toks := tk } := I.turned (fun b o hb e => kk b o (by simpa using hb) e) f0 f1 f3 f4 f5
  refine ⟨_, rfl, go_of (s := { s with heap := h', toks := tk }) (n := "range_iterator") st' rfl rfl (by decide) ⟨.int ((n : Int) - 1 - i), H, I1, ⟨t, ?_⟩, ⟨rfl, rfl⟩, st', fun b hb => (hf b hb).1⟩⟩
  congr 1
  omega
 done := by
  intro X hP hw hK hc i pins s σ H E I hf st hg
  subst hP hw hK
  obtain ⟨f0, f1, f2, f3, f4, f5⟩ := hf it (by simp)
  exact wpAny_pyNext_range_end (I.ok.hd hc) st (by have : n <= i := hg; omega) fun h' eb => ⟨rfl, I.turned (t' := s.toks) (fun b o hb e => eb b o hb e) f0 f1 f3 f4 f5⟩
 self := fun _ _ _ _ _ st h => wpAny_pyIter_rangeiter st h
def iDown (ta : TA) : TI := fun σ H R => ta σ H fun vs H1 => ∃ n : Nat, vs = [.int ((n : Int) - 1), .int (-1), .int (-1)] /\ n <= 1000000 /\ R (Itd n) H1
theorem pi_down {a b c : Expr} {ta : TA} {p pos : Pos} (hg : Gl X "range") (hm : X.mg "range" = none) (ha : PA X [a, b, c] ta) (hs : starEach [a, b, c] X.env = (false, eval a X.env) :: starEach [b, c] X.env := by rfl) (hs2 : (backTo pos (starEach [b, c] X.env)).any (·.1) = false := by rfl) :
  PI X tg (.Call (.Name "range" p) [a, b, c] [] pos) (iDown ta) := by
 intro pins s σ H R I h
 refine Call_ (ld_blt I hg hm boot_range (PyProof.Rows.callWith_type1 (thn (ha pos pins s σ H _ I h) fun us s1 ⟨vs, H1, I1, r1, q1⟩ => ?_) hs hs2))
 obtain ⟨n, e, hn, q⟩ := q1
 subst e
 cases r1 with
 | cons r rr =>
  cases rr with
  | cons r' rr =>
   cases rr with
   | cons r'' rr =>
    cases rr
    obtain ⟨t, rfl⟩ := r
    obtain ⟨t', rfl⟩ := r'
    obtain ⟨t'', rfl⟩ := r''
    have hrs : Builtin.Range.rangeSize ((n : Int) - 1) (-1) (-1) = (n : Int) := by
     unfold Builtin.Range.rangeSize
     rw [if_neg (by decide)]
     split
     ·simp
     ·omega
    have hsm : Builtin.Range.small ((n : Int) - 1) (-1) (-1) = true := by
     unfold Builtin.Range.small
     rw [hrs]
     simp only [Builtin.Range.rangeFitsLong, Bool.and_eq_true, Bool.or_eq_true, decide_eq_true_eq, beq_iff_eq, show ¬ ((-1 : Int) > 0) by decide, if_false]
     omega
    refine call_range_3 (by decide) ?_ (Or.inl (PyProof.noPylong_small (by omega)))
    refine wpAny_pyIter_range (IsRange.new ..) hsm ?_
    have I2 : Inv X pins σ H1 { s1 with heap := s1.heap.push { cls := .type "range", data := .fields #[.int ((n : Int) - 1) t, .int (-1) t', .int (-1) t''] } } := I1.kept (t' := s1.toks) fun b o e => Heap.get?_push_of_some _ e
    refine ⟨(s1.heap.push { cls := .type "range", data := .fields #[.int ((n : Int) - 1) t, .int (-1) t', .int (-1) t''] }).objs.size, [(s1.heap.push { cls := .type "range", data := .fields #[.int ((n : Int) - 1) t, .int (-1) t', .int (-1) t''] }).objs.size], _, _, H1, rfl,
     I2.kept (t' := s1.toks) fun b o e => Heap.get?_push_of_some _ e, turn_down _ n, ?_, fun b hb => ?_, q⟩
    ·show IsRangeIter _ _ ((n : Int) - 1 + ((0 : Nat) : Int) * (-1)) ((n : Int) - ((0 : Nat) : Int)) (-1)
     rw [hrs, show (n : Int) - 1 + ((0 : Nat) : Int) * (-1) = (n : Int) - 1 from by omega, show (n : Int) - ((0 : Nat) : Int) = (n : Int) from by omega]
     exact Heap.get?_push_size _ rfl
    ·have e : b = (s1.heap.push { cls := .type "range", data := .fields #[.int ((n : Int) - 1) t, .int (-1) t', .int (-1) t''] }).objs.size := by simpa using hb
     subst e
     exact I2.fpOk (Nat.le_refl _) (I2.hok.fresh (Nat.le_refl _))
theorem for_down {n : Nat} {g : TG} {tb : TS} {D : Ends} {σ : St} {H : Hp} (Pv : Nat -> St -> Hp -> Prop) (h0 : Pv n σ H)
  (hs : ∀ i σ H, i < n -> Pv (i + 1) σ H -> g (.int (i : Int)) σ H fun σ2 H2 => tb { D with nx := Pv i, ct := Pv i, bk := D.nx } σ2 H2) (hd : ∀ σ H, Pv 0 σ H -> D.nx σ H) :
  ∃ W : Nat -> Nat -> St -> Hp -> Prop, (∃ m, W 0 m σ H) /\ ∀ i m σ H, W i m σ H ->
   ((Itd n).stop i H /\ D.nx σ H) \/ ((Itd n).go i H /\ ∃ N : St -> Hp -> Prop, (∀ σ' H', N σ' H' -> ∃ m', m' < m /\ W (i + 1) m' σ' H') /\ ∀ x H', (Itd n).yld i H x H' -> g x σ H' fun σ2 H2 => tb { D with nx := N, ct := N, bk := D.nx } σ2 H2) := by
 refine ⟨fun i m σ H => m = n - i /\ i <= n /\ Pv m σ H, ⟨n, by simp, Nat.zero_le _, h0⟩, ?_⟩
 rintro i m σ H ⟨rfl, hi, p⟩
 by_cases hlt : i < n
 ·refine .inr ⟨hlt, Pv (n - (i + 1)), fun σ' H' p' => ⟨n - (i + 1), by omega, rfl, hlt, p'⟩, fun x H' y => ?_⟩
  obtain ⟨e, y⟩ := y
  subst e y
  have := hs (n - (i + 1)) σ H' (by omega) (by rw [show n - (i + 1) + 1 = n - i from by omega]; exact p)
  rw [show ((n - (i + 1) : Nat) : Int) = (n : Int) - 1 - i from by omega] at this
  exact this
 ·have e : i = n := by omega
  subst e
  rw [Nat.sub_self] at p
  exact .inl ⟨Nat.le_refl _, hd σ H p⟩
end
end L2
namespace Xc
open PySem
section
variable {M : Model} {A : Around} {E : Value -> Shared -> Prop} {s : Shared}
theorem note_any {base : Heap} {env : Env} {outer : List Env} {L e T : Addr} {cls fl : Value} {od : Option Addr} {sl : Array (Option Value)} {vs : Array Value} {Q : Unit -> Shared -> Prop}
  (hfr : A.frames = some (env :: outer)) (hl : s.heap.FunFrames base (env :: outer)) (hf : env.frame = some L) (hx : Exc s.heap e cls od sl vs)
  (h1 : vs[1]? = some (.ref T)) (hTe : T ≠ e) (ht : Tb s.heap T fl) (h0 : fl = rawInt L -> Q () s)
  (h : ∀ h' T', (∀ b o, b ∉ (env :: outer).filterMap (·.frame) -> b ≠ e -> b ≠ T -> s.heap.get? b = some o -> h'.get? b = some o) ->
   (∀ b o, b ≠ e -> b ≠ T -> s.heap.get? b = some o -> ∃ k, h'.get? b = some { o with slots := k }) ->
   s.heap.objs.size <= T' -> Exc h' e cls od sl (vs.setIfInBounds 1 (.ref T')) -> Tb h' T' (rawInt L) -> Q () { s with heap := h' }) :
  wpAny M A (noteFrame (.ref e) env) Q E s := by
 obtain ⟨oT, ts, hT, hdT, h3⟩ := ht.ex
 unfold noteFrame
 simp only [hf]
 refine wpAny_bind (wpAny_field hx.obj rfl h1 ?_)
 rw [if_pos (show (Value.ref T != Value.none) = true from by simp)]
 refine wpAny_bind (wpAny_field hT hdT h3 ?_)
 by_cases hq : fl = rawInt L
 ·rw [if_pos (show (fl == rawInt L) = true from by rw [hq]; exact beq_self_eq_true _)]
  exact wpAny_pure (h0 hq)
 ·rw [if_neg (show ¬ ((fl == rawInt L) = true) from fun z => hq (eq_of_beq z))]
  refine wpAny_bind (wpAny_setField hT hdT (Array.getElem?_eq_some_iff.mp h3).1 ?_)
  have oth : ∀ b, b ≠ T -> (s.heap.update T (Obj.mapFields (·.setIfInBounds 3 Value.none))).get? b = s.heap.get? b := fun b hb => Heap.get?_update_other _ _ (Ne.symm hb)
  refine entry_new (base := base) (had := true) hfr (hl.of_keeps fun b o hb hn => ?_) hf ⟨(oth e (Ne.symm hTe)).trans hx.obj, hx.big⟩ fun h' T' k1 k2 k3 k4 k5 => h h' T' (fun b o b1 b2 b3 q => ?_) (fun b o b2 b3 q => ?_) (by simpa using k3) k4 k5
  ·have bT : b ≠ T := fun z => by
    rw [z, hT] at hb
    cases hb
    exact hn ts hdT
   exact ⟨o, (oth b bT).trans hb, rfl⟩
  ·exact k1 b o b1 b2 ((oth b b3).trans q)
  ·exact k2 b o b2 ((oth b b3).trans q)
theorem flight {e T : Addr} {fr : Option Addr} {cls : Value} {od : Option Addr} {sl : Array (Option Value)} {vs : Array Value} {fl : Value} {Q : Unit -> Shared -> Prop} (hx : Exc s.heap e cls od sl vs) (h1 : vs[1]? = some (.ref T)) (ht : Tb s.heap T fl)
  (h : ∀ h', (∀ b o, b ≠ T -> s.heap.get? b = some o -> h'.get? b = some o) -> (∃ fl', Tb h' T fl') -> Q () { s with heap := h' }) : wpAny M A (setFlight (.ref e) fr) Q E s := by
 obtain ⟨oT, ts, hT, hdT, h3⟩ := ht.ex
 have hz : 3 < ts.size := (Array.getElem?_eq_some_iff.mp h3).1
 unfold setFlight
 refine wpAny_bind (wpAny_field hx.obj rfl h1 ?_)
 rw [if_pos (show (Value.ref T != Value.none) = true from by simp)]
 refine wpAny_setField hT hdT hz (h _ (fun b o hb q => (Heap.get?_update_other _ _ (Ne.symm hb)).trans q) ⟨fr.elim .none fun f => rawInt f, ⟨⟨_, _, map_at hT hdT, rfl, ?_⟩⟩⟩)
 rw [Array.getElem?_setIfInBounds_self_of_lt hz]
end
end Xc
namespace L2
open PySem PySem.Spec PyProof.Rows
def RaisesF (X : Cx) (E : XK) : Prop := ∀ (pins : List (Addr × Obj)) (σ : St) (H : Hp) (s : Shared) (ea T : Addr) (cls fl : Value) (od : Option Addr) (sl : Array (Option Value)) (vs : Array Value), Inv X pins σ H s -> Xc.Exc s.heap ea cls od sl vs ->
 vs[1]? = some (.ref T) -> T ≠ ea -> vs[2]? = some .none -> Xc.Tb s.heap T fl -> H ea = none -> H T = none -> X.s₀.heap.objs.size <= ea -> X.s₀.heap.objs.size <= T -> E cls od H -> X.xe (.ref ea) s
section
variable {P : Program} {w : World} {K : PySem.W.Frag} {mg : Str -> Option Value} {base : Heap} {N : List Str} {qual : Str} {scope : Scope} {f : Addr} {cd : Value} {A : Around} {outer : List Env} {s : Shared} {H : Hp} {E : XK}
theorem raisesF : RaisesF (cxOf (CXe P w) P w K mg base N qual scope f cd A outer s H E) E := by
 intro pins σ H' s' ea T cls fl od sl vs I ex hv1 hTe hv2 tb n1 n2 m1 m2 q
 have hst : s'.heap.FunFrames base (envOfC qual scope s.heap.objs.size f cd :: outer) := I.stack
 have hfr : (A.deeper (envOfC qual scope s.heap.objs.size f cd)).frames = some (envOfC qual scope s.heap.objs.size f cd :: outer) := I.ok.frames
 have sfree : ∀ b ∈ (envOfC qual scope s.heap.objs.size f cd :: outer).filterMap (·.frame), H' b = none := I.stkFree
 have sub : ∀ b ∈ (envOfC qual scope s.heap.objs.size f cd :: outer).filterMap (·.frame), b ∈ s.heap.objs.size :: frs outer := I.stkSub
 have bs := I.base
 have m1 : s.heap.objs.size <= ea := m1
 have m2 : s.heap.objs.size <= T := m2
 have ne1 : ∀ b o, s.heap.get? b = some o -> b ≠ ea := fun b o e z => by rw [z, Heap.get?_none_of_le m1] at e; cases e
 have ne2 : ∀ b o, s.heap.get? b = some o -> b ≠ T := fun b o e z => by rw [z, Heap.get?_none_of_le m2] at e; cases e
 show wpAny (model P w) (A.deeper (envOfC qual scope s.heap.objs.size f cd)) (leaving (envOfC qual scope s.heap.objs.size f cd) (.ref ea)) (fun _ s'' => CXe P w outer H s E (.ref ea) s'') (fun e' s'' => CXe P w outer H s E e' s'') s'
 unfold leaving
 have fin : ∀ (h1 : Heap) (T1 : Addr) (vs1 : Array Value) (fl1 : Value), (∀ b o, b ∉ (envOfC qual scope s.heap.objs.size f cd :: outer).filterMap (·.frame) -> b ≠ ea -> b ≠ T -> s'.heap.get? b = some o -> h1.get? b = some o) ->
   (∀ b o, b ≠ ea -> b ≠ T -> s'.heap.get? b = some o -> ∃ k, h1.get? b = some { o with slots := k }) -> s.heap.objs.size <= T1 -> H' T1 = none -> Xc.Exc h1 ea cls od sl vs1 -> vs1[1]? = some (.ref T1) -> vs1[2]? = some .none -> T1 ≠ ea -> Xc.Tb h1 T1 fl1 ->
   wpAny (model P w) (A.deeper (envOfC qual scope s.heap.objs.size f cd)) (setFlight (.ref ea) none) (fun _ s'' => CXe P w outer H s E (.ref ea) s'') (fun e' s'' => CXe P w outer H s E e' s'') { s' with heap := h1 } := by
  intro h1 T1 vs1 fl1 k1 k2 k4 kf k5 hv1' hv2' hTe' k6
  refine Xc.land k5 hv1' hTe' k6 fun h2 g1 g2 => ?_
  have ne3 : ∀ b o, s.heap.get? b = some o -> b ≠ T1 := fun b o e z => by rw [z, Heap.get?_none_of_le k4] at e; cases e
  have kept : ∀ b o, s.heap.get? b = some o -> s'.heap.get? b = some o -> b ∉ frs outer -> h2.get? b = some o := fun b o e0 e hb => by
   refine g1 b o (ne3 b o e0) (k1 b o (fun z => ?_) (ne1 b o e0) (ne2 b o e0) e)
   rcases List.mem_cons.mp (sub b z) with y | y
   ·rw [y] at e0
    exact absurd (Heap.lt_size e0) (Nat.lt_irrefl _)
   ·exact hb y
  refine ⟨ea, T1, cls, od, sl, _, H', rfl, I.os, I.bare, ⟨fun b o e n hb hx => ?_, fun b o e n hb hx => ?_, fun b o e n hx => bs.free b o e n (by show b ∉ ([] : List Addr); simp), fun b o e hx => ?_, bs.tups, bs.frzs, bs.tbls⟩, ?_, n1, kf, m1, k4, ⟨g1 _ _ hTe'.symm k5.obj, k5.big⟩, hv1', hTe', hv2', g2, q⟩
  ·exact kept b o e (bs.keep b o e n hb (by show b ∉ ([] : List Addr); simp)) hb
  ·obtain ⟨k0, e0⟩ := bs.slot b o e n hb (by show b ∉ ([] : List Addr); simp)
   obtain ⟨k, z⟩ := k2 b _ (ne1 b o e) (ne2 b o e) e0
   exact ⟨k, g1 b _ (ne3 b o e) z⟩
  ·obtain ⟨o', e1⟩ := bs.there b o e (by show b ∉ ([] : List Addr); simp)
   obtain ⟨k, z⟩ := k2 b o' (ne1 b o e) (ne2 b o e) e1
   exact ⟨_, g1 b _ (ne3 b o e) z⟩
  ·refine hok_kept I.hok fun b o u hu e => g1 b o (fun z => by rw [z, kf] at hu; cases hu) (k1 b o (fun z => by rw [sfree b z] at hu; cases hu) (fun z => by rw [z, n1] at hu; cases hu) (fun z => by rw [z, n2] at hu; cases hu) e)
 refine wpAny_bind (Xc.note_any hfr hst rfl ex hv1 hTe tb (fun hq => ?_) fun h1 T1 k1 k2 k4 k5 k6 => ?_)
 ·exact fin s'.heap T vs fl (fun b o _ _ _ e => e) (fun b o _ _ e => ⟨o.slots, e⟩) m2 n2 ex hv1 hv2 hTe tb
 ·refine fin h1 T1 _ _ k1 k2 (Nat.le_trans I.sz k4) (I.hok.fresh k4) k5 (by simp [Nat.lt_of_succ_lt ex.big]) (by rw [Array.getElem?_setIfInBounds_ne (by decide)]; exact hv2) (Nat.ne_of_gt (Nat.lt_of_lt_of_le (Heap.lt_size ex.obj) k4)) k6
end
section
variable {X : Cx} {K : PySem.W.Frag} {pins : List (Addr × Obj)} {σ : St} {H : Hp} {s : Shared}
theorem noted {M : Model} {A : Around} {XE : Value -> Shared -> Prop} {R : Unit -> Shared -> Prop} {E : XK} {ev : Value} {s1 s' : Shared} {H1 : Hp} (I : Inv X pins σ H1 s1) (hx : CXe X.prog X.w X.stack H1 s1 E ev s') (hfr : A.frames = some X.stack) (hs : X.stack = X.env :: X.outer) (hl : X.env.frame = some X.env.locals)
  (k : ∀ (ea T : Addr) (cls fl : Value) (od : Option Addr) (sl : Array (Option Value)) (vs : Array Value) (H' : Hp) (s3 : Shared), ev = .ref ea -> Inv X pins σ H' s3 -> Xc.Exc s3.heap ea cls od sl vs -> vs[1]? = some (.ref T) -> T ≠ ea -> vs[2]? = some .none -> Xc.Tb s3.heap T fl ->
   H' ea = none -> H' T = none -> s1.heap.objs.size <= ea -> s1.heap.objs.size <= T -> E cls od H' -> (∀ b o, s1.heap.get? b = some o -> H1 b = none -> b ∉ frs X.stack -> s3.heap.get? b = some o /\ H' b = none) -> R () s3) :
  wpAny M A (noteFrame ev X.env) R XE s' := by
 obtain ⟨ea, T, cls, od, sl, vs, H', rfl, ho, hb, hu, hok, n1, n2, m1, m2, ex, v1, ne, v2, tb, q⟩ := hx
 have I' := I.call' (ch := []) ho hu hok hb (fun _ z => nomatch z)
 have hst : s'.heap.FunFrames X.base (X.env :: X.outer) := by rw [<- hs]; exact I'.stack
 have sfree : ∀ b ∈ (X.env :: X.outer).filterMap (·.frame), H' b = none := by
  have z := I'.stkFree
  rw [hs] at z
  exact z
 have hfs : frs X.stack = (X.env :: X.outer).filterMap (·.frame) := by rw [hs]; rfl
 have new1 : ∀ b o, s1.heap.get? b = some o -> b ≠ ea := fun b o e z => by rw [z, Heap.get?_none_of_le m1] at e; cases e
 have newT : ∀ b o, s1.heap.get? b = some o -> b ≠ T := fun b o e z => by rw [z, Heap.get?_none_of_le m2] at e; cases e
 have fin : ∀ (h1 : Heap) (T1 : Addr) (vs1 : Array Value) (fl1 : Value), (∀ b o, b ∉ (X.env :: X.outer).filterMap (·.frame) -> b ≠ ea -> b ≠ T -> s'.heap.get? b = some o -> h1.get? b = some o) ->
   (∀ b o, b ≠ ea -> b ≠ T -> s'.heap.get? b = some o -> ∃ k, h1.get? b = some { o with slots := k }) -> s1.heap.objs.size <= T1 -> H' T1 = none -> Xc.Exc h1 ea cls od sl vs1 -> vs1[1]? = some (.ref T1) -> vs1[2]? = some .none -> T1 ≠ ea -> Xc.Tb h1 T1 fl1 -> R () { s' with heap := h1 } := by
  intro h1 T1 vs1 fl1 k1 k2 k4 kf k5 hv1' hv2' hTe' k6
  have hok2 : HOk X.prog X.w H' h1 := hok_kept hok fun b o u hu e => k1 b o (fun z => by rw [sfree b z] at hu; cases hu) (fun z => by rw [z, n1] at hu; cases hu) (fun z => by rw [z, n2] at hu; cases hu) e
  have u2 : Un (frs X.stack) [] H1 H' s1.heap h1 := by
   refine ⟨fun b o e n hb hx => ?_, fun b o e n hb hx => ?_, hu.free, fun b o e hx => ?_, hu.tups, hu.frzs, hu.tbls⟩
   ·exact k1 b o (by rw [<- hfs]; exact hb) (new1 b o e) (newT b o e) (hu.keep b o e n hb hx)
   ·obtain ⟨k0, e0⟩ := hu.slot b o e n hb hx
    obtain ⟨k, z⟩ := k2 b _ (new1 b o e) (newT b o e) e0
    exact ⟨k, z⟩
   ·obtain ⟨o', e1⟩ := hu.there b o e hx
    obtain ⟨k, z⟩ := k2 b o' (new1 b o e) (newT b o e) e1
    exact ⟨_, z⟩
  have I2 : Inv X pins σ H' { s' with heap := h1 } := I.call' (s' := { s' with heap := h1 }) (ch := []) ho u2 hok2 hb (fun _ z => nomatch z)
  exact k ea T1 cls fl1 od sl vs1 H' _ rfl I2 k5 hv1' hTe' hv2' k6 n1 kf m1 k4 q fun b o e n hb => ⟨u2.keep b o e n hb (by simp), u2.free b o e n (by simp)⟩
 refine Xc.note_any (base := X.base) (hfr.trans (by rw [hs])) hst hl ex v1 ne tb (fun hq => ?_) fun h1 T1 k1 k2 k4 k5 k6 => ?_
 ·exact fin s'.heap T vs .none (fun b o _ _ _ e => e) (fun b o _ _ e => ⟨o.slots, e⟩) m2 n2 ex v1 v2 ne tb
 ·refine fin h1 T1 _ _ k1 k2 ?_ (I'.hok.fresh k4) k5 (by simp [Nat.lt_of_succ_lt ex.big]) (by rw [Array.getElem?_setIfInBounds_ne (by decide)]; exact v2) (Nat.ne_of_gt (Nat.lt_of_lt_of_le (Heap.lt_size ex.obj) k4)) k6
  obtain ⟨oT, _, e, _⟩ := tb.ex
  exact Nat.le_trans m2 (Nat.le_trans (Nat.le_of_lt (Heap.lt_size e)) k4)
end
end L2
namespace L2
open PySem PySem.Spec PyProof.Rows
def XIn (X : Cx) (scope : Scope) (N' : List Str) (C : Addr) (s2 : Shared) (H2 : Hp) (fp : List Addr) (E : XK) : Value -> Shared -> Prop := fun e s' =>
 ∃ pins' σ' H1 s1, Inv (compCx X scope N' C s2 H2 fp fun _ _ => False) pins' σ' H1 s1 /\ CXe X.prog X.w X.stack H1 s1 E e s'
abbrev compX (X : Cx) (scope : Scope) (N' : List Str) (E : XK) (C : Addr) (s2 : Shared) (H2 : Hp) (fp : List Addr) : Cx := compCx X scope N' C s2 H2 fp (XIn X scope N' C s2 H2 fp E)
section
variable {X : Cx} {K : PySem.W.Frag} {pins : List (Addr × Obj)} {σ : St} {H : Hp} {s : Shared}
theorem passC {scope : Scope} {N' : List Str} {E : XK} {C : Addr} {s2 : Shared} {H2 : Hp} {fp : List Addr} : Passes (CXe X.prog X.w) (compX X scope N' E C s2 H2 fp) E := by
 intro pins' σ' H1 s1 e s' I hx
 exact ⟨pins', σ', H1, s1, I.wish (fun _ _ => False), hx⟩
def CompEndE (X : Cx) (pins : List (Addr × Obj)) (σ : St) (Q : VK) (E : XK) (acc : Value) (C : Addr) (r : Result) (s' : Shared) : Prop :=
 match r with
 | .ok _ => ∃ p H' m, acc = .ref p /\ Inv X pins σ H' s' /\ FpOk X pins H' C /\ s'.heap.Ns C m /\ Q (.ref p) H'
 | .error e => ∃ (ea T : Addr) (cls fl : Value) (od : Option Addr) (sl : Array (Option Value)) (vs : Array Value) (H' : Hp) (m : Str -> Option Value), e = .ref ea /\ Inv X pins σ H' s' /\ Xc.Exc s'.heap ea cls od sl vs /\ vs[1]? = some (.ref T) /\ T ≠ ea /\ vs[2]? = some .none /\ Xc.Tb s'.heap T fl /\
   FpOk X pins H' ea /\ FpOk X pins H' T /\ FpOk X pins H' C /\ X.s₀.heap.objs.size <= ea /\ X.s₀.heap.objs.size <= T /\ ea ≠ C /\ T ≠ C /\ s'.heap.Ns C m /\ E cls od H'
theorem comp_coreE {elt tg iter : Expr} {ifs : List Expr} {scope : Scope} {pos : Pos} {N' : List Str} {cap : List (Option Nat)} {wi : TI} {g : TG} {tst : TT} {te : TE} {Q : VK} {E : XK} (hc : X.calm = true) (hs : X.stack = X.env :: X.outer) (hl : X.env.frame = some X.env.locals) (S : CSc X scope N' cap) (hi : PI X tg iter wi)
  (hg : ∀ C s2 H2 fp, PG (compX X scope N' E C s2 H2 fp) tg g) (ht : ∀ C s2 H2 fp, PIfs (compX X scope N' E C s2 H2 fp) ifs tst)
  (he : ∀ C s2 H2 fp, PE (compX X scope N' E C s2 H2 fp) elt te) (I : Inv X pins σ H s) (h : tComp wi cap g tst te σ H Q) :
  wpAny (model X.prog X.w) X.A (eval iter X.env) (fun x s1 => wpAny (model X.prog X.w) X.A (pyIter x) (fun it s2 => wpAny (model X.prog X.w) X.A (newList []) (fun acc s3 =>
   wpAny (model X.prog X.w) X.A (newFunctionEnv scope X.env.globals (compCl X.env scope.names []) [] X.env.qual none .none (some X.env)) (fun cenv s4 =>
    codeAny (model X.prog X.w) X.A (.compStart (.ListComp elt [⟨tg, iter, ifs, 0⟩] scope pos) 0 it acc { cenv with scope := relabel scope X.env }) (CompEndE X pins σ Q E acc cenv.locals) s4) X.xe s3) X.xe s2) X.xe s1) X.xe s := by
 refine thn (hi pins s σ H _ I h) fun v s1 h1 => thn h1 fun itv s2 h2 => ?_
 obtain ⟨it, fp, tn, J, H2, e, I2, T, st2, f2, q⟩ := h2
 subst e
 have ho : ∀ b ∈ fp, b < s2.heap.objs.size := fun b hb => by
  obtain ⟨o, e, _⟩ := T.obj _ _ st2 b hb
  exact Heap.lt_size e
 refine wpAny_newObj_type (wpAny_newFunctionEnv S.nocell (by intro y hy; simp at hy) (fun hp1 hns1 hsb1 => ?_) S.kind)
 have hDn : s2.heap.objs.size ≠ (s2.heap.push { cls := .type "list", dict := none, data := .seq ([] : List Value).toArray }).objs.size := by rw [Heap.size_push]; exact Nat.ne_of_lt (Nat.lt_succ_self _)
 have hCle : s2.heap.objs.size <= (s2.heap.push { cls := .type "list", dict := none, data := .seq ([] : List Value).toArray }).objs.size := by rw [Heap.size_push]; exact Nat.le_succ _
 have old : ∀ b o, s2.heap.get? b = some o -> hp1.get? b = some o := fun b o e =>
  hsb1.extBut b o (Nat.ne_of_lt (Nat.lt_of_lt_of_le (Heap.lt_size e) hCle)) (Heap.get?_push_of_some _ (Heap.get?_push_of_some _ e))
 have hacc : hp1.get? s2.heap.objs.size = some { cls := .type "list", data := .seq #[] } := hsb1.extBut _ _ hDn (Heap.get?_push_of_some _ (Heap.get?_push_size _ rfl))
 let X' : Cx := compX X scope N' E (s2.heap.push { cls := .type "list", dict := none, data := .seq ([] : List Value).toArray }).objs.size s2 H2 fp
 obtain ⟨W, ⟨m0, w0⟩, turn⟩ := q s2.heap.objs.size (I2.hok.fresh (Nat.le_refl _))
 have J0 : Inv X' [] (capS cap σ) (upd H2 s2.heap.objs.size (.lst [])) { s2 with heap := hp1, toks := s2.toks + ([] : List (Str × Value)).length } := I2.compStart S (Nat.le_refl _) hCle hDn f2 ho old hacc hns1
 have stat : ∀ {H' : Hp}, (∀ b ∈ fp, H' b = none) -> ∀ b ∈ fp, FpOk X' [] H' b := fun hn b hb => by
  obtain ⟨_, g1, g2, g3, g4, g5⟩ := f2 b hb
  refine ⟨hn b hb, Nat.ne_of_lt (Nat.lt_of_lt_of_le (ho b hb) hCle), J0.ok.exfs b hb, .inl hb, fun x c e => g4 x c (I2.clLook S e), fun p hp => absurd (show p ∈ ([] : List (Addr × Obj)) from hp) (by simp)⟩
 have fr0 : ∀ b ∈ fp, upd H2 s2.heap.objs.size (.lst []) b = none := fun b hb => by rw [upd_ne (Nat.ne_of_lt (ho b hb))]; exact (f2 b hb).1
 have loop : codeAny (model X.prog X.w) X.A (.compLoop (.ListComp elt [⟨tg, iter, ifs, 0⟩] scope pos) 0 (.ref it) (.ref s2.heap.objs.size) X'.env)
   (CompEndE X pins σ Q E (.ref s2.heap.objs.size) (s2.heap.push { cls := .type "list", dict := none, data := .seq ([] : List Value).toArray }).objs.size) { s2 with heap := hp1, toks := s2.toks + ([] : List (Str × Value)).length } := by
  refine comp_loop rfl (fun n s' => ∃ i σ' H', Inv X' [] σ' H' s' /\ tn i s'.heap /\ (∀ b ∈ fp, H' b = none) /\ W i n σ' H') ?_ m0 ⟨0, _, _, J0, T.keep _ _ _ st2 fun b _ o e => old b o e, fr0, w0⟩
  rintro n s3 ⟨i, σ3, H3, I3, st3, fr3, w3⟩
  have no : ∀ (e : Value) (s' : Shared), X'.xe e s' -> notedBy (model X.prog X.w) X.A X'.env (fun e s' => CompEndE X pins σ Q E (.ref s2.heap.objs.size) (s2.heap.push { cls := .type "list", dict := none, data := .seq ([] : List Value).toArray }).objs.size (.error e) s') e s' := by
   rintro e s' ⟨pins', σ', H1, s1', J, hx⟩
   have I1 : Inv X pins σ H1 s1' := I2.compBack f2 J
   obtain ⟨mC, hmC, _⟩ := id J.loc
   obtain ⟨oC, esC, epC, hoC, rC⟩ := hmC
   show wpAny (model X.prog X.w) X.A (noteFrame e X.env) _ _ s'
   refine noted I1 hx I.ok.frames hs hl fun ea T' cls fl od sl vs H' s3' ee I3' ex hv1 hTe hv2 tb n1 n2 m1 m2 qE kept => ?_
   subst ee
   have fC : ∀ {H'' : Hp}, H'' (s2.heap.push { cls := .type "list", dict := none, data := .seq ([] : List Value).toArray }).objs.size = none -> FpOk X pins H'' _ := fun z => I2.fpOk hCle z
   have nC : (s2.heap.push { cls := .type "list", dict := none, data := .seq ([] : List Value).toArray }).objs.size ∉ frs X.stack := by
    rw [hs]
    intro z
    have z' : _ ∈ (X.env :: X.outer).filterMap (·.frame) := z
    rw [List.filterMap_cons, hl] at z'
    rcases List.mem_cons.mp z' with y | y
    ·exact (fC (H'' := fun _ => none) rfl).2.1 y
    ·exact (fC (H'' := fun _ => none) rfl).2.2.1 y
   obtain ⟨kC, kH⟩ := kept _ oC hoC J.free nC
   have ltC := Heap.lt_size hoC
   exact ⟨ea, T', cls, fl, od, sl, vs, H', mC, rfl, I3', ex, hv1, hTe, hv2, tb, I1.fpOk m1 n1, I1.fpOk m2 n2, fC kH, Nat.le_trans I1.sz m1, Nat.le_trans I1.sz m2, Nat.ne_of_gt (Nat.lt_of_lt_of_le ltC m1), Nat.ne_of_gt (Nat.lt_of_lt_of_le ltC m2), ⟨oC, esC, epC, kC, rC⟩, qE⟩
  rcases turn i n σ3 H3 w3 with ⟨stop, qn⟩ | ⟨go, N, hN, step⟩
  ·refine wpAny_mono (T.done X' rfl rfl rfl hc i [] s3 σ3 H3 X'.xe I3 (stat fr3) st3 stop) (fun r s4 ⟨hr, I4⟩ => ?_) no
   subst hr
   obtain ⟨mC, hmC, _⟩ := I4.loc
   exact ⟨_, H3, mC, rfl, I2.compBack f2 I4, I2.fpOk hCle I4.free, hmC, qn⟩
  ·refine wpAny_mono (T.item X' rfl rfl rfl hc i [] s3 σ3 H3 X'.xe I3 (stat fr3) st3 go) (fun r s4 ⟨u, hr, h4⟩ => ?_) no
   subst hr
   refine wpAny_mono h4 (fun _ s5 ⟨x, H5, I5, r5, y5, st5, fr5⟩ => ?_) no
   have I5' := I5.pinned (stat fr5) (T.obj _ _ st5)
   refine wpAny_mono (hg _ _ _ _ _ s5 σ3 H5 x u _ I5' r5 (step x H5 y5)) (fun _ s6 ⟨σ6, H6, I6, q6⟩ => ?_) no
   refine wpAny_mono (ht _ _ _ _ _ s6 σ6 H6 _ I6 q6) (fun ok s7 ⟨H7, I7, q7⟩ => ?_) no
   have again : ∀ {σ7 : St} {H7 : Hp} {s7 : Shared}, Inv X' ([] ++ pinsAt fp s5.heap) σ7 H7 s7 -> N σ7 H7 -> ∃ m, m < n /\ ∃ i σ' H', Inv X' [] σ' H' s7 /\ tn i s7.heap /\ (∀ b ∈ fp, H' b = none) /\ W i m σ' H' := fun {σ7 H7 s7} I7 n7 => by
    obtain ⟨m', hm, w7⟩ := hN σ7 H7 n7
    refine ⟨m', hm, i + 1, σ7, H7, I7.unpinned, T.keep _ _ _ st5 fun b hb o e => (I7.pin (b, o) (List.mem_append_right _ (List.mem_append_right _ (mem_pinsAt hb e)))).1, fun b hb => ?_, w7⟩
    obtain ⟨o, e, d⟩ := T.obj _ _ st5 b hb
    exact (I7.pin (b, o) (List.mem_append_right _ (List.mem_append_right _ (mem_pinsAt hb e)))).2.1
   cases ok with
   | false => exact again I7 q7
   | true =>
    refine wpAny_mono (he _ _ _ _ _ s7 σ6 H7 _ I7 q7) (fun y s8 ⟨z, H8, I8, r8, xs, e8, l8, q8⟩ => ?_) no
    refine wpAny_mono (mt_append (X := X') _ s8 σ6 H8 (.ref s2.heap.objs.size) [z] (.ref s2.heap.objs.size) [y] (fun _ H9 => N σ6 H9) I8 rfl (.cons r8 .nil) ⟨_, xs, z, rfl, rfl, e8, l8, q8⟩) (fun _ s9 ⟨_, H9, I9, _, q9⟩ => ?_) no
    exact again I9 q9
 exact codeAny_compStart_list loop (T.self _ 0 _ _ _ (T.keep _ _ _ st2 fun b _ o e => old b o e) loop)
theorem pe_compE {elt tg iter : Expr} {ifs : List Expr} {scope : Scope} {pos : Pos} {N' : List Str} {cap : List (Option Nat)} {wi : TI} {g : TG} {tst : TT} {te : TE} {E : XK} (hc : X.calm = true) (hst : X.stack = X.env :: X.outer) (hl : X.env.frame = some X.env.locals) (hF : RaisesF X E) (S : CSc X scope N' cap) (hi : PI X tg iter wi)
  (hg : ∀ C s2 H2 fp, PG (compX X scope N' E C s2 H2 fp) tg g) (ht : ∀ C s2 H2 fp, PIfs (compX X scope N' E C s2 H2 fp) ifs tst)
  (he : ∀ C s2 H2 fp, PE (compX X scope N' E C s2 H2 fp) elt te) (hs : ∀ x, foldedSetIterable iter X.env x = pure x := by intro _; rfl) :
  PE X (.ListComp elt [⟨tg, iter, ifs, 0⟩] scope pos) (tComp wi cap g tst te) := by
 intro pins s σ H Q I h
 rw [eval_ListComp]
 refine wpAny_comprehension_free (use := none) rfl hs (closure_eq (I.cellOf S)) S.kind S.names (thn (comp_coreE (Q := Q) hc hst hl S hi hg ht he I h) fun xv s1 h1 => thn h1 fun it s2 h2 => thn h2 fun acc s3 h3 => thn h3 fun cenv s4 h4 => codeAny_mono h4 fun r s5 h5 => ?_)
 cases r with
 | error e =>
  obtain ⟨ea, T, cls, fl, od, sl, vs, H', m, rfl, I', ex, hv1, hTe, hv2, tb, fE, fT, fC, le, lT, nEC, nTC, hn, qE⟩ := h5
  refine ⟨m, hn, fun h' sb cenv' ec => ?_⟩
  have ex' : Xc.Exc h' ea cls od sl vs := ⟨sb.extBut _ _ nEC ex.obj, ex.big⟩
  have tb' : Xc.Tb h' T fl := by
   obtain ⟨oT, ts, e1, e2, e3⟩ := tb.ex
   exact ⟨⟨oT, ts, sb.extBut _ _ nTC e1, e2, e3⟩⟩
  have I6 : Inv X pins σ H' { s5 with heap := h' } := I'.turned (t' := s5.toks) (fun b o hb e => sb.extBut b o hb e) fC.1 fC.2.1 fC.2.2.2.1 fC.2.2.2.2.1 fC.2.2.2.2.2
  unfold PySem.passOn
  refine wpAny_bind (wpAny_field ex'.obj rfl hv1 ?_)
  rw [if_neg (show ¬ ((Value.ref T == Value.none) = true) from by simp)]
  refine wpAny_bind (Xc.flight (s := { s5 with heap := h' }) ex' hv1 tb' fun h2 g1 g2 => wpAny_throw ?_)
  obtain ⟨fl', tb2⟩ := g2
  have I7 : Inv X pins σ H' { s5 with heap := h2 } := I6.turned (t' := s5.toks) (fun b o hb e => g1 b o hb e) fT.1 fT.2.1 fT.2.2.2.1 fT.2.2.2.2.1 fT.2.2.2.2.2
  exact hF pins σ H' _ ea T cls fl' od sl vs I7 ⟨g1 _ _ hTe.symm ex'.obj, ex.big⟩ hv1 hTe hv2 tb2 fE.1 fT.1 le lT qE
 | ok fl =>
  obtain ⟨p, H', m, rfl, I', F', hn, q⟩ := h5
  refine ⟨m, hn, fun h' sb => ⟨.ref p, H', ?_, rfl, q⟩⟩
  exact I'.turned (t' := s5.toks) (fun b o hb e => sb.extBut b o hb e) F'.1 F'.2.1 F'.2.2.2.1 F'.2.2.2.2.1 F'.2.2.2.2.2
end
end L2
namespace Xc
open PySem
section
variable {prog : Program} {w : World} {A : Around} {E : Value -> Shared -> Prop} {h : Heap} {g : Array GenState} {d : Drawn} {t : Nat} {os : OsState}
variable {nm q : Str} {C N : Addr} {bs bm bmB : List Value} {hdct : Bool} {sn : List Str} {sub : List Value} {ab : Bool} {col : Option Bool} {dd : Option Addr} {k0 k1 k2 k3 k5 : Option Value} {B newId initId : String}
theorem made0 (F : ExcBaseFacts B newId initId bmB) (T : OwnTail h bmB bm) {mN : Str -> Option Value} {rest : List Value} {Q : PySem.Fin -> Shared -> Prop}
  (hC : h.get? C = some (excClassObj nm q C N bs bm hdct sn sub ab col dd k0 k1 k2 k3 k5 newId)) (hn : h.Ns N mN) (hi : mN "__init__" = none)
  (hq : ∀ h' e, Heap.MadeExcOf h h' e (.ref C) rest -> h.objs.size <= e -> Q (.done (.ret (.ref e))) ⟨h', g, d, t, os⟩) (hrest : rest.length <= sizeLine) :
  wpAny (model prog w) A (Builtin.«type.__call__» ⟨.ref C :: rest, []⟩) Q E ⟨h, g, d, t, os⟩ := by
 repeat (first | with_reducible refine wpAny_loadPart_at hC ?_ | with_reducible refine wpAny_madeBy_exc hC ?_ | wp_step)
 refine codeAny_call_builtin_code (Code.quiet_builtin _ F.quiet) (wpAny_check_new_subT F T hC (codeAny_exc_new_subT F T hC ?_ hrest))
 show wpAny _ _ _ _ _ _
 have up : ∀ b o, h.get? b = some o -> ((h.push { cls := .type "tuple", data := .seq rest.toArray }).push { cls := .ref C, data := .fields #[.ref h.objs.size, .none, .none, .none, .bool false, .none] }).get? b = some o := fun b o e => Heap.get?_push_of_some _ (Heap.get?_push_of_some _ e)
 have hget : ((h.push { cls := .type "tuple", data := .seq rest.toArray }).push { cls := .ref C, data := .fields #[.ref h.objs.size, .none, .none, .none, .bool false, .none] }).get? (h.objs.size + 1) = some { cls := .ref C, data := .fields #[.ref h.objs.size, .none, .none, .none, .bool false, .none] } := by heap_get
 have hcC : (Value.ref C :: bm).contains (.ref C) = true := by simp
 have hC1 := up _ _ hC
 have hn1 : ((h.push { cls := .type "tuple", data := .seq rest.toArray }).push { cls := .ref C, data := .fields #[.ref h.objs.size, .none, .none, .none, .bool false, .none] }).Ns N mN := let ⟨o, es, ep, e, r⟩ := hn; ⟨o, es, ep, up _ _ e, r⟩
 unfold isInstance
 repeat (first | with_reducible refine wpAny_loadPart_at hget ?_ | (with_reducible refine wpAny_isSubtype_exc hC1 ?_; rw [hcC]) | wp_step)
 show wpAny _ _ (typeLookup (.ref C) _) _ _ _
 refine wpAny_typeLookup_tail hC1 hn1 (T.keeps up) F.mroIs F.init.lookup ?_
 rw [hi]
 refine wpAny_holding (wpAny_bind (wpAny_of_eq (F.init.bind _) ?_))
 refine wpAny_bind (wpAny_call (codeAny_call_builtin F.init.plain F.initEntry (wpAny_check_init_subT F (T.keeps up) hC1 hget rfl ?_)))
 wp_walk
 refine hq _ _ ⟨fun b o hb => ?_, Heap.get?_none_of_le (Nat.le_succ _), h.objs.size + 2, ?_, Heap.get?_none_of_le (by omega), ?_⟩ (Nat.le_succ _)
 ·rw [Heap.get?_update_other _ _ (Nat.ne_of_gt (Nat.lt_succ_of_lt (Heap.lt_size hb)))]
  exact Heap.get?_push_of_some _ (up b o hb)
 ·rw [Heap.get?_update_self _ (Heap.get?_push_of_some _ hget) rfl]
  simp only [Heap.size_push]
  rfl
 ·rw [Heap.get?_update_other _ _ (show h.objs.size + 1 ≠ h.objs.size + 2 by omega)]
  exact Heap.get?_push_at (by simp only [Heap.size_push]) rfl
theorem call0 (F : ExcBaseFacts B newId initId bmB) (T : OwnTail h bmB bm) {mN : Str -> Option Value} {rest : List Value} {Q : Value -> Shared -> Prop}
  (hC : h.get? C = some (excClassObj nm q C N bs bm hdct sn sub ab col dd k0 k1 k2 k3 k5 newId)) (hn : h.Ns N mN) (hi : mN "__init__" = none)
  (hq : ∀ h' e, Heap.MadeExcOf h h' e (.ref C) rest -> h.objs.size <= e -> Q (.ref e) ⟨h', g, d, t, os⟩) (hrest : rest.length <= sizeLine) :
  wpAny (model prog w) A (call (.ref C) rest) Q E ⟨h, g, d, t, os⟩ := by
 have f1 := tc_lookup
 have f2 := tc_bind (.ref C)
 have hT : (⟨h, g, d, t, os⟩ : Shared).TypeIs (.ref C) "type" := ⟨_, hC, rfl⟩
 refine wpAny_call (codeAny_of_tree (?_ : wpAny _ _ (callAny (.ref C) _) _ _ _))
 repeat (any_goals (first | assumption | with_reducible refine wpAny_loadPart_at hC ?_ | wp_step))
 refine ⟨rfl, codeAny_call_builtin_at (Code.quiet_builtin _ (by decide +kernel)) entry_typeCall (wpAny_check_type_call_sub hC (made0 F T hC hn hi (fun h' e hm hs => ?_) hrest))⟩
 exact hq h' e hm hs
end
end Xc
namespace L2
open PySem PySem.Spec PyProof.Rows
theorem ns_none {K : PySem.W.Frag} {h : Heap} {N : Addr} {mg : Str -> Option Value} {n : Str} (X : K.In h) (G : h.Ns N mg) (e : nsIn K N n = some none) : mg n = none := by
 obtain ⟨o, es, ep, ho, hd, _, hf⟩ := G
 unfold nsIn at e
 split at e
 ·rename_i c d es' n' sl q
  have := X _ _ q
  rw [ho] at this
  cases this
  cases hd
  split at e
  ·cases e
  ·rename_i he
   rw [<- hf]
   unfold nsFind findBy
   rw [<- Array.find?_toList, he]
   rfl
 ·cases e
structure X0 (K : PySem.W.Frag) (C : Addr) : Prop where
 x : xIn K C = true
 init : ((PySem.W.clsIn K C).bind fun cd => nsIn K cd.ns "__init__") = some none
 kp : keepIn K (.ref C) = true
section
variable {X : Cx} {k : Nat} {C : Addr} {E : XK} {x : Str} {p pos rpos : Pos} {e : Expr} {es : List Expr} {t : TA}
def sRaise0 (C : Addr) (E : XK) (t : TA) : TS := fun _ σ H => t σ H fun vs H1 => vs.length <= 1000 /\ E (.ref C) none H1
theorem ps_raise0 (M : X0 X.K C) (hr : Room (k + 1) X.A) (hm : X.mg x = some (.ref C)) (hg : Gl X x) (hx : Raises X E)
  (ha : PA X (e :: es) t) (hdb : (x == ("__debug__" : Str)) = false := by decide) (he : starEach (e :: es) X.env = (false, eval e X.env) :: starEach es X.env := by rfl) (hpl : (backTo pos (starEach es X.env)).any (·.1) = false := by rfl) :
  PS X (.Raise (some (.Call (.Name x p) (e :: es) [] pos)) none rpos) (sRaise0 C E t) := by
 intro pins s σ H D I h
 obtain ⟨cd, hcd, ⟨nm, qn, bs, bm, hdct, sn, sub, ab, col, dd, k0, k1, k2, k3, k5, hCo, T, mN, hN⟩⟩ := xat_of I.kIn M.x
 obtain ⟨cd', hcd', hi⟩ := Option.bind_eq_some_iff.mp M.init
 rw [hcd] at hcd'; cases hcd'
 have hb2 : bm.contains (.type "BaseException") = true := T.hasType (by decide +kernel)
 rw [arm_exec_Raise]
 refine wpAny_bind (wpAny_standAt ?_)
 show wpAny _ _ (raiseStmt X.env (some (do let v <- eval (.Call (.Name x p) (e :: es) [] pos) X.env; standAt rpos; pure v)) none) _ _ _
 refine Xc.raise_made (C := C) (N := cd.ns) (nm := nm) (q := qn) (bs := bs) (bm := bm) (hdct := hdct) (sn := sn) (sub := sub) (ab := ab) (col := col) (dd := dd) (k0 := k0) (k1 := k1) (k2 := k2) (k3 := k3) (k5 := k5) (newId := "ValueError.__new__") hb2 hr.hd ?_
 refine wpAny_bind (thn (Q := fun v s1 => ∃ e od sl vs, v = .ref e /\ s1.heap.get? C = some (excClassObj nm qn C cd.ns bs bm hdct sn sub ab col dd k0 k1 k2 k3 k5 "ValueError.__new__") /\ Xc.Exc s1.heap e (.ref C) od sl vs /\ vs[1]? = some .none /\ X.xe (.ref e) s1) ?_ fun v s1 h1 => wpAny_bind (wpAny_standAt (wpAny_pure h1)))
 refine wpAny_Call_Name_kw (ld_glob I hg hm ?_ hdb)
 refine callWith_K (h₀ := X.base) I.ok.mod.kin M.kp (thn (ha pos pins s σ H _ I h) fun us s1 ⟨vs, H1, I1, r, hl, q⟩ => ⟨I1.kIn, ?_⟩) he hpl
 obtain ⟨cd2, hcd2, ⟨nm2, qn2, bs2, bm2, hdct2, sn2, sub2, ab2, col2, dd2, j0, j1, j2, j3, j5, hC1, T1, mN1, hN1⟩⟩ := xat_of I1.kIn M.x
 rw [hcd] at hcd2; cases hcd2
 have kC : s1.heap.get? C = some (excClassObj nm qn C cd.ns bs bm hdct sn sub ab col dd k0 k1 k2 k3 k5 "ValueError.__new__") := by
  have hK : ∃ o, X.K.lookup C = some o := by
   unfold PySem.W.clsIn at hcd
   split at hcd
   ·rename_i z; exact ⟨_, z⟩
   ·cases hcd
  obtain ⟨o, hK⟩ := hK
  have e1 := I.kIn C o hK
  rw [hCo] at e1; cases e1
  exact I1.kIn C _ hK
 have hi1 := ns_none I1.kIn hN1 hi
 obtain ⟨hp, g, d, tk, os⟩ := s1
 refine Xc.call0 PySem.F.excBase_ValueError T1 hC1 hN1 hi1 (fun h' a hm' hs => ?_) (by rw [List.nil_append, <- r.length, sizeLine_eq]; omega)
 obtain ⟨tt, ht, _, _⟩ := hm'.there
 have I2 := I1.kept (h' := h') (t' := tk) hm'.keeps
 refine ⟨a, none, _, _, rfl, hm'.keeps _ _ kC, ⟨ht, by simp⟩, rfl, ?_⟩
 refine hx pins σ H1 _ a (.ref C) none _ _ I2 ⟨⟨ht, by simp⟩, rfl, I1.hok.fresh hs, Nat.le_trans I1.sz hs, fun y c e z => ?_, .inl rfl⟩ q
 obtain ⟨v, o, y, _⟩ := I1.cell _ c e
 rw [z] at y
 exact absurd (Heap.lt_size y) (Nat.not_lt.mpr hs)
end
end L2
namespace Xc
open PySem
section
variable {prog : Program} {w : World} {A : Around} {R : Result -> Shared -> Prop} {I : Addr} {fp wr : List Addr} {n : Nat} {P : Nat -> Value -> Prop} {St : Nat -> Heap -> Prop} {d : Value} {kn : Str}
theorem max_loopD (W : Walks prog w A.in1 I fp wr n P St) (bt : Nat -> Nat -> Bool) (hcmp : CmpOf prog w A.in1 .Gt P bt) (S : Addr) (hSf : S ∉ fp) :
  ∀ (k j : Nat) (s : Shared) (vb : Value) (c : Nat), n - (j + 1) = k -> j + 1 <= n -> St (j + 1) s.heap -> P (argBest bt j) vb ->
  s.heap.get? S = some { cls := .type "list", dict := none, data := .seq #[vb, vb] c, slots := #[] } ->
  (∀ v h' tk, P (argBest bt (n - 1)) v -> (∀ b o, b ∉ wr -> b ≠ S -> s.heap.get? b = some o -> h'.get? b = some o) -> R (.ok (.ret v)) { s with heap := h', toks := tk }) ->
  codeAny (model prog w) A (.builtin "max.loop" ⟨[.ref I, .none, .ref S], [(kn, d)]⟩) R s := by
 have hSw : S ∉ wr := fun h => hSf (W.sub _ h)
 have hname : (toString "max" ++ toString ".loop" : String) = "max.loop" := by decide
 intro k
 induction k with
 | zero =>
  intro j s vb c hk hj hst hPb hS hR
  have hin : j + 1 = n := by omega
  refine codeAny_builtin F.entry_max_loop ?_
  rw [Around.under_plainId F.plain_max_loop _]
  show wpAny _ A.in1 (seqItems? (.ref S) >>= _) _ _ s
  refine wpAny_bind (wpAny_seqItems hS rfl ?_)
  show wpAny _ A.in1 (tryCatch (pyNext (.ref I)) _ >>= _) _ _ s
  refine wpAny_bind (wpAny_tryCatch (W.done s _ _ (hin ▸ hst) fun h' tk hk' => ?_))
  have hS' := hk' S _ hSw hS
  show wpAny _ A.in1 (updateSeq S (fun _ => #[]) >>= _) _ _ _
  refine wpAny_bind ?_
  refine wpAny_updateSeq hS' rfl (wpAny_bind (wpAny_letGo (wpAny_pure ?_)))
  exact hR vb _ tk (by rw [<- hin]; exact hPb) fun b o hbw hbS e => (Heap.get?_update_other _ _ (Ne.symm hbS)).trans (hk' b o hbw e)
 | succ k ih =>
  intro j s vb c hk hj hst hPb hS hR
  have hlt : j + 1 < n := by omega
  refine codeAny_builtin F.entry_max_loop ?_
  rw [Around.under_plainId F.plain_max_loop _]
  show wpAny _ A.in1 (seqItems? (.ref S) >>= _) _ _ s
  refine wpAny_bind (wpAny_seqItems hS rfl ?_)
  show wpAny _ A.in1 (tryCatch (pyNext (.ref I)) _ >>= _) _ _ s
  refine wpAny_bind (wpAny_tryCatch (W.item (j + 1) s _ _ hlt hst fun v h' tk hP hst' hk' => ?_))
  have hS' := hk' S _ hSw hS
  show wpAny _ A.in1 (tryCatch (holding [v, v] (richCompare .Gt v vb >>= _)) _ >>= _) _ _ _
  refine wpAny_bind (wpAny_tryCatch (wpAny_holding (wpAny_bind (hcmp (j + 1) (argBest bt j) v vb _ _ _ hP hPb ?_))))
  refine wpAny_bind (wpAny_holding (wpAny_truthy_bool ?_))
  refine wpAny_bind (wpAny_letGo (wpAny_pure ?_))
  cases hb : bt (j + 1) (argBest bt j) with
  | true =>
   simp only [if_true]
   refine wpAny_bind ?_
   refine wpAny_updateSeq hS' rfl (wpAny_bind (wpAny_letGo ?_))
   rw [hname]
   refine wpAny_pure ⟨plainId_quiet F.plain_max_loop _, ih (j + 1) _ v _ (by omega) hlt (W.frame _ _ _ hst' fun b hbf o e => ?_) (by simp only [argBest, hb, if_true]; exact hP) (Heap.get?_update_self _ hS' rfl)
    fun v' h'' tk'' hP' hk'' => ?_⟩
   ·exact (Heap.get?_update_other _ _ (fun h : S = b => hSf (by rw [h]; exact hbf))).trans e
   ·exact hR v' h'' tk'' hP' fun b o hbw hbS e => hk'' b o hbw hbS ((Heap.get?_update_other _ _ (Ne.symm hbS)).trans (hk' b o hbw e))
  | false =>
   simp only [Bool.false_eq_true, if_false]
   refine wpAny_bind (wpAny_letGo ?_)
   rw [hname]
   refine wpAny_pure ⟨plainId_quiet F.plain_max_loop _, ih (j + 1) _ vb c (by omega) hlt hst' (by simp only [argBest, hb, Bool.false_eq_true, if_false]; exact hPb) hS' fun v' h'' tk'' hP' hk'' => ?_⟩
   exact hR v' h'' tk'' hP' fun b o hbw hbS e => hk'' b o hbw hbS (hk' b o hbw e)
theorem max_firstD (W : Walks prog w A.in1 I fp wr n P St) (bt : Nat -> Nat -> Bool) (hcmp : CmpOf prog w A.in1 .Gt P bt) (S : Addr) (hSf : S ∉ fp) {s : Shared} {c : Nat} (hst : St 0 s.heap)
  (hS : s.heap.get? S = some { cls := .type "list", dict := none, data := .seq #[] c, slots := #[] })
  (hR0 : n = 0 -> ∀ h' tk, (∀ b o, b ∉ wr -> b ≠ S -> s.heap.get? b = some o -> h'.get? b = some o) -> R (.ok (.ret d)) { s with heap := h', toks := tk })
  (hR : 0 < n -> ∀ v h' tk, P (argBest bt (n - 1)) v -> (∀ b o, b ∉ wr -> b ≠ S -> s.heap.get? b = some o -> h'.get? b = some o) -> R (.ok (.ret v)) { s with heap := h', toks := tk }) :
  codeAny (model prog w) A (.builtin "max.loop" ⟨[.ref I, .none, .ref S], [(kn, d)]⟩) R s := by
 have hSw : S ∉ wr := fun h => hSf (W.sub _ h)
 have hname : (toString "max" ++ toString ".loop" : String) = "max.loop" := by decide
 refine codeAny_builtin F.entry_max_loop ?_
 rw [Around.under_plainId F.plain_max_loop _]
 show wpAny _ A.in1 (seqItems? (.ref S) >>= _) _ _ s
 refine wpAny_bind (wpAny_seqItems hS rfl ?_)
 show wpAny _ A.in1 (tryCatch (pyNext (.ref I)) _ >>= _) _ _ s
 rcases Nat.eq_zero_or_pos n with hn | hn
 ·refine wpAny_bind (wpAny_tryCatch (W.done s _ _ (hn ▸ hst) fun h' tk hk' => ?_))
  refine wpAny_bind (wpAny_rule (wpAny_pure ?_))
  exact hR0 hn h' tk fun b o hbw _ e => hk' b o hbw e
 ·refine wpAny_bind (wpAny_tryCatch (W.item 0 s _ _ hn hst fun v h' tk hP hst' hk' => ?_))
  have hS' := hk' S _ hSw hS
  show wpAny _ A.in1 (updateSeq S (fun _ => #[v, v]) >>= _) _ _ _
  refine wpAny_bind ?_
  refine wpAny_updateSeq hS' rfl ?_
  rw [hname]
  refine wpAny_pure ⟨plainId_quiet F.plain_max_loop _, max_loopD W bt hcmp S hSf _ 0 _ v _ rfl hn (W.frame _ _ _ hst' fun b hbf o e => ?_) hP (Heap.get?_update_self _ hS' rfl) fun v' h'' tk'' hP' hk'' => ?_⟩
  ·exact (Heap.get?_update_other _ _ (fun h : S = b => hSf (by rw [h]; exact hbf))).trans e
  ·exact hR hn v' h'' tk'' hP' fun b o hbw hbS e => hk'' b o hbw hbS ((Heap.get?_update_other _ _ (Ne.symm hbS)).trans (hk' b o hbw e))
end
theorem args_maxD (a v : Value) : argsOk "max" ⟨[a], [(Str.ofString "default", v)]⟩ := by unfold argsOk; kernel_rfl
section
variable {prog : Program} {w : World} {A : Around} {E : Value -> Shared -> Prop} {s : Shared}
theorem call_maxD {x d : Value} {Q : Value -> Shared -> Prop}
  (h : wpAny (model prog w) A.in1 (pyIter x) (fun it s₂ => ∃ I fp wr n P St bt, it = .ref I /\ Walks prog w A.in1 I fp wr n P St /\ St 0 s₂.heap /\ (∀ b ∈ fp, b < s₂.heap.objs.size) /\ CmpOf prog w A.in1 .Gt P bt /\
   (n = 0 -> ∀ h' tk, (∀ b o, b ∉ wr -> s₂.heap.get? b = some o -> h'.get? b = some o) -> Q d { s₂ with heap := h', toks := tk }) /\
   (0 < n -> ∀ v h' tk, P (argBest bt (n - 1)) v -> (∀ b o, b ∉ wr -> s₂.heap.get? b = some o -> h'.get? b = some o) -> Q v { s₂ with heap := h', toks := tk })) E s) :
  wpAny (model prog w) A (call (.builtin "max") [x] [(Str.ofString "default", d)]) Q E s := by
 have hname : (toString "max" ++ toString ".loop" : String) = "max.loop" := by decide
 refine wpAny_call (codeAny_call_builtin F.plain_max F.entry_max ?_)
 have body : wpAny (model prog w) A.in1 (Builtin.«max» ⟨[x], [(Str.ofString "default", d)]⟩) (fun fin s' => match fin with
   | .done f => (match (Except.ok f : Result) with | .ok (.ret v) => Q v s' | .ok _ => False | .error e => E e s')
   | .again c' => c'.quiet = true /\ codeAny (model prog w) A c' (fun r s' => match r with | .ok (.ret v) => Q v s' | .ok _ => False | .error e => E e s') s') E s := by
  show wpAny _ A.in1 (Builtin.Builtins.bindParams "max" ["key", "default"] 0 ⟨[], [(Str.ofString "default", d)]⟩ >>= _) _ _ s
  refine wpAny_bind (wpAny_of_eq (show Builtin.Builtins.bindParams "max" ["key", "default"] 0 ⟨[], [(Str.ofString "default", d)]⟩ = pure [none, some d] from by kernel_rfl) ?_)
  refine wpAny_bind (wpAny_pure ?_)
  refine wpAny_bind (wpAny_mono h (fun it s₂ h₂ => ?_) fun _ _ e => e)
  obtain ⟨I, fp, wr, n, P, St, bt, rfl, W, hst, hfp, hcmp, hQ0, hQ⟩ := h₂
  refine wpAny_bind (wpAny_newObj_type ?_)
  have hSf : s₂.heap.objs.size ∉ fp := fun hm => Nat.lt_irrefl _ (hfp _ hm)
  rw [hname]
  refine wpAny_pure ⟨plainId_quiet F.plain_max_loop _, max_firstD W bt hcmp s₂.heap.objs.size hSf (W.frame _ _ _ hst fun b _ o e => Heap.get?_push_of_some _ e) (Heap.get?_push_size _ rfl) (fun hn h' tk hk => ?_) fun hn v h' tk hP hk => ?_⟩
  ·exact hQ0 hn h' tk fun b o hbw e => hk b o hbw (Nat.ne_of_lt (Heap.lt_size e)) (Heap.get?_push_of_some _ e)
  ·exact hQ hn v h' tk hP fun b o hbw e => hk b o hbw (Nat.ne_of_lt (Heap.lt_size e)) (Heap.get?_push_of_some _ e)
 simp only [checkBuiltinCall, F.kind_max]
 cases hsig : Manifest.signature? "max" with
 | none => exact wpAny_pure body
 | some sig =>
  have ha' : Bind.checkArgs "max" sig ⟨[x], [(Str.ofString "default", d)]⟩ = pure () := by simpa only [argsOk, hsig] using args_maxD x d
  simp only [ha']
  exact wpAny_pure body
end
end Xc
namespace L2
open PySem PySem.Spec PyProof.Rows
section
variable {X : Cx} {K : PySem.W.Frag} {te td : TE} {e dx : Expr}
def tMaxD (K : PySem.W.Frag) (te td : TE) : TE := fun σ H Q => te σ H fun v H1 => td σ H1 fun u H2 => ∃ (l : Addr) (ns : List Int) (z : Int), v = .ref l /\ u = .int z /\ SqL K H2 l (ns.map V.int) /\ (ns = [] -> Q (.int z) H2) /\ ∀ m, m ∈ ns -> (∀ y ∈ ns, y <= m) -> Q (.int m) H2
theorem pe_maxD {p cpos kp : Pos} (hK : X.K = K) (hc : X.calm = true) (hg : Gl X "max") (hm : X.mg "max" = none) (he : PE X e te) (hd : PE X dx td)
  (hst : starEach [e] X.env = (false, eval e X.env) :: starEach [] X.env := by rfl) :
  PE X (.Call (.Name "max" p) [e] [⟨some "default", dx, kp⟩] cpos) (tMaxD K te td) := by
 subst hK
 intro pins s σ H Q I h
 refine wpAny_Call_Name_kw (ld_blt I hg hm (u := .builtin "max") (by decide +kernel) ?_)
 have pa : PA X [e] (tCons te tNil) := pa_cons he pa_nil hst
 have hbt : backTo cpos (starEach [e] X.env) = (false, eval e X.env) :: backTo cpos (starEach [] X.env) := by rw [hst]; rfl
 refine callWith_kw (thn (pa cpos pins s σ H (fun vs H1 => match vs with | [v] => td σ H1 fun u H2 => ∃ (l : Addr) (ns : List Int) (z : Int), v = .ref l /\ u = .int z /\ SqL X.K H2 l (ns.map V.int) /\ (ns = [] -> Q (.int z) H2) /\ ∀ m, m ∈ ns -> (∀ y ∈ ns, y <= m) -> Q (.int m) H2 | _ => False) I h) fun us s1 ⟨vs, H1, I1, r1, q1⟩ => ?_) hbt (by rw [hst]; rfl)
 match vs, us, r1, q1 with
 | [_], _, .cons rr .nil, q1 =>
  show wpAny _ _ (evalAll [do let v <- eval dx X.env; standAt cpos; pure v]) _ _ s1
  refine wpAny_evalAll_cons (wpAny_bind (thn (hd pins s1 σ H1 _ I1 q1) fun u s2 ⟨z', H2, I2, rz, l, ns, z, ev, eu, hq, q0, qm⟩ => wpAny_bind (wpAny_standAt (wpAny_pure (wpAny_evalAll_nil ?_)))))
  subst ev eu
  cases (show _ = Value.ref l from rr)
  obtain ⟨t, rfl⟩ := rz
  show wpAny _ _ (call (.builtin "max") [.ref l] [(Str.ofString "default", .int z t)]) _ _ s2
  obtain ⟨its, rv, pl, hz⟩ := I2.list hq
  have hlen : its.toArray.size = ns.length := by rw [List.size_toArray, <- rv.length, List.length_map]
  have hitem : ∀ (i : Nat) (v : Value), its.toArray[i]? = some v -> ∃ t, v = .int (ns.getD i 0) t := fun i v e => by
   rw [List.getElem?_toArray] at e
   have hi : i < its.length := (List.getElem?_eq_some_iff.mp e).1
   have hb : i < ns.length := by rw [<- hlen, List.size_toArray]; exact hi
   obtain ⟨u, hu, ru⟩ := rv.get (i := i) (x := .int ns[i]) (by rw [List.getElem?_map, List.getElem?_eq_getElem hb]; rfl)
   rw [e] at hu
   cases hu
   rw [List.getD_eq_getElem?_getD, List.getElem?_eq_getElem hb]
   exact ru
  refine Xc.call_maxD (wpAny_pyIter_list pl.isList ?_)
  have lp : l < s2.heap.objs.size := by obtain ⟨_, o, _⟩ := pl.isList; exact Heap.lt_size o
  have W := Walks.list (prog := X.prog) (w := X.w) (A := X.A.in1) (I.ok.hd hc) s2.heap.objs.size l (Nat.ne_of_lt lp) its.toArray
  have kept : ∀ (h' : Heap) (tk : Nat), (∀ b o, b ∉ [s2.heap.objs.size] -> (s2.heap.push { cls := .type "list_iterator", data := .fields #[.ref l, rawInt 0] }).get? b = some o -> h'.get? b = some o) -> Inv X pins σ H2 { s2 with heap := h', toks := tk } := fun h' tk hk => I2.kept fun b o e => hk b o (fun z => by
   have : b = s2.heap.objs.size := by simpa using z
   exact absurd (Heap.lt_size e) (by rw [this]; exact Nat.lt_irrefl _)) (Heap.get?_push_of_some _ e)
  refine ⟨_, _, _, _, _, _, _, rfl, W, ⟨⟨_, Heap.get?_push_size _ rfl, rfl, rfl⟩, pl.isList.push _⟩, fun b hb => ?_, CmpOf.ints_gt (fun i => ns.getD i 0) hitem, fun hn h' tk hk => ?_, fun hn v h' tk hP hk => ?_⟩
  ·rw [Heap.size_push]
   simp only [List.mem_cons, List.mem_nil_iff, or_false] at hb
   rcases hb with rfl | rfl
   ·exact Nat.lt_succ_self _
   ·exact Nat.lt_succ_of_lt lp
  ·rw [hlen] at hn
   exact ⟨.int z, H2, kept h' tk hk, ⟨t, rfl⟩, q0 (List.length_eq_zero_iff.mp hn)⟩
  ·obtain ⟨t', rfl⟩ := hitem _ v hP
   have hb := argBest_gt (fun i => ns.getD i 0) (its.toArray.size - 1)
   rw [hlen] at hn
   have get : ∀ j, j < ns.length -> ns.getD j 0 = ns[j]! := fun j hj => by simp [List.getD_eq_getElem?_getD, hj]
   generalize hja : argBest (fun i j => decide (ns.getD i 0 > ns.getD j 0)) (its.toArray.size - 1) = ja at hb ⊢
   rw [hlen] at hb
   have hj : ja < ns.length := by omega
   refine ⟨.int (ns.getD ja 0), H2, kept h' tk hk, ⟨t', rfl⟩, qm _ ?_ fun y hy => ?_⟩
   ·rw [List.getD_eq_getElem?_getD, List.getElem?_eq_getElem hj]
    exact List.getElem_mem hj
   ·obtain ⟨i, hi, rfl⟩ := List.getElem_of_mem hy
    have := hb.2 i (by omega)
    rw [List.getD_eq_getElem?_getD, List.getElem?_eq_getElem hi] at this
    exact this
end
end L2
namespace My
open PySem L2
def top (i : Nat) : Stmt := PySem.Challenge.pw_sidings_k05_whole_fewest.main.body.getD i (.Pass ⟨0, 0, 0, 0⟩)
abbrev s__wall : Stmt := top 0
abbrev s_Stuck_init : Stmt := inClass (top 5) 0
abbrev s_is_number : Stmt := top 8
abbrev s_checked_train : Stmt := top 9
abbrev s_has_two_alike : Stmt := top 10
abbrev s_checked_moves : Stmt := top 11
abbrev s_checked_move : Stmt := top 12
abbrev s_checked_word : Stmt := top 13
abbrev s_checked_track : Stmt := top 14
abbrev s_Track_init : Stmt := inClass (top 16) 0
abbrev s_Track_is_empty : Stmt := inClass (top 16) 1
abbrev s_Track_let_in : Stmt := inClass (top 16) 2
abbrev s_Track_let_out : Stmt := inClass (top 16) 3
abbrev s_Track_standing : Stmt := inClass (top 16) 4
abbrev s_Yard_init : Stmt := inClass (top 17) 0
abbrev s_Yard_carry_out : Stmt := inClass (top 17) 1
abbrev s_Yard_carry_in : Stmt := inClass (top 17) 2
abbrev s_Yard_carry_away : Stmt := inClass (top 17) 3
abbrev s_Yard_standing_on : Stmt := inClass (top 17) 4
abbrev s_places_in_order : Stmt := top 18
abbrev s_leave_so : Stmt := top 20
abbrev s_are_places : Stmt := top 21
abbrev s_are_rising_places : Stmt := top 22
abbrev s_are_falling_wagons : Stmt := top 23
abbrev s_is_shown : Stmt := top 24
abbrev s_Shunted_init : Stmt := inClass (top 26) 0
abbrev s_Shunted_shows : Stmt := inClass (top 26) 1
abbrev s_Three_init : Stmt := inClass (top 27) 0
abbrev s_Three_shows : Stmt := inClass (top 27) 1
abbrev s_Odd_init : Stmt := inClass (top 28) 0
abbrev s_Odd_shows : Stmt := inClass (top 28) 1
abbrev s_Falling_init : Stmt := inClass (top 29) 0
abbrev s_Falling_shows : Stmt := inClass (top 29) 1
abbrev s_Fewest_init : Stmt := inClass (top 30) 0
abbrev s_Fewest_shows : Stmt := inClass (top 30) 1
abbrev s_Given_init : Stmt := inClass (top 31) 0
abbrev s_Given_shows : Stmt := inClass (top 31) 1
abbrev s_Thrice_init : Stmt := inClass (top 32) 0
abbrev s_Thrice_shows : Stmt := inClass (top 32) 1
abbrev s_fewest : Stmt := top 34
abbrev s_tracks_through : Stmt := top 35
abbrev s_first_of_a_lesser : Stmt := top 36
abbrev s_moves_through : Stmt := top 37
abbrev s_falling_to : Stmt := top 38
abbrev s__law_inserted : Stmt := top 40
abbrev s__law_made : Stmt := top 41
abbrev s__law_brought : Stmt := top 42
abbrev s__law_rising : Stmt := top 43
abbrev s__law_falling : Stmt := top 44
abbrev s__law_right : Stmt := top 45
abbrev s_law : Stmt := top 46
abbrev lp_places_in_order : Pos := ⟨114, 42, 114, 69⟩
abbrev lq_places_in_order : Str := (PyProof.Rows.envOfC "places_in_order" (defScope s_places_in_order) 0 0 .none).qual ++ "<lambda>"
def lams : List (Str × Pos × Str) := [("places_in_order", lp_places_in_order, lq_places_in_order)]
structure Adr where
 cYardError : Addr
 cBadTrain : Addr
 cBadMoves : Addr
 cStuck : Addr
 cTrack : Addr
 cYard : Addr
 cAnswer : Addr
 cShunted : Addr
 cThree : Addr
 cOdd : Addr
 cFalling : Addr
 cFewest : Addr
 cGiven : Addr
 cThrice : Addr
 gWORDS : Addr
 lc_places_in_order : Addr
 lt_places_in_order : Addr
structure Tx (K : PySem.W.Frag) (mg : Str -> Option Value) (Z : Adr) : Prop where
 n_all : mg "all" = none
 n_any : mg "any" = none
 n_bool : mg "bool" = none
 n_enumerate : mg "enumerate" = none
 n_int : mg "int" = none
 n_isinstance : mg "isinstance" = none
 n_len : mg "len" = none
 n_list : mg "list" = none
 n_max : mg "max" = none
 n_range : mg "range" = none
 n_reversed : mg "reversed" = none
 n_sorted : mg "sorted" = none
 n_str : mg "str" = none
 n_sum : mg "sum" = none
 n_tuple : mg "tuple" = none
 n_zip : mg "zip" = none
 is_number : FnT K mg "is_number" s_is_number ["value"]
 checked_train : FnT K mg "checked_train" s_checked_train ["train"]
 has_two_alike : FnT K mg "has_two_alike" s_has_two_alike ["wagons"]
 checked_moves : FnT K mg "checked_moves" s_checked_moves ["moves", "many"]
 checked_move : FnT K mg "checked_move" s_checked_move ["move", "many"]
 checked_word : FnT K mg "checked_word" s_checked_word ["word"]
 checked_track : FnT K mg "checked_track" s_checked_track ["track", "many"]
 lm_places_in_order : LmT K mg "places_in_order" s_places_in_order ["wagons"] Z.lc_places_in_order Z.lt_places_in_order
 lo_places_in_order : tabIn K "places_in_order" = some (Z.lc_places_in_order, Z.lt_places_in_order)
 leave_so : FnT K mg "leave_so" s_leave_so ["coming", "blind", "many", "moves", "wanted"]
 are_places : FnT K mg "are_places" s_are_places ["places", "train"]
 are_rising_places : FnT K mg "are_rising_places" s_are_rising_places ["places", "train"]
 are_falling_wagons : FnT K mg "are_falling_wagons" s_are_falling_wagons ["places", "train"]
 fewest : FnT K mg "fewest" s_fewest ["train"]
 tracks_through : FnT K mg "tracks_through" s_tracks_through ["wagons"]
 first_of_a_lesser : FnT K mg "first_of_a_lesser" s_first_of_a_lesser ["falling", "wagon"]
 moves_through : FnT K mg "moves_through" s_moves_through ["wagons", "tracks"]
 falling_to : FnT K mg "falling_to" s_falling_to ["tracks", "track"]
 _law_inserted : FnT K mg "_law_inserted" s__law_inserted ["_law_script"]
 _law_made : FnT K mg "_law_made" s__law_made ["_law_script", "_law_blind", "_law_many"]
 _law_brought : FnT K mg "_law_brought" s__law_brought ["_law_train", "_law_blind", "_law_many", "_law_moves"]
 _law_rising : FnT K mg "_law_rising" s__law_rising ["_law_places", "_law_many"]
 _law_falling : FnT K mg "_law_falling" s__law_falling ["_law_train", "_law_places"]
 _law_right : FnT K mg "_law_right" s__law_right ["_law_train", "_law_most"]
 c_YardError : mg "YardError" = some (.ref Z.cYardError)
 c_BadMoves : mg "BadMoves" = some (.ref Z.cBadMoves)
 c_Stuck : mg "Stuck" = some (.ref Z.cStuck)
 c_Track : mg "Track" = some (.ref Z.cTrack)
 k_Track : Cls K Z.cTrack
 a_Track_blind : NoAttr K Z.cTrack "blind"
 a_Track_came : NoAttr K Z.cTrack "came"
 a_Track_gone_ahead : NoAttr K Z.cTrack "gone_ahead"
 c_Yard : mg "Yard" = some (.ref Z.cYard)
 k_Yard : Cls K Z.cYard
 a_Yard_blind : NoAttr K Z.cYard "blind"
 a_Yard_come : NoAttr K Z.cYard "come"
 a_Yard_left : NoAttr K Z.cYard "left"
 a_Yard_tracks : NoAttr K Z.cYard "tracks"
 a_Yard_wagons : NoAttr K Z.cYard "wagons"
 c_Answer : mg "Answer" = some (.ref Z.cAnswer)
 c_Shunted : mg "Shunted" = some (.ref Z.cShunted)
 c_Three : mg "Three" = some (.ref Z.cThree)
 c_Odd : mg "Odd" = some (.ref Z.cOdd)
 c_Falling : mg "Falling" = some (.ref Z.cFalling)
 c_Fewest : mg "Fewest" = some (.ref Z.cFewest)
 k_Fewest : Cls K Z.cFewest
 y_Fewest : InsT K Z.cFewest
 a_Fewest_moves : NoAttr K Z.cFewest "moves"
 a_Fewest_places : NoAttr K Z.cFewest "places"
 c_Given : mg "Given" = some (.ref Z.cGiven)
 c_Thrice : mg "Thrice" = some (.ref Z.cThrice)
 x_Stuck : XiT K Z.cStuck "Stuck.__init__" s_Stuck_init ["self", "at"]
 i_Track : InT K Z.cTrack "Track.__init__" s_Track_init ["self", "blind"]
 m_Track_is_empty : MtT K Z.cTrack "is_empty" "Track.is_empty" s_Track_is_empty ["self"]
 m_Track_let_in : MtT K Z.cTrack "let_in" "Track.let_in" s_Track_let_in ["self", "wagon"]
 m_Track_let_out : MtT K Z.cTrack "let_out" "Track.let_out" s_Track_let_out ["self"]
 i_Yard : InT K Z.cYard "Yard.__init__" s_Yard_init ["self", "wagons", "blind"]
 m_Yard_carry_out : MtT K Z.cYard "carry_out" "Yard.carry_out" s_Yard_carry_out ["self", "steps"]
 m_Yard_carry_in : MtT K Z.cYard "carry_in" "Yard.carry_in" s_Yard_carry_in ["self", "at", "place"]
 m_Yard_carry_away : MtT K Z.cYard "carry_away" "Yard.carry_away" s_Yard_carry_away ["self", "at", "place"]
 i_Fewest : InT K Z.cFewest "Fewest.__init__" s_Fewest_init ["self", "moves", "places"]
 m_Fewest_shows : MtT K Z.cFewest "shows" "Fewest.shows" s_Fewest_shows ["self", "train"]
 kit_Fewest_Answer : kitOne K (.ref Z.cFewest) (.ref Z.cAnswer) = some true
 kit_Fewest_Shunted : kitOne K (.ref Z.cFewest) (.ref Z.cShunted) = some false
 kit_Fewest_Three : kitOne K (.ref Z.cFewest) (.ref Z.cThree) = some false
 kit_Fewest_Odd : kitOne K (.ref Z.cFewest) (.ref Z.cOdd) = some false
 kit_Fewest_Falling : kitOne K (.ref Z.cFewest) (.ref Z.cFalling) = some false
 kit_Fewest_Given : kitOne K (.ref Z.cFewest) (.ref Z.cGiven) = some false
 kit_Fewest_Thrice : kitOne K (.ref Z.cFewest) (.ref Z.cThrice) = some false
 xc_BadMoves : Xc.XC K Z.cBadMoves
 xty_BadMoves : PySem.W.typeIn K (.ref Z.cBadMoves) = some (.type "type")
 xc_Stuck : Xc.XC K Z.cStuck
 xty_Stuck : PySem.W.typeIn K (.ref Z.cStuck) = some (.type "type")
 x0_BadMoves : X0 K Z.cBadMoves
 mro_BadMoves_BadMoves : PySem.W.mroIn K Z.cBadMoves (.ref Z.cBadMoves) = some true
 xt_Stuck_at : PySem.W.takerIn K Z.cStuck "at" = some none
 mro_Stuck_BadMoves : PySem.W.mroIn K Z.cStuck (.ref Z.cBadMoves) = some false
 mro_Stuck_Stuck : PySem.W.mroIn K Z.cStuck (.ref Z.cStuck) = some true
 yb_YardError : BaseInit K Z.cYardError
 g_WORDS : mg "WORDS" = some (.ref Z.gWORDS) /\ ∀ H, SqT K H Z.gWORDS [.str "in", .str "out"]
end My
namespace My
open PySem L2
def sp_law (K : PySem.W.Frag) : Sp := fun vs H Q _ => ∃ (a : Addr) (ns : List Int), vs = [.ref a] /\ SqL K H a (ns.map V.int) /\ ns.length <= 63 /\ TabsIn K lams H /\ ∀ H', Q (.bl true) H'
abbrev OkL (l : PySem.W.OpenLaw) : Prop := ∀ {w : World} {K : PySem.W.Frag} {mg : Str -> Option Value} {base : Heap} {Z : Adr} {f : Addr} {fd : FuncData}, Tx K mg Z -> Fun K "law" "law" s_law f fd -> FnOk l.prog w K mg base CX0 11 f fd ["_law_script"] (sp_law K)
theorem all_mk {l : PySem.W.OpenLaw} {w : World} {K : PySem.W.Frag} {h : Heap} {mg : Str -> Option Value} {fa : Addr} (ok : OkL l) (X : K.In h) (G : h.Ns mainGlobals mg) (hfa : mg "law" = some (.ref fa))
  {f1 : Addr} {od1 an1 : Option Addr} {sl1 : Array (Option Value)} {oc1 kV1 dc1 pm1 cd1 ct1 : Value}
  {f2 : Addr} {od2 an2 : Option Addr} {sl2 : Array (Option Value)} {oc2 kV2 dc2 pm2 cd2 ct2 : Value}
  {f3 : Addr} {od3 an3 : Option Addr} {sl3 : Array (Option Value)} {oc3 kV3 dc3 pm3 cd3 ct3 : Value}
  {f4 : Addr} {od4 an4 : Option Addr} {sl4 : Array (Option Value)} {oc4 kV4 dc4 pm4 cd4 ct4 : Value}
  {f5 : Addr} {od5 an5 : Option Addr} {sl5 : Array (Option Value)} {oc5 kV5 dc5 pm5 cd5 ct5 : Value}
  {f6 : Addr} {od6 an6 : Option Addr} {sl6 : Array (Option Value)} {oc6 kV6 dc6 pm6 cd6 ct6 : Value}
  {f7 : Addr} {od7 an7 : Option Addr} {sl7 : Array (Option Value)} {oc7 kV7 dc7 pm7 cd7 ct7 : Value}
  {f8 : Addr} {od8 an8 : Option Addr} {sl8 : Array (Option Value)} {oc8 kV8 dc8 pm8 cd8 ct8 : Value}
  {Lc8 Lt8 : Addr}
  {f9 : Addr} {od9 an9 : Option Addr} {sl9 : Array (Option Value)} {oc9 kV9 dc9 pm9 cd9 ct9 : Value}
  {f10 : Addr} {od10 an10 : Option Addr} {sl10 : Array (Option Value)} {oc10 kV10 dc10 pm10 cd10 ct10 : Value}
  {f11 : Addr} {od11 an11 : Option Addr} {sl11 : Array (Option Value)} {oc11 kV11 dc11 pm11 cd11 ct11 : Value}
  {f12 : Addr} {od12 an12 : Option Addr} {sl12 : Array (Option Value)} {oc12 kV12 dc12 pm12 cd12 ct12 : Value}
  {f14 : Addr} {od14 an14 : Option Addr} {sl14 : Array (Option Value)} {oc14 kV14 dc14 pm14 cd14 ct14 : Value}
  {f15 : Addr} {od15 an15 : Option Addr} {sl15 : Array (Option Value)} {oc15 kV15 dc15 pm15 cd15 ct15 : Value}
  {f16 : Addr} {od16 an16 : Option Addr} {sl16 : Array (Option Value)} {oc16 kV16 dc16 pm16 cd16 ct16 : Value}
  {f17 : Addr} {od17 an17 : Option Addr} {sl17 : Array (Option Value)} {oc17 kV17 dc17 pm17 cd17 ct17 : Value}
  {f18 : Addr} {od18 an18 : Option Addr} {sl18 : Array (Option Value)} {oc18 kV18 dc18 pm18 cd18 ct18 : Value}
  {f19 : Addr} {od19 an19 : Option Addr} {sl19 : Array (Option Value)} {oc19 kV19 dc19 pm19 cd19 ct19 : Value}
  {f20 : Addr} {od20 an20 : Option Addr} {sl20 : Array (Option Value)} {oc20 kV20 dc20 pm20 cd20 ct20 : Value}
  {f21 : Addr} {od21 an21 : Option Addr} {sl21 : Array (Option Value)} {oc21 kV21 dc21 pm21 cd21 ct21 : Value}
  {f22 : Addr} {od22 an22 : Option Addr} {sl22 : Array (Option Value)} {oc22 kV22 dc22 pm22 cd22 ct22 : Value}
  {f23 : Addr} {od23 an23 : Option Addr} {sl23 : Array (Option Value)} {oc23 kV23 dc23 pm23 cd23 ct23 : Value}
  {f24 : Addr} {od24 an24 : Option Addr} {sl24 : Array (Option Value)} {oc24 kV24 dc24 pm24 cd24 ct24 : Value}
  {f25 : Addr} {od25 an25 : Option Addr} {sl25 : Array (Option Value)} {oc25 kV25 dc25 pm25 cd25 ct25 : Value}
  {CYardError : Addr}
  {CBadTrain : Addr}
  {CBadMoves : Addr}
  {CStuck : Addr}
  {CTrack : Addr}
  {CYard : Addr}
  {CAnswer : Addr}
  {CShunted : Addr}
  {CThree : Addr}
  {COdd : Addr}
  {CFalling : Addr}
  {CFewest : Addr}
  {CGiven : Addr}
  {CThrice : Addr}
  {fm0 : Addr} {odm0 anm0 : Option Addr} {slm0 : Array (Option Value)} {ocm0 kVm0 dcm0 pmm0 cdm0 ctm0 : Value}
  {fm1 : Addr} {odm1 anm1 : Option Addr} {slm1 : Array (Option Value)} {ocm1 kVm1 dcm1 pmm1 cdm1 ctm1 : Value}
  {fm2 : Addr} {odm2 anm2 : Option Addr} {slm2 : Array (Option Value)} {ocm2 kVm2 dcm2 pmm2 cdm2 ctm2 : Value}
  {fm3 : Addr} {odm3 anm3 : Option Addr} {slm3 : Array (Option Value)} {ocm3 kVm3 dcm3 pmm3 cdm3 ctm3 : Value}
  {fm4 : Addr} {odm4 anm4 : Option Addr} {slm4 : Array (Option Value)} {ocm4 kVm4 dcm4 pmm4 cdm4 ctm4 : Value}
  {fm6 : Addr} {odm6 anm6 : Option Addr} {slm6 : Array (Option Value)} {ocm6 kVm6 dcm6 pmm6 cdm6 ctm6 : Value}
  {fm7 : Addr} {odm7 anm7 : Option Addr} {slm7 : Array (Option Value)} {ocm7 kVm7 dcm7 pmm7 cdm7 ctm7 : Value}
  {fm8 : Addr} {odm8 anm8 : Option Addr} {slm8 : Array (Option Value)} {ocm8 kVm8 dcm8 pmm8 cdm8 ctm8 : Value}
  {fm9 : Addr} {odm9 anm9 : Option Addr} {slm9 : Array (Option Value)} {ocm9 kVm9 dcm9 pmm9 cdm9 ctm9 : Value}
  {fm19 : Addr} {odm19 anm19 : Option Addr} {slm19 : Array (Option Value)} {ocm19 kVm19 dcm19 pmm19 cdm19 ctm19 : Value}
  {fm20 : Addr} {odm20 anm20 : Option Addr} {slm20 : Array (Option Value)} {ocm20 kVm20 dcm20 pmm20 cdm20 ctm20 : Value}
  {GWORDS : Addr} {tWORDS0 tWORDS1 : Tok} {odWORDS : Option Addr} {nWORDS : Nat} {slWORDS : Array (Option Value)}
  (n_all : nsIn K mainGlobals "all" = some none)
  (n_any : nsIn K mainGlobals "any" = some none)
  (n_bool : nsIn K mainGlobals "bool" = some none)
  (n_enumerate : nsIn K mainGlobals "enumerate" = some none)
  (n_int : nsIn K mainGlobals "int" = some none)
  (n_isinstance : nsIn K mainGlobals "isinstance" = some none)
  (n_len : nsIn K mainGlobals "len" = some none)
  (n_list : nsIn K mainGlobals "list" = some none)
  (n_max : nsIn K mainGlobals "max" = some none)
  (n_range : nsIn K mainGlobals "range" = some none)
  (n_reversed : nsIn K mainGlobals "reversed" = some none)
  (n_sorted : nsIn K mainGlobals "sorted" = some none)
  (n_str : nsIn K mainGlobals "str" = some none)
  (n_sum : nsIn K mainGlobals "sum" = some none)
  (n_tuple : nsIn K mainGlobals "tuple" = some none)
  (n_zip : nsIn K mainGlobals "zip" = some none)
  (a1 : nsIn K mainGlobals "is_number" = some (some (.ref f1)))
  (l1 : K.lookup f1 = some ⟨oc1, od1, .func (fnOf "is_number" "is_number" (defArgs s_is_number) (defBody s_is_number) (defScope s_is_number) .none kV1 dc1 pm1 an1 cd1 ct1), sl1⟩)
  (c1 : codeIn K cd1 "is_number" = true)
  (k1 : keepIn K (.ref f1) = true)
  (a2 : nsIn K mainGlobals "checked_train" = some (some (.ref f2)))
  (l2 : K.lookup f2 = some ⟨oc2, od2, .func (fnOf "checked_train" "checked_train" (defArgs s_checked_train) (defBody s_checked_train) (defScope s_checked_train) .none kV2 dc2 pm2 an2 cd2 ct2), sl2⟩)
  (c2 : codeIn K cd2 "checked_train" = true)
  (k2 : keepIn K (.ref f2) = true)
  (a3 : nsIn K mainGlobals "has_two_alike" = some (some (.ref f3)))
  (l3 : K.lookup f3 = some ⟨oc3, od3, .func (fnOf "has_two_alike" "has_two_alike" (defArgs s_has_two_alike) (defBody s_has_two_alike) (defScope s_has_two_alike) .none kV3 dc3 pm3 an3 cd3 ct3), sl3⟩)
  (c3 : codeIn K cd3 "has_two_alike" = true)
  (k3 : keepIn K (.ref f3) = true)
  (a4 : nsIn K mainGlobals "checked_moves" = some (some (.ref f4)))
  (l4 : K.lookup f4 = some ⟨oc4, od4, .func (fnOf "checked_moves" "checked_moves" (defArgs s_checked_moves) (defBody s_checked_moves) (defScope s_checked_moves) .none kV4 dc4 pm4 an4 cd4 ct4), sl4⟩)
  (c4 : codeIn K cd4 "checked_moves" = true)
  (k4 : keepIn K (.ref f4) = true)
  (a5 : nsIn K mainGlobals "checked_move" = some (some (.ref f5)))
  (l5 : K.lookup f5 = some ⟨oc5, od5, .func (fnOf "checked_move" "checked_move" (defArgs s_checked_move) (defBody s_checked_move) (defScope s_checked_move) .none kV5 dc5 pm5 an5 cd5 ct5), sl5⟩)
  (c5 : codeIn K cd5 "checked_move" = true)
  (k5 : keepIn K (.ref f5) = true)
  (a6 : nsIn K mainGlobals "checked_word" = some (some (.ref f6)))
  (l6 : K.lookup f6 = some ⟨oc6, od6, .func (fnOf "checked_word" "checked_word" (defArgs s_checked_word) (defBody s_checked_word) (defScope s_checked_word) .none kV6 dc6 pm6 an6 cd6 ct6), sl6⟩)
  (c6 : codeIn K cd6 "checked_word" = true)
  (k6 : keepIn K (.ref f6) = true)
  (a7 : nsIn K mainGlobals "checked_track" = some (some (.ref f7)))
  (l7 : K.lookup f7 = some ⟨oc7, od7, .func (fnOf "checked_track" "checked_track" (defArgs s_checked_track) (defBody s_checked_track) (defScope s_checked_track) .none kV7 dc7 pm7 an7 cd7 ct7), sl7⟩)
  (c7 : codeIn K cd7 "checked_track" = true)
  (k7 : keepIn K (.ref f7) = true)
  (a8 : nsIn K mainGlobals "places_in_order" = some (some (.ref f8)))
  (l8 : K.lookup f8 = some ⟨oc8, od8, .func (fnOf "places_in_order" "places_in_order" (defArgs s_places_in_order) (defBody s_places_in_order) (defScope s_places_in_order) .none kV8 dc8 pm8 an8 cd8 ct8), sl8⟩)
  (c8 : codeIn K cd8 "places_in_order" = true)
  (k8 : keepIn K (.ref f8) = true)
  (lt8 : tabIn K "places_in_order" = some (Lc8, Lt8))
  (lc8 : cd8 = .ref Lc8)
  (lh8 : PySem.W.codeHdIn K Lc8 Lt8 = true)
  (a9 : nsIn K mainGlobals "leave_so" = some (some (.ref f9)))
  (l9 : K.lookup f9 = some ⟨oc9, od9, .func (fnOf "leave_so" "leave_so" (defArgs s_leave_so) (defBody s_leave_so) (defScope s_leave_so) .none kV9 dc9 pm9 an9 cd9 ct9), sl9⟩)
  (c9 : codeIn K cd9 "leave_so" = true)
  (k9 : keepIn K (.ref f9) = true)
  (a10 : nsIn K mainGlobals "are_places" = some (some (.ref f10)))
  (l10 : K.lookup f10 = some ⟨oc10, od10, .func (fnOf "are_places" "are_places" (defArgs s_are_places) (defBody s_are_places) (defScope s_are_places) .none kV10 dc10 pm10 an10 cd10 ct10), sl10⟩)
  (c10 : codeIn K cd10 "are_places" = true)
  (k10 : keepIn K (.ref f10) = true)
  (a11 : nsIn K mainGlobals "are_rising_places" = some (some (.ref f11)))
  (l11 : K.lookup f11 = some ⟨oc11, od11, .func (fnOf "are_rising_places" "are_rising_places" (defArgs s_are_rising_places) (defBody s_are_rising_places) (defScope s_are_rising_places) .none kV11 dc11 pm11 an11 cd11 ct11), sl11⟩)
  (c11 : codeIn K cd11 "are_rising_places" = true)
  (k11 : keepIn K (.ref f11) = true)
  (a12 : nsIn K mainGlobals "are_falling_wagons" = some (some (.ref f12)))
  (l12 : K.lookup f12 = some ⟨oc12, od12, .func (fnOf "are_falling_wagons" "are_falling_wagons" (defArgs s_are_falling_wagons) (defBody s_are_falling_wagons) (defScope s_are_falling_wagons) .none kV12 dc12 pm12 an12 cd12 ct12), sl12⟩)
  (c12 : codeIn K cd12 "are_falling_wagons" = true)
  (k12 : keepIn K (.ref f12) = true)
  (a14 : nsIn K mainGlobals "fewest" = some (some (.ref f14)))
  (l14 : K.lookup f14 = some ⟨oc14, od14, .func (fnOf "fewest" "fewest" (defArgs s_fewest) (defBody s_fewest) (defScope s_fewest) .none kV14 dc14 pm14 an14 cd14 ct14), sl14⟩)
  (c14 : codeIn K cd14 "fewest" = true)
  (k14 : keepIn K (.ref f14) = true)
  (a15 : nsIn K mainGlobals "tracks_through" = some (some (.ref f15)))
  (l15 : K.lookup f15 = some ⟨oc15, od15, .func (fnOf "tracks_through" "tracks_through" (defArgs s_tracks_through) (defBody s_tracks_through) (defScope s_tracks_through) .none kV15 dc15 pm15 an15 cd15 ct15), sl15⟩)
  (c15 : codeIn K cd15 "tracks_through" = true)
  (k15 : keepIn K (.ref f15) = true)
  (a16 : nsIn K mainGlobals "first_of_a_lesser" = some (some (.ref f16)))
  (l16 : K.lookup f16 = some ⟨oc16, od16, .func (fnOf "first_of_a_lesser" "first_of_a_lesser" (defArgs s_first_of_a_lesser) (defBody s_first_of_a_lesser) (defScope s_first_of_a_lesser) .none kV16 dc16 pm16 an16 cd16 ct16), sl16⟩)
  (c16 : codeIn K cd16 "first_of_a_lesser" = true)
  (k16 : keepIn K (.ref f16) = true)
  (a17 : nsIn K mainGlobals "moves_through" = some (some (.ref f17)))
  (l17 : K.lookup f17 = some ⟨oc17, od17, .func (fnOf "moves_through" "moves_through" (defArgs s_moves_through) (defBody s_moves_through) (defScope s_moves_through) .none kV17 dc17 pm17 an17 cd17 ct17), sl17⟩)
  (c17 : codeIn K cd17 "moves_through" = true)
  (k17 : keepIn K (.ref f17) = true)
  (a18 : nsIn K mainGlobals "falling_to" = some (some (.ref f18)))
  (l18 : K.lookup f18 = some ⟨oc18, od18, .func (fnOf "falling_to" "falling_to" (defArgs s_falling_to) (defBody s_falling_to) (defScope s_falling_to) .none kV18 dc18 pm18 an18 cd18 ct18), sl18⟩)
  (c18 : codeIn K cd18 "falling_to" = true)
  (k18 : keepIn K (.ref f18) = true)
  (a19 : nsIn K mainGlobals "_law_inserted" = some (some (.ref f19)))
  (l19 : K.lookup f19 = some ⟨oc19, od19, .func (fnOf "_law_inserted" "_law_inserted" (defArgs s__law_inserted) (defBody s__law_inserted) (defScope s__law_inserted) .none kV19 dc19 pm19 an19 cd19 ct19), sl19⟩)
  (c19 : codeIn K cd19 "_law_inserted" = true)
  (k19 : keepIn K (.ref f19) = true)
  (a20 : nsIn K mainGlobals "_law_made" = some (some (.ref f20)))
  (l20 : K.lookup f20 = some ⟨oc20, od20, .func (fnOf "_law_made" "_law_made" (defArgs s__law_made) (defBody s__law_made) (defScope s__law_made) .none kV20 dc20 pm20 an20 cd20 ct20), sl20⟩)
  (c20 : codeIn K cd20 "_law_made" = true)
  (k20 : keepIn K (.ref f20) = true)
  (a21 : nsIn K mainGlobals "_law_brought" = some (some (.ref f21)))
  (l21 : K.lookup f21 = some ⟨oc21, od21, .func (fnOf "_law_brought" "_law_brought" (defArgs s__law_brought) (defBody s__law_brought) (defScope s__law_brought) .none kV21 dc21 pm21 an21 cd21 ct21), sl21⟩)
  (c21 : codeIn K cd21 "_law_brought" = true)
  (k21 : keepIn K (.ref f21) = true)
  (a22 : nsIn K mainGlobals "_law_rising" = some (some (.ref f22)))
  (l22 : K.lookup f22 = some ⟨oc22, od22, .func (fnOf "_law_rising" "_law_rising" (defArgs s__law_rising) (defBody s__law_rising) (defScope s__law_rising) .none kV22 dc22 pm22 an22 cd22 ct22), sl22⟩)
  (c22 : codeIn K cd22 "_law_rising" = true)
  (k22 : keepIn K (.ref f22) = true)
  (a23 : nsIn K mainGlobals "_law_falling" = some (some (.ref f23)))
  (l23 : K.lookup f23 = some ⟨oc23, od23, .func (fnOf "_law_falling" "_law_falling" (defArgs s__law_falling) (defBody s__law_falling) (defScope s__law_falling) .none kV23 dc23 pm23 an23 cd23 ct23), sl23⟩)
  (c23 : codeIn K cd23 "_law_falling" = true)
  (k23 : keepIn K (.ref f23) = true)
  (a24 : nsIn K mainGlobals "_law_right" = some (some (.ref f24)))
  (l24 : K.lookup f24 = some ⟨oc24, od24, .func (fnOf "_law_right" "_law_right" (defArgs s__law_right) (defBody s__law_right) (defScope s__law_right) .none kV24 dc24 pm24 an24 cd24 ct24), sl24⟩)
  (c24 : codeIn K cd24 "_law_right" = true)
  (k24 : keepIn K (.ref f24) = true)
  (a25 : nsIn K mainGlobals "law" = some (some (.ref f25)))
  (l25 : K.lookup f25 = some ⟨oc25, od25, .func (fnOf "law" "law" (defArgs s_law) (defBody s_law) (defScope s_law) .none kV25 dc25 pm25 an25 cd25 ct25), sl25⟩)
  (c25 : codeIn K cd25 "law" = true)
  (k25 : keepIn K (.ref f25) = true)
  (aCYardError : nsIn K mainGlobals "YardError" = some (some (.ref CYardError)))
  (aCBadTrain : nsIn K mainGlobals "BadTrain" = some (some (.ref CBadTrain)))
  (aCBadMoves : nsIn K mainGlobals "BadMoves" = some (some (.ref CBadMoves)))
  (aCStuck : nsIn K mainGlobals "Stuck" = some (some (.ref CStuck)))
  (aCTrack : nsIn K mainGlobals "Track" = some (some (.ref CTrack)))
  (pgTrack : plainGet K CTrack Str.empty = true)
  (hdTrack : PySem.W.hasDictIn K CTrack = true)
  (poTrack : plainOver K CTrack = true)
  (saTrack : PySem.W.findIn K (.ref CTrack) "__setattr__" = some (some (.builtin "object.__setattr__")))
  (naTrack_blind : PySem.W.findIn K (.ref CTrack) "blind" = some none)
  (naTrack_came : PySem.W.findIn K (.ref CTrack) "came" = some none)
  (naTrack_gone_ahead : PySem.W.findIn K (.ref CTrack) "gone_ahead" = some none)
  (aCYard : nsIn K mainGlobals "Yard" = some (some (.ref CYard)))
  (pgYard : plainGet K CYard Str.empty = true)
  (hdYard : PySem.W.hasDictIn K CYard = true)
  (poYard : plainOver K CYard = true)
  (saYard : PySem.W.findIn K (.ref CYard) "__setattr__" = some (some (.builtin "object.__setattr__")))
  (naYard_blind : PySem.W.findIn K (.ref CYard) "blind" = some none)
  (naYard_come : PySem.W.findIn K (.ref CYard) "come" = some none)
  (naYard_left : PySem.W.findIn K (.ref CYard) "left" = some none)
  (naYard_tracks : PySem.W.findIn K (.ref CYard) "tracks" = some none)
  (naYard_wagons : PySem.W.findIn K (.ref CYard) "wagons" = some none)
  (aCAnswer : nsIn K mainGlobals "Answer" = some (some (.ref CAnswer)))
  (aCShunted : nsIn K mainGlobals "Shunted" = some (some (.ref CShunted)))
  (aCThree : nsIn K mainGlobals "Three" = some (some (.ref CThree)))
  (aCOdd : nsIn K mainGlobals "Odd" = some (some (.ref COdd)))
  (aCFalling : nsIn K mainGlobals "Falling" = some (some (.ref CFalling)))
  (aCFewest : nsIn K mainGlobals "Fewest" = some (some (.ref CFewest)))
  (pgFewest : plainGet K CFewest Str.empty = true)
  (hdFewest : PySem.W.hasDictIn K CFewest = true)
  (poFewest : plainOver K CFewest = true)
  (saFewest : PySem.W.findIn K (.ref CFewest) "__setattr__" = some (some (.builtin "object.__setattr__")))
  (yaFewest : PySem.W.findIn K (.ref CFewest) "__class__" = some (some (.builtin "object.__class__")))
  (ynFewest : PySem.W.specialIn K (.builtin "object.__class__") "__get__" = some (some (.builtin "getset_descriptor.__get__")))
  (ytFewest : PySem.W.takesIn K (.builtin "object.__class__") = some true)
  (ymFewest : PySem.W.mroIn K CFewest (.type "object") = some true)
  (naFewest_moves : PySem.W.findIn K (.ref CFewest) "moves" = some none)
  (naFewest_places : PySem.W.findIn K (.ref CFewest) "places" = some none)
  (aCGiven : nsIn K mainGlobals "Given" = some (some (.ref CGiven)))
  (aCThrice : nsIn K mainGlobals "Thrice" = some (some (.ref CThrice)))
  (am0 : PySem.W.findIn K (.ref CStuck) "__init__" = some (some (.ref fm0)))
  (lm0 : K.lookup fm0 = some ⟨ocm0, odm0, .func (fnOf "__init__" "Stuck.__init__" (defArgs s_Stuck_init) (defBody s_Stuck_init) (defScope s_Stuck_init) .none kVm0 dcm0 pmm0 anm0 cdm0 ctm0), slm0⟩)
  (cm0 : codeIn K cdm0 "Stuck.__init__" = true)
  (km0 : keepIn K (.ref fm0) = true)
  (xim0 : xIn K CStuck = true)
  (xnm0 : ((PySem.W.clsIn K CStuck).bind fun cd => nsIn K cd.ns "__init__") = some (some (.ref fm0)))
  (xfm0 : isFn K (.ref fm0) = true)
  (xkm0 : keepIn K (.ref CStuck) = true)
  (am1 : PySem.W.findIn K (.ref CTrack) "__init__" = some (some (.ref fm1)))
  (lm1 : K.lookup fm1 = some ⟨ocm1, odm1, .func (fnOf "__init__" "Track.__init__" (defArgs s_Track_init) (defBody s_Track_init) (defScope s_Track_init) .none kVm1 dcm1 pmm1 anm1 cdm1 ctm1), slm1⟩)
  (cm1 : codeIn K cdm1 "Track.__init__" = true)
  (km1 : keepIn K (.ref fm1) = true)
  (mkm1 : makesIn K CTrack = true)
  (ifm1 : isFn K (.ref fm1) = true)
  (ikm1 : keepIn K (.ref CTrack) = true)
  (am2 : PySem.W.findIn K (.ref CTrack) "is_empty" = some (some (.ref fm2)))
  (lm2 : K.lookup fm2 = some ⟨ocm2, odm2, .func (fnOf "is_empty" "Track.is_empty" (defArgs s_Track_is_empty) (defBody s_Track_is_empty) (defScope s_Track_is_empty) .none kVm2 dcm2 pmm2 anm2 cdm2 ctm2), slm2⟩)
  (cm2 : codeIn K cdm2 "Track.is_empty" = true)
  (km2 : keepIn K (.ref fm2) = true)
  (mfm2 : isFn K (.ref fm2) = true)
  (am3 : PySem.W.findIn K (.ref CTrack) "let_in" = some (some (.ref fm3)))
  (lm3 : K.lookup fm3 = some ⟨ocm3, odm3, .func (fnOf "let_in" "Track.let_in" (defArgs s_Track_let_in) (defBody s_Track_let_in) (defScope s_Track_let_in) .none kVm3 dcm3 pmm3 anm3 cdm3 ctm3), slm3⟩)
  (cm3 : codeIn K cdm3 "Track.let_in" = true)
  (km3 : keepIn K (.ref fm3) = true)
  (mfm3 : isFn K (.ref fm3) = true)
  (am4 : PySem.W.findIn K (.ref CTrack) "let_out" = some (some (.ref fm4)))
  (lm4 : K.lookup fm4 = some ⟨ocm4, odm4, .func (fnOf "let_out" "Track.let_out" (defArgs s_Track_let_out) (defBody s_Track_let_out) (defScope s_Track_let_out) .none kVm4 dcm4 pmm4 anm4 cdm4 ctm4), slm4⟩)
  (cm4 : codeIn K cdm4 "Track.let_out" = true)
  (km4 : keepIn K (.ref fm4) = true)
  (mfm4 : isFn K (.ref fm4) = true)
  (am6 : PySem.W.findIn K (.ref CYard) "__init__" = some (some (.ref fm6)))
  (lm6 : K.lookup fm6 = some ⟨ocm6, odm6, .func (fnOf "__init__" "Yard.__init__" (defArgs s_Yard_init) (defBody s_Yard_init) (defScope s_Yard_init) .none kVm6 dcm6 pmm6 anm6 cdm6 ctm6), slm6⟩)
  (cm6 : codeIn K cdm6 "Yard.__init__" = true)
  (km6 : keepIn K (.ref fm6) = true)
  (mkm6 : makesIn K CYard = true)
  (ifm6 : isFn K (.ref fm6) = true)
  (ikm6 : keepIn K (.ref CYard) = true)
  (am7 : PySem.W.findIn K (.ref CYard) "carry_out" = some (some (.ref fm7)))
  (lm7 : K.lookup fm7 = some ⟨ocm7, odm7, .func (fnOf "carry_out" "Yard.carry_out" (defArgs s_Yard_carry_out) (defBody s_Yard_carry_out) (defScope s_Yard_carry_out) .none kVm7 dcm7 pmm7 anm7 cdm7 ctm7), slm7⟩)
  (cm7 : codeIn K cdm7 "Yard.carry_out" = true)
  (km7 : keepIn K (.ref fm7) = true)
  (mfm7 : isFn K (.ref fm7) = true)
  (am8 : PySem.W.findIn K (.ref CYard) "carry_in" = some (some (.ref fm8)))
  (lm8 : K.lookup fm8 = some ⟨ocm8, odm8, .func (fnOf "carry_in" "Yard.carry_in" (defArgs s_Yard_carry_in) (defBody s_Yard_carry_in) (defScope s_Yard_carry_in) .none kVm8 dcm8 pmm8 anm8 cdm8 ctm8), slm8⟩)
  (cm8 : codeIn K cdm8 "Yard.carry_in" = true)
  (km8 : keepIn K (.ref fm8) = true)
  (mfm8 : isFn K (.ref fm8) = true)
  (am9 : PySem.W.findIn K (.ref CYard) "carry_away" = some (some (.ref fm9)))
  (lm9 : K.lookup fm9 = some ⟨ocm9, odm9, .func (fnOf "carry_away" "Yard.carry_away" (defArgs s_Yard_carry_away) (defBody s_Yard_carry_away) (defScope s_Yard_carry_away) .none kVm9 dcm9 pmm9 anm9 cdm9 ctm9), slm9⟩)
  (cm9 : codeIn K cdm9 "Yard.carry_away" = true)
  (km9 : keepIn K (.ref fm9) = true)
  (mfm9 : isFn K (.ref fm9) = true)
  (am19 : PySem.W.findIn K (.ref CFewest) "__init__" = some (some (.ref fm19)))
  (lm19 : K.lookup fm19 = some ⟨ocm19, odm19, .func (fnOf "__init__" "Fewest.__init__" (defArgs s_Fewest_init) (defBody s_Fewest_init) (defScope s_Fewest_init) .none kVm19 dcm19 pmm19 anm19 cdm19 ctm19), slm19⟩)
  (cm19 : codeIn K cdm19 "Fewest.__init__" = true)
  (km19 : keepIn K (.ref fm19) = true)
  (mkm19 : makesIn K CFewest = true)
  (ifm19 : isFn K (.ref fm19) = true)
  (ikm19 : keepIn K (.ref CFewest) = true)
  (am20 : PySem.W.findIn K (.ref CFewest) "shows" = some (some (.ref fm20)))
  (lm20 : K.lookup fm20 = some ⟨ocm20, odm20, .func (fnOf "shows" "Fewest.shows" (defArgs s_Fewest_shows) (defBody s_Fewest_shows) (defScope s_Fewest_shows) .none kVm20 dcm20 pmm20 anm20 cdm20 ctm20), slm20⟩)
  (cm20 : codeIn K cdm20 "Fewest.shows" = true)
  (km20 : keepIn K (.ref fm20) = true)
  (mfm20 : isFn K (.ref fm20) = true)
  (kitFewest_Answer : kitOne K (.ref CFewest) (.ref CAnswer) = some true)
  (kitFewest_Shunted : kitOne K (.ref CFewest) (.ref CShunted) = some false)
  (kitFewest_Three : kitOne K (.ref CFewest) (.ref CThree) = some false)
  (kitFewest_Odd : kitOne K (.ref CFewest) (.ref COdd) = some false)
  (kitFewest_Falling : kitOne K (.ref CFewest) (.ref CFalling) = some false)
  (kitFewest_Given : kitOne K (.ref CFewest) (.ref CGiven) = some false)
  (kitFewest_Thrice : kitOne K (.ref CFewest) (.ref CThrice) = some false)
  (xcmBadMoves : (PySem.W.clsIn K CBadMoves).any (fun cd => Xc.overVE cd.mro) = true)
  (xchBadMoves : PySem.W.hasDictIn K CBadMoves = true)
  (xcgBadMoves : PySem.W.findIn K (.ref CBadMoves) "__getattribute__" = some (some (.builtin "BaseException.__getattribute__")))
  (xcyBadMoves : PySem.W.findIn K (.ref CBadMoves) "__getattr__" = some none)
  (xcsBadMoves : PySem.W.findIn K (.ref CBadMoves) "__setattr__" = some (some (.builtin "object.__setattr__")))
  (xcaBadMoves : PySem.W.findIn K (.ref CBadMoves) "__class__" = some (some (.builtin "object.__class__")))
  (xcdBadMoves : PySem.W.specialIn K (.builtin "object.__class__") "__get__" = some (some (.builtin "getset_descriptor.__get__")))
  (xctBadMoves : PySem.W.takesIn K (.builtin "object.__class__") = some true)
  (xtyBadMoves : PySem.W.typeIn K (.ref CBadMoves) = some (.type "type"))
  (xcmStuck : (PySem.W.clsIn K CStuck).any (fun cd => Xc.overVE cd.mro) = true)
  (xchStuck : PySem.W.hasDictIn K CStuck = true)
  (xcgStuck : PySem.W.findIn K (.ref CStuck) "__getattribute__" = some (some (.builtin "BaseException.__getattribute__")))
  (xcyStuck : PySem.W.findIn K (.ref CStuck) "__getattr__" = some none)
  (xcsStuck : PySem.W.findIn K (.ref CStuck) "__setattr__" = some (some (.builtin "object.__setattr__")))
  (xcaStuck : PySem.W.findIn K (.ref CStuck) "__class__" = some (some (.builtin "object.__class__")))
  (xcdStuck : PySem.W.specialIn K (.builtin "object.__class__") "__get__" = some (some (.builtin "getset_descriptor.__get__")))
  (xctStuck : PySem.W.takesIn K (.builtin "object.__class__") = some true)
  (xtyStuck : PySem.W.typeIn K (.ref CStuck) = some (.type "type"))
  (x0xBadMoves : xIn K CBadMoves = true)
  (x0nBadMoves : ((PySem.W.clsIn K CBadMoves).bind fun cd => nsIn K cd.ns "__init__") = some none)
  (x0kBadMoves : keepIn K (.ref CBadMoves) = true)
  (mroBadMoves_BadMoves : PySem.W.mroIn K CBadMoves (.ref CBadMoves) = some true)
  (xtStuck_at : PySem.W.takerIn K CStuck "at" = some none)
  (mroStuck_BadMoves : PySem.W.mroIn K CStuck (.ref CBadMoves) = some false)
  (mroStuck_Stuck : PySem.W.mroIn K CStuck (.ref CStuck) = some true)
  (yb1YardError : PySem.W.specialIn K (.ref CYardError) "__getattribute__" = some (some (.builtin "type.__getattribute__")))
  (yb2YardError : PySem.W.readsIn K CYardError (.type "type") = true)
  (yb3YardError : PySem.W.findCls K (.ref CYardError) (.type "type") "__init__" = some (.val (.builtin "ValueError.__init__")))
  (gWORDS : nsIn K mainGlobals "WORDS" = some (some (.ref GWORDS)))
  (glWORDS : K.lookup GWORDS = some ⟨.type "tuple", odWORDS, .seq #[.str "in" tWORDS0, .str "out" tWORDS1] nWORDS, slWORDS⟩)
  : ∃ fd : FuncData, (∀ (s : Shared) (v : Value), BindsTo s fd ⟨[v], []⟩ [("_law_script", v)]) /\ ∀ base : Heap, K.In base -> base.Ns mainGlobals mg -> FnOk l.prog w K mg base CX0 11 fa fd ["_law_script"] (sp_law K) := by
 have e := hfa.symm.trans (mg_of X G a25)
 cases e
 have F1 := fun_mk (st := s_is_number) l1 c1 k1
 have b1 := F1.binds (ps := ["value"]) fun _ _ _ _ _ _ us hl => match us, hl with | [_], _ => rfl
 have F2 := fun_mk (st := s_checked_train) l2 c2 k2
 have b2 := F2.binds (ps := ["train"]) fun _ _ _ _ _ _ us hl => match us, hl with | [_], _ => rfl
 have F3 := fun_mk (st := s_has_two_alike) l3 c3 k3
 have b3 := F3.binds (ps := ["wagons"]) fun _ _ _ _ _ _ us hl => match us, hl with | [_], _ => rfl
 have F4 := fun_mk (st := s_checked_moves) l4 c4 k4
 have b4 := F4.binds (ps := ["moves", "many"]) fun _ _ _ _ _ _ us hl => match us, hl with | [_, _], _ => rfl
 have F5 := fun_mk (st := s_checked_move) l5 c5 k5
 have b5 := F5.binds (ps := ["move", "many"]) fun _ _ _ _ _ _ us hl => match us, hl with | [_, _], _ => rfl
 have F6 := fun_mk (st := s_checked_word) l6 c6 k6
 have b6 := F6.binds (ps := ["word"]) fun _ _ _ _ _ _ us hl => match us, hl with | [_], _ => rfl
 have F7 := fun_mk (st := s_checked_track) l7 c7 k7
 have b7 := F7.binds (ps := ["track", "many"]) fun _ _ _ _ _ _ us hl => match us, hl with | [_, _], _ => rfl
 have F8 := fun_mk (st := s_places_in_order) l8 c8 k8
 have b8 := F8.binds (ps := ["wagons"]) fun _ _ _ _ _ _ us hl => match us, hl with | [_], _ => rfl
 have F9 := fun_mk (st := s_leave_so) l9 c9 k9
 have b9 := F9.binds (ps := ["coming", "blind", "many", "moves", "wanted"]) fun _ _ _ _ _ _ us hl => match us, hl with | [_, _, _, _, _], _ => rfl
 have F10 := fun_mk (st := s_are_places) l10 c10 k10
 have b10 := F10.binds (ps := ["places", "train"]) fun _ _ _ _ _ _ us hl => match us, hl with | [_, _], _ => rfl
 have F11 := fun_mk (st := s_are_rising_places) l11 c11 k11
 have b11 := F11.binds (ps := ["places", "train"]) fun _ _ _ _ _ _ us hl => match us, hl with | [_, _], _ => rfl
 have F12 := fun_mk (st := s_are_falling_wagons) l12 c12 k12
 have b12 := F12.binds (ps := ["places", "train"]) fun _ _ _ _ _ _ us hl => match us, hl with | [_, _], _ => rfl
 have F14 := fun_mk (st := s_fewest) l14 c14 k14
 have b14 := F14.binds (ps := ["train"]) fun _ _ _ _ _ _ us hl => match us, hl with | [_], _ => rfl
 have F15 := fun_mk (st := s_tracks_through) l15 c15 k15
 have b15 := F15.binds (ps := ["wagons"]) fun _ _ _ _ _ _ us hl => match us, hl with | [_], _ => rfl
 have F16 := fun_mk (st := s_first_of_a_lesser) l16 c16 k16
 have b16 := F16.binds (ps := ["falling", "wagon"]) fun _ _ _ _ _ _ us hl => match us, hl with | [_, _], _ => rfl
 have F17 := fun_mk (st := s_moves_through) l17 c17 k17
 have b17 := F17.binds (ps := ["wagons", "tracks"]) fun _ _ _ _ _ _ us hl => match us, hl with | [_, _], _ => rfl
 have F18 := fun_mk (st := s_falling_to) l18 c18 k18
 have b18 := F18.binds (ps := ["tracks", "track"]) fun _ _ _ _ _ _ us hl => match us, hl with | [_, _], _ => rfl
 have F19 := fun_mk (st := s__law_inserted) l19 c19 k19
 have b19 := F19.binds (ps := ["_law_script"]) fun _ _ _ _ _ _ us hl => match us, hl with | [_], _ => rfl
 have F20 := fun_mk (st := s__law_made) l20 c20 k20
 have b20 := F20.binds (ps := ["_law_script", "_law_blind", "_law_many"]) fun _ _ _ _ _ _ us hl => match us, hl with | [_, _, _], _ => rfl
 have F21 := fun_mk (st := s__law_brought) l21 c21 k21
 have b21 := F21.binds (ps := ["_law_train", "_law_blind", "_law_many", "_law_moves"]) fun _ _ _ _ _ _ us hl => match us, hl with | [_, _, _, _], _ => rfl
 have F22 := fun_mk (st := s__law_rising) l22 c22 k22
 have b22 := F22.binds (ps := ["_law_places", "_law_many"]) fun _ _ _ _ _ _ us hl => match us, hl with | [_, _], _ => rfl
 have F23 := fun_mk (st := s__law_falling) l23 c23 k23
 have b23 := F23.binds (ps := ["_law_train", "_law_places"]) fun _ _ _ _ _ _ us hl => match us, hl with | [_, _], _ => rfl
 have F24 := fun_mk (st := s__law_right) l24 c24 k24
 have b24 := F24.binds (ps := ["_law_train", "_law_most"]) fun _ _ _ _ _ _ us hl => match us, hl with | [_, _], _ => rfl
 have F25 := fun_mk (st := s_law) l25 c25 k25
 have Fm0 := fun_mk (st := s_Stuck_init) lm0 cm0 km0
 have bm0 := Fm0.binds (ps := ["self", "at"]) fun _ _ _ _ _ _ us hl => match us, hl with | [_, _], _ => rfl
 have Fm1 := fun_mk (st := s_Track_init) lm1 cm1 km1
 have bm1 := Fm1.binds (ps := ["self", "blind"]) fun _ _ _ _ _ _ us hl => match us, hl with | [_, _], _ => rfl
 have Fm2 := fun_mk (st := s_Track_is_empty) lm2 cm2 km2
 have bm2 := Fm2.binds (ps := ["self"]) fun _ _ _ _ _ _ us hl => match us, hl with | [_], _ => rfl
 have Fm3 := fun_mk (st := s_Track_let_in) lm3 cm3 km3
 have bm3 := Fm3.binds (ps := ["self", "wagon"]) fun _ _ _ _ _ _ us hl => match us, hl with | [_, _], _ => rfl
 have Fm4 := fun_mk (st := s_Track_let_out) lm4 cm4 km4
 have bm4 := Fm4.binds (ps := ["self"]) fun _ _ _ _ _ _ us hl => match us, hl with | [_], _ => rfl
 have Fm6 := fun_mk (st := s_Yard_init) lm6 cm6 km6
 have bm6 := Fm6.binds (ps := ["self", "wagons", "blind"]) fun _ _ _ _ _ _ us hl => match us, hl with | [_, _, _], _ => rfl
 have Fm7 := fun_mk (st := s_Yard_carry_out) lm7 cm7 km7
 have bm7 := Fm7.binds (ps := ["self", "steps"]) fun _ _ _ _ _ _ us hl => match us, hl with | [_, _], _ => rfl
 have Fm8 := fun_mk (st := s_Yard_carry_in) lm8 cm8 km8
 have bm8 := Fm8.binds (ps := ["self", "at", "place"]) fun _ _ _ _ _ _ us hl => match us, hl with | [_, _, _], _ => rfl
 have Fm9 := fun_mk (st := s_Yard_carry_away) lm9 cm9 km9
 have bm9 := Fm9.binds (ps := ["self", "at", "place"]) fun _ _ _ _ _ _ us hl => match us, hl with | [_, _, _], _ => rfl
 have Fm19 := fun_mk (st := s_Fewest_init) lm19 cm19 km19
 have bm19 := Fm19.binds (ps := ["self", "moves", "places"]) fun _ _ _ _ _ _ us hl => match us, hl with | [_, _, _], _ => rfl
 have Fm20 := fun_mk (st := s_Fewest_shows) lm20 cm20 km20
 have bm20 := Fm20.binds (ps := ["self", "train"]) fun _ _ _ _ _ _ us hl => match us, hl with | [_, _], _ => rfl
 have T : Tx K mg ⟨CYardError, CBadTrain, CBadMoves, CStuck, CTrack, CYard, CAnswer, CShunted, CThree, COdd, CFalling, CFewest, CGiven, CThrice, GWORDS, Lc8, Lt8⟩ := ⟨mg_none_of X G n_all,
  mg_none_of X G n_any,
  mg_none_of X G n_bool,
  mg_none_of X G n_enumerate,
  mg_none_of X G n_int,
  mg_none_of X G n_isinstance,
  mg_none_of X G n_len,
  mg_none_of X G n_list,
  mg_none_of X G n_max,
  mg_none_of X G n_range,
  mg_none_of X G n_reversed,
  mg_none_of X G n_sorted,
  mg_none_of X G n_str,
  mg_none_of X G n_sum,
  mg_none_of X G n_tuple,
  mg_none_of X G n_zip,
  ⟨⟨_, _, F1, mg_of X G a1, b1⟩⟩,
  ⟨⟨_, _, F2, mg_of X G a2, b2⟩⟩,
  ⟨⟨_, _, F3, mg_of X G a3, b3⟩⟩,
  ⟨⟨_, _, F4, mg_of X G a4, b4⟩⟩,
  ⟨⟨_, _, F5, mg_of X G a5, b5⟩⟩,
  ⟨⟨_, _, F6, mg_of X G a6, b6⟩⟩,
  ⟨⟨_, _, F7, mg_of X G a7, b7⟩⟩,
  ⟨⟨_, _, F8, mg_of X G a8, b8, lc8⟩, lh8⟩,
  lt8,
  ⟨⟨_, _, F9, mg_of X G a9, b9⟩⟩,
  ⟨⟨_, _, F10, mg_of X G a10, b10⟩⟩,
  ⟨⟨_, _, F11, mg_of X G a11, b11⟩⟩,
  ⟨⟨_, _, F12, mg_of X G a12, b12⟩⟩,
  ⟨⟨_, _, F14, mg_of X G a14, b14⟩⟩,
  ⟨⟨_, _, F15, mg_of X G a15, b15⟩⟩,
  ⟨⟨_, _, F16, mg_of X G a16, b16⟩⟩,
  ⟨⟨_, _, F17, mg_of X G a17, b17⟩⟩,
  ⟨⟨_, _, F18, mg_of X G a18, b18⟩⟩,
  ⟨⟨_, _, F19, mg_of X G a19, b19⟩⟩,
  ⟨⟨_, _, F20, mg_of X G a20, b20⟩⟩,
  ⟨⟨_, _, F21, mg_of X G a21, b21⟩⟩,
  ⟨⟨_, _, F22, mg_of X G a22, b22⟩⟩,
  ⟨⟨_, _, F23, mg_of X G a23, b23⟩⟩,
  ⟨⟨_, _, F24, mg_of X G a24, b24⟩⟩,
  mg_of X G aCYardError,
  mg_of X G aCBadMoves,
  mg_of X G aCStuck,
  mg_of X G aCTrack,
  ⟨pgTrack, hdTrack, poTrack, saTrack⟩,
  naTrack_blind,
  naTrack_came,
  naTrack_gone_ahead,
  mg_of X G aCYard,
  ⟨pgYard, hdYard, poYard, saYard⟩,
  naYard_blind,
  naYard_come,
  naYard_left,
  naYard_tracks,
  naYard_wagons,
  mg_of X G aCAnswer,
  mg_of X G aCShunted,
  mg_of X G aCThree,
  mg_of X G aCOdd,
  mg_of X G aCFalling,
  mg_of X G aCFewest,
  ⟨pgFewest, hdFewest, poFewest, saFewest⟩,
  ⟨yaFewest, ynFewest, ytFewest, ymFewest⟩,
  naFewest_moves,
  naFewest_places,
  mg_of X G aCGiven,
  mg_of X G aCThrice,
  ⟨⟨_, _, Fm0, ⟨xim0, xnm0, xfm0, xkm0⟩, bm0⟩⟩,
  ⟨⟨_, _, Fm1, ⟨mkm1, am1, ifm1, ikm1⟩, bm1⟩⟩,
  ⟨⟨_, _, Fm2, ⟨am2, mfm2, km2⟩, bm2⟩⟩,
  ⟨⟨_, _, Fm3, ⟨am3, mfm3, km3⟩, bm3⟩⟩,
  ⟨⟨_, _, Fm4, ⟨am4, mfm4, km4⟩, bm4⟩⟩,
  ⟨⟨_, _, Fm6, ⟨mkm6, am6, ifm6, ikm6⟩, bm6⟩⟩,
  ⟨⟨_, _, Fm7, ⟨am7, mfm7, km7⟩, bm7⟩⟩,
  ⟨⟨_, _, Fm8, ⟨am8, mfm8, km8⟩, bm8⟩⟩,
  ⟨⟨_, _, Fm9, ⟨am9, mfm9, km9⟩, bm9⟩⟩,
  ⟨⟨_, _, Fm19, ⟨mkm19, am19, ifm19, ikm19⟩, bm19⟩⟩,
  ⟨⟨_, _, Fm20, ⟨am20, mfm20, km20⟩, bm20⟩⟩,
  kitFewest_Answer,
  kitFewest_Shunted,
  kitFewest_Three,
  kitFewest_Odd,
  kitFewest_Falling,
  kitFewest_Given,
  kitFewest_Thrice,
  ⟨xcmBadMoves, xchBadMoves, xcgBadMoves, xcyBadMoves, xcsBadMoves, xcaBadMoves, xcdBadMoves, xctBadMoves⟩,
  xtyBadMoves,
  ⟨xcmStuck, xchStuck, xcgStuck, xcyStuck, xcsStuck, xcaStuck, xcdStuck, xctStuck⟩,
  xtyStuck,
  ⟨x0xBadMoves, x0nBadMoves, x0kBadMoves⟩,
  mroBadMoves_BadMoves,
  xtStuck_at,
  mroStuck_BadMoves,
  mroStuck_Stuck,
  ⟨yb1YardError, yb2YardError, yb3YardError⟩,
  ⟨mg_of X G gWORDS, fun H => .inr ⟨_, _, _, glWORDS, rfl, rfl, (by show 2 <= sizeLine; decide), .cons ⟨_, rfl⟩ (.cons ⟨_, rfl⟩ (.nil))⟩⟩⟩
 exact ⟨_, fun s v => .of_eq rfl, fun base _ _ => ok T F25⟩
theorem walk {l : PySem.W.OpenLaw} {q : Program} {loose : List Str} {XP : (Str -> Option Value) -> Heap -> Prop} {YP : World -> Heap -> Prop} {d : DefRec} {K : Params -> PySem.W.Frag} (hn : l.most = some 63) (hdf : d.params.defaults = [])
  (hY : ∀ (w : World) (h : Heap), YP w h -> (K w.params).In h)
  (hL : ∀ e ∈ lams, ∃ d', (PyProof.Rows.recsOf q).find? (fun r => r.name == e.1) = some d') (hK : ∀ (w : World), ∀ e ∈ lams, ∀ c P, tabIn (K w.params) e.1 = some (c, P) -> (K w.params).lookup P = none)
  (F : ∀ (w : World) (mg : Str -> Option Value) (fa : Addr) (h : Heap), (K w.params).In h -> h.Ns mainGlobals mg -> mg d.name = some (.ref fa) ->
   ∃ fd : FuncData, (∀ (s : Shared) (u : Value), BindsTo s fd ⟨[u], []⟩ [("_law_script", u)]) /\ ∀ base : Heap, (K w.params).In base -> base.Ns mainGlobals mg -> FnOk l.prog w (K w.params) mg base CX0 11 fa fd ["_law_script"] (sp_law (K w.params))) :
  PySem.W.WalkO q loose XP YP l.row.toRowW d [] (fun f vs => PySem.call f vs) :=
 L2.walk_ofT (n := 63) (k := 11) (x := "_law_script") (CX := fun _ => CX0) (sp := fun w => sp_law (K w.params)) lams hn (by decide) hdf ⟨rfl, by decide, by decide⟩ hY hL hK F (fun _ _ a ns hl hT hS => ⟨a, ns, rfl, hS, hl, hT, fun _ => rfl⟩) fun _ _ _ _ _ z => z
theorem lam_free {K : PySem.W.Frag} {c0 p0 : Addr} (a0 : tabIn K "places_in_order" = some (c0, p0)) (b0 : K.lookup p0 = none) : ∀ e ∈ lams, ∀ c P, tabIn K e.1 = some (c, P) -> K.lookup P = none := by
 intro e he c P h
 simp only [lams, List.mem_cons, List.mem_nil_iff, or_false] at he
 rcases he with rfl
 ·rw [a0] at h; cases h; exact b0
end My
section
open PySem PySem.W PyProof.Rows
local macro_rules | `(tactic| o_head $H) => `(tactic| (
 refine holds_open (q := My.pwv) (loose := []) (Xt := fun s => xlAt My.pwv [] s && recOk (RowW.records _) s) (XP := XL My.pwv []) (Yf := Hook.obs $H) (Ya := Hook.val $H) (YP := Hook.says $H) (N := 20000)
  (L2.left_of_T3 (p := PySem.Challenge.pw_sidings_k05_whole_fewest) (H₀ := boot_heap) (T₀ := fun P => L2.treeOf (boot_heap P).objs.toList) (life := (boot_heap (aWorld 1).params).life) (d₀ := boot_drawn) (k₀ := boot_toks) (m₀ := 11) (ann := some (.ref 6)) (boot_open (by kernel_rfl!) (by decide) (fun s => by kernel_rfl!)) (fun P => by kernel_rfl!) (fun w => by kernel_rfl!) My.seen_a My.seen_b ?obs)
  (Hook.of $H) (Hook.keeps $H) (fun s e => xl_of s (Bool.and_eq_true_iff.mp e).1) XL.keeps (by rfl) (by rfl) (by rfl) (fun s e => recFacts_of (Bool.and_eq_true_iff.mp e).2) (by rfl) (by first | assumption | decide +kernel) (by decide +kernel) ⟨rfl, rfl, rfl, rfl, rfl, by decide +kernel⟩ ?hw ?hc))
set_option maxRecDepth 100000 in
set_option maxHeartbeats 0 in
theorem My.early (ok : My.OkL PySem.Challenge.rw_sidings_k05_whole_fewest) : PySem.Challenge.rw_sidings_k05_whole_fewest.Holds := by
 w_on; o_law; k_head
 (case obs =>
  intro w os
  rewrite [PySem.W.Fast.te10156331382660048174, PySem.W.Fast.te11892475500146522536, PySem.W.Fast.te14364793385576792824, PySem.W.Fast.te4749903669552527406]
  kernel_rfl)
 (case hw => w_witness2)
 k_fill
 refine My.walk (l := PySem.Challenge.rw_sidings_k05_whole_fewest) rfl rfl (fun w h Y => by first | exact PySem.W.km_in_of Y | exact PySem.W.kIn_of Y) ?hL ?hK ?F
 case hL =>
  intro e he
  simp only [My.lams, List.mem_cons, List.mem_nil_iff, or_false] at he
  rcases he with rfl <;> exact ⟨_, rfl⟩
 case hK =>
  intro w
  refine' My.lam_free ?a0 ?b0
  (case a0 => first | k_is | kernel_rfl! | exact rfl)
  (case b0 => first | k_is | kernel_rfl! | exact rfl)
 case F =>
  intro w mg fa h KX G hmg
  refine' My.all_mk ok KX G hmg ?n_all ?n_any ?n_bool ?n_enumerate ?n_int ?n_isinstance ?n_len ?n_list ?n_max ?n_range ?n_reversed ?n_sorted ?n_str ?n_sum ?n_tuple ?n_zip ?a1 ?l1 ?c1 ?k1 ?a2 ?l2 ?c2 ?k2 ?a3 ?l3 ?c3 ?k3 ?a4 ?l4 ?c4 ?k4 ?a5 ?l5 ?c5 ?k5 ?a6 ?l6 ?c6 ?k6 ?a7 ?l7 ?c7 ?k7 ?a8 ?l8 ?c8 ?k8 ?lt8 ?lc8 ?lh8 ?a9 ?l9 ?c9 ?k9 ?a10 ?l10 ?c10 ?k10 ?a11 ?l11 ?c11 ?k11 ?a12 ?l12 ?c12 ?k12 ?a14 ?l14 ?c14 ?k14 ?a15 ?l15 ?c15 ?k15 ?a16 ?l16 ?c16 ?k16 ?a17 ?l17 ?c17 ?k17 ?a18 ?l18 ?c18 ?k18 ?a19 ?l19 ?c19 ?k19 ?a20 ?l20 ?c20 ?k20 ?a21 ?l21 ?c21 ?k21 ?a22 ?l22 ?c22 ?k22 ?a23 ?l23 ?c23 ?k23 ?a24 ?l24 ?c24 ?k24 ?a25 ?l25 ?c25 ?k25 ?aCYardError ?aCBadTrain ?aCBadMoves ?aCStuck ?aCTrack ?pgTrack ?hdTrack ?poTrack ?saTrack ?naTrack_blind ?naTrack_came ?naTrack_gone_ahead ?aCYard ?pgYard ?hdYard ?poYard ?saYard ?naYard_blind ?naYard_come ?naYard_left ?naYard_tracks ?naYard_wagons ?aCAnswer ?aCShunted ?aCThree ?aCOdd ?aCFalling ?aCFewest ?pgFewest ?hdFewest ?poFewest ?saFewest ?yaFewest ?ynFewest ?ytFewest ?ymFewest ?naFewest_moves ?naFewest_places ?aCGiven ?aCThrice ?am0 ?lm0 ?cm0 ?km0 ?xim0 ?xnm0 ?xfm0 ?xkm0 ?am1 ?lm1 ?cm1 ?km1 ?mkm1 ?ifm1 ?ikm1 ?am2 ?lm2 ?cm2 ?km2 ?mfm2 ?am3 ?lm3 ?cm3 ?km3 ?mfm3 ?am4 ?lm4 ?cm4 ?km4 ?mfm4 ?am6 ?lm6 ?cm6 ?km6 ?mkm6 ?ifm6 ?ikm6 ?am7 ?lm7 ?cm7 ?km7 ?mfm7 ?am8 ?lm8 ?cm8 ?km8 ?mfm8 ?am9 ?lm9 ?cm9 ?km9 ?mfm9 ?am19 ?lm19 ?cm19 ?km19 ?mkm19 ?ifm19 ?ikm19 ?am20 ?lm20 ?cm20 ?km20 ?mfm20 ?kitFewest_Answer ?kitFewest_Shunted ?kitFewest_Three ?kitFewest_Odd ?kitFewest_Falling ?kitFewest_Given ?kitFewest_Thrice ?xcmBadMoves ?xchBadMoves ?xcgBadMoves ?xcyBadMoves ?xcsBadMoves ?xcaBadMoves ?xcdBadMoves ?xctBadMoves ?xtyBadMoves ?xcmStuck ?xchStuck ?xcgStuck ?xcyStuck ?xcsStuck ?xcaStuck ?xcdStuck ?xctStuck ?xtyStuck ?x0xBadMoves ?x0nBadMoves ?x0kBadMoves ?mroBadMoves_BadMoves ?xtStuck_at ?mroStuck_BadMoves ?mroStuck_Stuck ?yb1YardError ?yb2YardError ?yb3YardError ?gWORDS ?glWORDS
  (case n_all | n_any | n_bool | n_enumerate | n_int | n_isinstance | n_len | n_list | n_max | n_range | n_reversed | n_sorted | n_str | n_sum | n_tuple | n_zip | a1 | l1 | c1 | k1 | a2 | l2 | c2 | k2 | a3 | l3 | c3 | k3 | a4 | l4 | c4 | k4 | a5 | l5 | c5 | k5 | a6 | l6 | c6 | k6 | a7 | l7 | c7 | k7 | a8 | l8 | c8 | k8 => first | k_is | kernel_rfl!)
  (case lt8 => first | k_is | kernel_rfl! | exact rfl)
  (case lc8 => first | exact rfl | k_is | kernel_rfl!)
  (case lh8 | a9 | l9 | c9 | k9 | a10 | l10 | c10 | k10 | a11 | l11 | c11 | k11 | a12 | l12 | c12 | k12 | a14 | l14 | c14 | k14 | a15 | l15 | c15 | k15 | a16 | l16 | c16 | k16 | a17 | l17 | c17 | k17 | a18 | l18 | c18 | k18 | a19 | l19 | c19 | k19 | a20 | l20 | c20 | k20 | a21 | l21 | c21 | k21 | a22 | l22 | c22 | k22 | a23 | l23 | c23 | k23 | a24 | l24 | c24 | k24 | a25 | l25 | c25 | k25 | aCYardError | aCBadTrain | aCBadMoves | aCStuck | aCTrack | pgTrack | hdTrack | poTrack | saTrack | naTrack_blind | naTrack_came | naTrack_gone_ahead | aCYard | pgYard | hdYard | poYard | saYard | naYard_blind | naYard_come | naYard_left | naYard_tracks | naYard_wagons | aCAnswer | aCShunted | aCThree | aCOdd | aCFalling | aCFewest | pgFewest | hdFewest | poFewest | saFewest | yaFewest | ynFewest | ytFewest | ymFewest | naFewest_moves | naFewest_places | aCGiven | aCThrice | am0 | lm0 | cm0 | km0 | xim0 | xnm0 | xfm0 | xkm0 | am1 | lm1 | cm1 | km1 | mkm1 | ifm1 | ikm1 | am2 | lm2 | cm2 | km2 | mfm2 | am3 | lm3 | cm3 | km3 | mfm3 | am4 | lm4 | cm4 | km4 | mfm4 | am6 | lm6 | cm6 | km6 | mkm6 | ifm6 | ikm6 | am7 | lm7 | cm7 | km7 | mfm7 | am8 | lm8 | cm8 | km8 | mfm8 | am9 | lm9 | cm9 | km9 | mfm9 | am19 | lm19 | cm19 | km19 | mkm19 | ifm19 | ikm19 | am20 | lm20 | cm20 | km20 | mfm20 | kitFewest_Answer | kitFewest_Shunted | kitFewest_Three | kitFewest_Odd | kitFewest_Falling | kitFewest_Given | kitFewest_Thrice | xcmBadMoves | xchBadMoves | xcgBadMoves | xcyBadMoves | xcsBadMoves | xcaBadMoves | xcdBadMoves | xctBadMoves | xtyBadMoves | xcmStuck | xchStuck | xcgStuck | xcyStuck | xcsStuck | xcaStuck | xcdStuck | xctStuck | xtyStuck | x0xBadMoves | x0nBadMoves | x0kBadMoves | mroBadMoves_BadMoves | xtStuck_at | mroStuck_BadMoves | mroStuck_Stuck | yb1YardError | yb2YardError | yb3YardError | gWORDS | glWORDS => first | k_is | kernel_rfl!)
end
namespace My
open PySem L2
section
variable {P : Program} {w : World} {K : PySem.W.Frag} {mg : Str -> Option Value} {base : Heap} {Z : Adr}
def sp_is_number : Sp := fun vs H Q _ => ∃ i, vs = [.int i] /\ Q (.bl true) H
theorem sc_is_number : FnScope ["value"] ["value"] (defScope s_is_number) := ⟨rfl, rfl, rfl, by decide +kernel, rfl, by decide +kernel, by decide +kernel⟩
theorem C_is_number (T : Tx K mg Z) : Ctr P w K mg base CX0 1 "is_number" ["value"] sp_is_number := by
 refine ctr_of T.is_number fun f fd F => F.ok sc_is_number (fun vs H Q E h => ?_) (fun cdv A outer s H vs Q E hr h => ?_)
 ·obtain ⟨i, rfl, _⟩ := h
  rfl
 ·obtain ⟨i, rfl, q⟩ := h
  refine' ⟨_, ?hterm, ?_⟩
  case hterm =>
   refine' pss_one ?q1
   case' q1 => refine' ps_ret ?q2
   case' q2 => refine' pe_and ?q3 ?q4
   case q3 =>
    refine' pe_callB (callK_isinstance (K := K) (by rfl)) (by rfl) T.n_isinstance b_isinstance ?q5
    case' q5 => refine' pa_cons (pv 0) ?q6
    case' q6 => refine' pa_cons ?q7 pa_nil
    case q7 => exact pe_tyN rfl T.n_int b_int
   case' q4 => refine' pe_one ?q8
   case' q8 => refine' pe_not ?q9
   case' q9 => refine' pe_callB (callK_isinstance (K := K) (by rfl)) (by rfl) T.n_isinstance b_isinstance ?q10
   case' q10 => refine' pa_cons (pv 0) ?q11
   case' q11 => refine' pa_cons ?q12 pa_nil
   case q12 => exact pe_tyN rfl T.n_bool b_bool
  refine ⟨_, rfl, _, _, _, _, _, rfl, rfl, ty_inj, .int i, kit_same, _, rfl, iteT ?_⟩
  refine ⟨_, rfl, _, _, _, _, _, rfl, rfl, ty_inj, .int i, kit_int_bool, _, rfl, ?_⟩
  exact q
def sp_has_two_alike (K : PySem.W.Frag) : Sp := fun vs H Q _ => ∃ (a : Addr) (ns : List Int), vs = [.ref a] /\ SqL K H a (ns.map V.int) /\ ns.length < 64 /\ ∀ H', Same H H' -> Q (.bl (!decide ns.Nodup)) H'
theorem sc_has_two_alike : FnScope ["wagons", "in_order"] ["wagons"] (defScope s_has_two_alike) := ⟨rfl, rfl, rfl, by decide +kernel, rfl, by decide +kernel, by decide +kernel⟩
theorem C_has_two_alike (T : Tx K mg Z) : Ctr P w K mg base CX0 1 "has_two_alike" ["wagons"] (sp_has_two_alike K) := by
 refine ctr_of T.has_two_alike fun f fd F => F.ok sc_has_two_alike (fun vs H Q E h => ?_) (fun cdv A outer s H vs Q E hr h => ?_)
 ·obtain ⟨a, ns, rfl, _⟩ := h
  rfl
 ·obtain ⟨a, ns, rfl, hS, hz, k⟩ := h
  refine' ⟨_, ?hterm, ?_⟩
  case hterm =>
   refine' pss_cons ?q1 ?q2
   case q1 =>
    refine' ps_set (i := 1) sc_has_two_alike.nd rfl (Or.inl rfl) ?q3
    case' q3 => refine' pe_callB (callK_sorted (K := K) (by rfl)) (by rfl) T.n_sorted b_sorted ?q4
    case q4 => exact pa_cons (pv 0) pa_nil
   case' q2 => refine' pss_one ?q5
   case' q5 => refine' ps_ret ?q6
   case' q6 => refine' pe_callB (callK_any (K := K) (by rfl) (by rfl)) (by rfl) T.n_any b_any ?q7
   case' q7 => refine' pa_cons ?q8 pa_nil
   case' q8 => refine' pe_comp rfl (csc_of (sc := defScope s_has_two_alike) (N := ["wagons", "in_order"]) (cap := [none, none]) (N' := ["less", "greater"]) rfl rfl ⟨ rfl, by decide +kernel, by decide +kernel, by decide +kernel, rfl, by decide +kernel ⟩) ?q9 (fun _ _ _ _ => ?q10) (fun _ _ _ _ => pif_nil) (fun _ _ _ _ => ?q11)
   case q9 =>
    refine' pi_zipK (K := K) (by rfl) rfl T.n_zip ?q12
    case' q12 => refine' pa_cons (pv 1) ?q13
    case' q13 => refine' pa_cons ?q14 pa_nil
    case' q14 => refine' pe_slice (sl_K (K := K) (by rfl)) (pv 1) ?q15 po_none
    case q15 => exact po_some pe_int
   case q10 =>
    refine' pg_tupK (K := K) (n := 2) (by rfl) rfl ?q16
    case' q16 => refine' pgs_cons ?q17 ?q18
    case q17 => exact pg_name (i := 0) (show List.Nodup (["less", "greater"] : List Str) from by decide +kernel) (by rfl) (by exact Or.inl rfl)
    case' q18 => refine' pgs_cons ?q19 pgs_nil
    case q19 => exact pg_name (i := 1) (show List.Nodup (["less", "greater"] : List Str) from by decide +kernel) (by rfl) (by exact Or.inl rfl)
   case q11 => exact pe_cmpR (op_eqK (K := K) (by rfl) (by exact hr.units)) (pv 0) (pv 1) (nomark _)
  refine ⟨_, rfl, a, ns, rfl, hS, hz, fun l ns' hl hp hs => ?_⟩
  refine ⟨_, rfl, _, rfl, _, rfl, l, _, rfl, SqL.of upd_same, fun q hq => ?_⟩
  have elq : l ≠ q := ne_of_none upd_same hq
  have ecut : cutV (ns'.map V.int) (some 1) none = (ns'.drop 1).map V.int := by rw [show (1 : Int) = ((1 : Nat) : Int) from rfl, cutV_from, List.map_drop]
  rw [ecut]
  refine ⟨l, q, rfl, ⟨_, SqL.of (upd_get upd_same hq)⟩, ⟨_, SqL.of upd_same⟩, fun p hp' => ?_⟩
  have s0 : Same H (upd (upd (upd H l (.lst (ns'.map V.int))) q (.lst ((ns'.drop 1).map V.int))) p (.lst [])) := (Same.upd hl).trans ((Same.upd hq).trans (Same.upd hp'))
  have elp : l ≠ p := ne_of_none (upd_get upd_same hq) hp'
  have eqp : q ≠ p := ne_of_none upd_same hp'
  have hH1 : H p = none := ((Same.upd (o := .lst (ns'.map V.int)) hl).trans (Same.upd (o := .lst ((ns'.drop 1).map V.int)) hq)).free hp'
  refine turns_zip (K := K) (xs := ns'.map V.int) (ys := (ns'.drop 1).map V.int)
   (fun i σ H2 => (∃ a b, σ = [a, b]) /\ Same H H2 /\ H2 l = some (.lst (ns'.map V.int)) /\ H2 q = some (.lst ((ns'.drop 1).map V.int)) /\ H2 p = some (.lst (((adj ns').take i).map V.bl)))
   ⟨⟨_, _, rfl⟩, s0, by rw [upd_ne elp, upd_ne elq, upd_same], by rw [upd_ne eqp, upd_same], upd_same⟩ (fun i σ H2 h => ⟨SqL.of h.2.2.1, SqL.of h.2.2.2.1⟩) ?_ ?_
  ·rintro i x y t σ H2 hx hy ⟨⟨a1, b1, rfl⟩, s2, h1, h2, h3⟩ ht
   obtain ⟨z, ez, rfl⟩ := getMap hx
   obtain ⟨z', ez', rfl⟩ := getMap hy
   refine ⟨t, _, rfl, SqT.of upd_same, rfl, _, _, rfl, _, _, rfl, rfl, ?_⟩
   refine ⟨_, rfl, _, rfl, .inl ⟨rfl, ?_⟩⟩
   have e3 : upd H2 t (.tup [.int z, .int z']) p = some (.lst (((adj ns').take i).map V.bl)) := upd_get h3 ht
   refine ⟨_, e3, ?_, ⟨_, _, rfl⟩, ?_, ?_, ?_, ?_⟩
   ·rw [List.length_map]
    have := adj_len ns'
    have h64 : ns'.length < 64 := by rw [hp.length_eq]; exact hz
    have := List.length_take (i := i) (l := adj ns')
    exact small1000 (by omega)
   ·intro b o e
    have : b ≠ p := ne_of_none e hH1
    rw [upd_ne this, upd_get (s2 b o e) ht]
   ·rw [upd_ne elp]; exact upd_get h1 ht
   ·rw [upd_ne eqp]; exact upd_get h2 ht
   ·rw [upd_same, adj_take ez ez', List.map_append, decV]
    rfl
  ·rintro σ H2 ⟨_, s2, _, _, h3⟩
   refine ⟨p, adj ns', rfl, SqL.of ?_, ?_⟩
   ·rw [h3, List.take_of_length_le]
    rw [adj_len, List.length_map, List.length_map, List.length_drop]
    exact Nat.le_refl _
   ·rw [adj_nodup hs, show decide ns'.Nodup = decide ns.Nodup from decide_eq_decide.mpr hp.nodup_iff]
    exact k H2 s2
def sp_checked_train : Sp := fun vs H Q _ => ∃ (a : Addr) (ns : List Int), vs = [.ref a] /\ H a = some (.lst (ns.map V.int)) /\ ns.length < 64 /\ ns.Nodup /\ ∀ p H', Same H H' -> H p = none -> H' p = some (.lst (ns.map V.int)) -> Q (.ref p) H'
theorem sc_checked_train : FnScope ["train", "held", "wagon", "wagons"] ["train"] (defScope s_checked_train) := ⟨rfl, rfl, rfl, by decide +kernel, rfl, by decide +kernel, by decide +kernel⟩
theorem C_checked_train (T : Tx K mg Z) : Ctr P w K mg base CX0 3 "checked_train" ["train"] sp_checked_train := by
 refine ctr_of T.checked_train fun f fd F => F.ok sc_checked_train (fun vs H Q E h => ?_) (fun cdv A outer s H vs Q E hr h => ?_)
 ·obtain ⟨a, ns, rfl, _⟩ := h
  rfl
 ·obtain ⟨a, ns, rfl, ha, hz, hnd, k⟩ := h
  refine' ⟨_, ?hterm, ?_⟩
  case hterm =>
   refine' pss_cons ?q1 ?q2
   case q1 =>
    refine' ps_if ?q3 ?q4 pss_nil
    case q3 =>
     refine' pt_not ?q5
     case' q5 => refine' pt_truK (K := K) (by rfl) ?q6 (fun _ => rfl)
     case' q6 => refine' pe_callB (callK_isinstance (K := K) (by rfl)) (by rfl) T.n_isinstance b_isinstance ?q7
     case' q7 => refine' pa_cons (pv 0) ?q8
     case' q8 => refine' pa_cons ?q9 pa_nil
     case q9 => exact pe_tyN rfl T.n_list b_list
    case' q4 => refine' pss_one ?q10
    case q10 => exact ps_never
   case' q2 => refine' pss_cons ?q11 ?q12
   case q11 =>
    refine' ps_set (i := 1) sc_checked_train.nd rfl (Or.inl rfl) ?q13
    case' q13 => refine' pe_op (op_addK (K := K) (by rfl)) ?q14 (pv 0)
    case q14 => exact pe_lst pa_nil
   case' q12 => refine' pss_cons ?q15 ?q16
   case q15 =>
    refine' ps_for HP rfl ?q17 ?q18 ?q19
    case q17 => exact pi_listK (K := K) (by rfl) (pv 1)
    case q18 => exact pg_name (i := 2) sc_checked_train.nd (by rfl) (by exact Or.inl rfl)
    case' q19 => refine' pss_one ?q20
    case' q20 => refine' ps_if ?q21 ?q22 pss_nil
    case q21 =>
     refine' pt_not ?q23
     case' q23 => refine' pt_truK (K := K) (by rfl) ?q24 (fun _ => rfl)
     case' q24 => refine' pe_callC (C_is_number T) (hr.mono (by decide)) rfl ?q25
     case q25 => exact pa_cons (pv 2) pa_nil
    case' q22 => refine' pss_one ?q26
    case q26 => exact ps_never
   case' q16 => refine' pss_cons ?q27 ?q28
   case q27 =>
    refine' ps_setComp (i := 3) sc_checked_train.nd rfl rfl rfl (csc_of (sc := defScope s_checked_train) (N := ["train", "held", "wagon", "wagons"]) (cap := [none]) (N' := ["wagon"]) rfl rfl ⟨ rfl, by decide +kernel, by decide +kernel, by decide +kernel, rfl, by decide +kernel ⟩) ?q29 (fun _ _ _ _ => ?q30) (fun _ _ _ _ => pif_nil) (fun _ _ _ _ => ?q31)
    case q29 => exact pi_listK (K := K) (by rfl) (pv 1)
    case q30 => exact pg_name (i := 0) (show List.Nodup (["wagon"] : List Str) from by decide +kernel) (by rfl) (by exact Or.inl rfl)
    case q31 =>
     refine' pe_callTy call_int1 (by rfl) T.n_int b_int ?q32
     case q32 => exact pa_cons (pv 0) pa_nil
   case' q28 => refine' pss_cons ?q33 ?q34
   case q33 =>
    refine' ps_if ?q35 ?q36 pss_nil
    case q35 =>
     refine' pt_truK (K := K) (by rfl) ?q37 (fun _ => rfl)
     case' q37 => refine' pe_callC (C_has_two_alike T) (hr.mono (by decide)) rfl ?q38
     case q38 => exact pa_cons (pv 3) pa_nil
    case' q36 => refine' pss_one ?q39
    case q39 => exact ps_never
   case' q34 => refine' pss_one ?q40
   case q40 => exact ps_ret (pv 3)
  have hz1 : ns.length <= 1000 := by omega
  refine ⟨_, rfl, _, _, _, _, _, rfl, rfl, ty_inj, .lst ha, kit_same, _, rfl, iteF ?_⟩
  refine ⟨Nat.zero_le _, fun e he => ⟨_, rfl, .inr (.inl ⟨e, a, [], ns.map V.int, rfl, rfl, upd_same, upd_get ha he, ?_, fun h hh => ?_⟩)⟩⟩
  ·rw [List.length_nil, List.length_map, Nat.zero_add]
   exact Nat.le_of_lt (small1000 hz1)
  have sh : Same H (upd (upd H e (.lst [])) h (.lst (ns.map V.int))) := (Same.upd he).trans (Same.upd hh)
  refine ⟨_, rfl, h, rfl, ⟨_, SqL.of upd_same⟩, for_list (K := K) (a := h) (xs := ns.map V.int) (fun i σ H2 => (∃ v, σ = [some (.ref a), some (.ref h), v, none]) /\ H2 = upd (upd H e (.lst [])) h (.lst (ns.map V.int)))
   ⟨⟨_, rfl⟩, rfl⟩ (fun i σ H2 _ ⟨_, z⟩ => by rw [z]; exact SqL.of upd_same) ?_ ?_⟩
  ·rintro i x σ H2 hx ⟨⟨v, rfl⟩, rfl⟩
   obtain ⟨z, _, rfl⟩ := getMap hx
   refine ⟨_, rfl, z, rfl, _, rfl, iteF ?_⟩
   exact ⟨⟨_, rfl⟩, rfl⟩
  rintro σ H2 ⟨⟨v, rfl⟩, rfl⟩
  refine ⟨_, rfl, h, rfl, ⟨_, SqL.of upd_same⟩, fun p hp => ?_⟩
  have ehp : h ≠ p := ne_of_none upd_same hp
  have hHp : H p = none := sh.free hp
  refine turns_list (K := K) (a := h) (xs := ns.map V.int) (fun i σ H2 => (∃ v, σ = [v]) /\ Same H H2 /\ H2 h = some (.lst (ns.map V.int)) /\ H2 p = some (.lst ((ns.take i).map V.int)))
   ⟨⟨_, rfl⟩, sh.trans (Same.upd hp), upd_get upd_same hp, upd_same⟩ (fun i σ H2 _ h => SqL.of h.2.2.1) ?_ ?_
  ·rintro i x σ H2 hx ⟨⟨v, rfl⟩, s2, h1, h2⟩
   obtain ⟨z, ez, rfl⟩ := getMap hx
   refine ⟨_, rfl, .inl ⟨z, rfl, _, h2, ?_, ⟨_, rfl⟩, ?_, ?_, ?_⟩⟩
   ·rw [List.length_map, List.length_take]
    exact small1000 (by omega)
   ·intro b o e
    rw [upd_ne (ne_of_none e hHp)]
    exact s2 b o e
   ·rw [upd_ne ehp]; exact h1
   ·rw [upd_same, take_snoc ez, List.map_append]
    rfl
  rintro σ H2 ⟨_, s2, h1, h2⟩
  rw [List.length_map, List.take_length] at h2
  refine ⟨_, rfl, p, ns, rfl, SqL.of h2, hz, fun H3 s3 => ⟨_, rfl, ?_⟩⟩
  rw [decide_eq_true hnd]
  refine iteF ?_
  exact ⟨_, rfl, k p H3 (s2.trans s3) hHp (s3 _ _ h2)⟩
def sp_checked_track : Sp := fun vs H Q _ => ∃ t n : Int, vs = [.int t, .int n] /\ 0 <= t /\ t < n /\ Q (.int t) H
theorem sc_checked_track : FnScope ["track", "many", "place"] ["track", "many"] (defScope s_checked_track) := ⟨rfl, rfl, rfl, by decide +kernel, rfl, by decide +kernel, by decide +kernel⟩
theorem C_checked_track (T : Tx K mg Z) : Ctr P w K mg base CX0 2 "checked_track" ["track", "many"] sp_checked_track := by
 refine ctr_of T.checked_track fun f fd F => F.ok sc_checked_track (fun vs H Q E h => ?_) (fun cdv A outer s H vs Q E hr h => ?_)
 ·obtain ⟨t, n, rfl, _⟩ := h
  rfl
 ·obtain ⟨t, n, rfl, h1, h2, q⟩ := h
  refine' ⟨_, ?hterm, ?_⟩
  case hterm =>
   refine' pss_cons ?q1 ?q2
   case q1 =>
    refine' ps_if ?q3 ?q4 pss_nil
    case q3 =>
     refine' pt_not ?q5
     case' q5 => refine' pt_truK (K := K) (by rfl) ?q6 (fun _ => rfl)
     case' q6 => refine' pe_callC (C_is_number T) (hr.mono (by decide)) rfl ?q7
     case q7 => exact pa_cons (pv 0) pa_nil
    case' q4 => refine' pss_one ?q8
    case q8 => exact ps_never
   case' q2 => refine' pss_cons ?q9 ?q10
   case q9 =>
    refine' ps_set (i := 2) sc_checked_track.nd rfl (Or.inl rfl) ?q11
    case q11 =>
     refine' pe_callTy call_int1 (by rfl) T.n_int b_int ?q12
     case q12 => exact pa_cons (pv 0) pa_nil
   case q10 =>
    refine' pss_cons ?q13 ?q14
    case q13 =>
     refine' ps_if ?q15 ?q16 pss_nil
     case q15 =>
      refine' PW.pt ?q17
      case' q17 => refine' pw_or ?q18 ?q19
      case q18 => exact pt_cmpR op_lt (pv 2) pe_int (nomark _)
      case' q19 => refine' pw_or1 ?q20
      case q20 => exact pt_cmpR op_ge (pv 2) (pv 1) (nomark _)
     case' q16 => refine' pss_one ?q21
     case q21 => exact ps_never
    case' q14 => refine' pss_one ?q22
    case q22 => exact ps_ret (pv 2)
  refine ⟨_, rfl, t, rfl, _, rfl, iteF ?_⟩
  refine ⟨_, rfl, .inl ⟨t, rfl, ?_⟩⟩
  refine ⟨_, rfl, t, 0, rfl, rfl, _, rfl, ?_⟩
  rw [decide_eq_false (show ¬ t < 0 by omega)]
  refine iteF ⟨_, rfl, _, rfl, t, n, rfl, rfl, _, rfl, ?_⟩
  rw [decide_eq_false (show ¬ n <= t by omega)]
  exact iteF ⟨_, rfl, q⟩
def sp_checked_word : Sp := fun vs H Q _ => ∃ b, vs = [.str (deed b)] /\ ∀ H', Same H H' -> Q (.str (deed b)) H'
theorem sc_checked_word : FnScope ["word", "plain"] ["word"] (defScope s_checked_word) := ⟨rfl, rfl, rfl, by decide +kernel, rfl, by decide +kernel, by decide +kernel⟩
theorem C_checked_word (T : Tx K mg Z) : Ctr P w K mg base CX0 1 "checked_word" ["word"] sp_checked_word := by
 refine ctr_of T.checked_word fun f fd F => F.ok sc_checked_word (fun vs H Q E h => ?_) (fun cdv A outer s H vs Q E hr h => ?_)
 ·obtain ⟨b, rfl, _⟩ := h
  rfl
 ·obtain ⟨b, rfl, k⟩ := h
  refine' ⟨_, ?hterm, ?_⟩
  case hterm =>
   refine' pss_cons ?q1 ?q2
   case q1 =>
    refine' ps_if ?q3 ?q4 pss_nil
    case q3 =>
     refine' pt_not ?q5
     case' q5 => refine' pt_truK (K := K) (by rfl) ?q6 (fun _ => rfl)
     case' q6 => refine' pe_callB (callK_isinstance (K := K) (by rfl)) (by rfl) T.n_isinstance b_isinstance ?q7
     case' q7 => refine' pa_cons (pv 0) ?q8
     case' q8 => refine' pa_cons ?q9 pa_nil
     case q9 => exact pe_tyN rfl T.n_str b_str
    case' q4 => refine' pss_one ?q10
    case q10 => exact ps_never
   case' q2 => refine' pss_cons ?q11 ?q12
   case q11 =>
    refine' ps_set (i := 1) sc_checked_word.nd rfl (Or.inl rfl) ?q13
    case' q13 => refine' pe_bmK (K := K) (by rfl) PySem.F.plainAttrs_str PySem.F.slot_str_join PySem.F.type_str_join (mt_joinK (K := K) (by rfl)) pe_str ?q14
    case' q14 => refine' pa_cons ?q15 pa_nil
    case' q15 => refine' pe_lst ?q16
    case q16 => exact pa_cons (pv 0) pa_nil
   case' q12 => refine' pss_cons ?q17 ?q18
   case q17 =>
    refine' ps_if ?q19 ?q20 pss_nil
    case q19 =>
     refine' pt_cmpR (op_notInK (K := K) (by rfl)) (pv 1) ?q21 (by with_unfolding_all rfl)
     case q21 => exact pe_clsN (by rfl) T.g_WORDS.1
    case' q20 => refine' pss_one ?q22
    case q22 => exact ps_never
   case' q18 => refine' pss_one ?q23
   case q23 => exact ps_ret (pv 1)
  refine ⟨_, rfl, _, _, _, _, _, rfl, rfl, ty_inj, .str _, kit_same, _, rfl, iteF ?_⟩
  refine ⟨rfl, _, rfl, (by show 1 <= sizeLine; decide), fun l hl => ⟨_, l, [deed b], rfl, rfl, SqL.of upd_same, ?_, ?_⟩⟩
  ·have := deed_len b
   show ((deed b).length + 0) + 1 * 0 <= 16777216
   omega
  rw [join_one]
  refine ⟨_, rfl, Z.gWORDS, _, rfl, .inr (T.g_WORDS.2 _), rfl, rfl, _, rfl, ?_⟩
  rw [deed_in]
  exact iteF ⟨_, rfl, k _ (Same.upd hl)⟩
def sp_checked_move : Sp := fun vs H Q _ => ∃ (m : Addr) (b : Bool) (t n : Int), vs = [.ref m, .int n] /\ H m = some (.tup [.str (deed b), .int t]) /\ 0 <= t /\ t < n /\
 ∀ p H', Same H H' -> H p = none -> H' p = some (.tup [.str (deed b), .int t]) -> Q (.ref p) H'
theorem sc_checked_move : FnScope ["move", "many", "pair"] ["move", "many"] (defScope s_checked_move) := ⟨rfl, rfl, rfl, by decide +kernel, rfl, by decide +kernel, by decide +kernel⟩
theorem C_checked_move (T : Tx K mg Z) : Ctr P w K mg base CX0 3 "checked_move" ["move", "many"] sp_checked_move := by
 refine ctr_of T.checked_move fun f fd F => F.ok sc_checked_move (fun vs H Q E h => ?_) (fun cdv A outer s H vs Q E hr h => ?_)
 ·obtain ⟨m, b, t, n, rfl, _⟩ := h
  rfl
 ·obtain ⟨m, b, t, n, rfl, hm, h1, h2, k⟩ := h
  refine' ⟨_, ?hterm, ?_⟩
  case hterm =>
   refine' pss_cons ?q1 ?q2
   case q1 =>
    refine' ps_if ?q3 ?q4 pss_nil
    case q3 =>
     refine' pt_not ?q5
     case' q5 => refine' pt_truK (K := K) (by rfl) ?q6 (fun _ => rfl)
     case' q6 => refine' pe_callB (callK_isinstance (K := K) (by rfl)) (by rfl) T.n_isinstance b_isinstance ?q7
     case' q7 => refine' pa_cons (pv 0) ?q8
     case' q8 => refine' pa_cons ?q9 pa_nil
     case q9 => exact pe_tyN rfl T.n_tuple b_tuple
    case' q4 => refine' pss_one ?q10
    case q10 => exact ps_never
   case' q2 => refine' pss_cons ?q11 ?q12
   case q11 =>
    refine' ps_set (i := 2) sc_checked_move.nd rfl (Or.inl rfl) ?q13
    case' q13 => refine' pe_op (op_addK (K := K) (by rfl)) ?q14 (pv 0)
    case q14 => exact pe_tup pa_nil
   case' q12 => refine' pss_cons ?q15 ?q16
   case q15 =>
    refine' ps_if ?q17 ?q18 pss_nil
    case q17 =>
     refine' pt_cmpR (op_neK (K := K) (by rfl) (by exact hr.units)) ?q19 pe_int (nomark _)
     case' q19 => refine' pe_callB (callK_len (K := K) (by rfl)) (by rfl) T.n_len b_len ?q20
     case q20 => exact pa_cons (pv 2) pa_nil
    case' q18 => refine' pss_one ?q21
    case q21 => exact ps_never
   case' q16 => refine' pss_one ?q22
   case' q22 => refine' ps_ret ?q23
   case' q23 => refine' pe_tup ?q24
   case' q24 => refine' pa_cons ?q25 ?q26
   case q25 =>
    refine' pe_callC (C_checked_word T) (hr.mono (by decide)) rfl ?q27
    case' q27 => refine' pa_cons ?q28 pa_nil
    case q28 => exact pe_ix (ix_K (K := K) (by rfl)) (pv 2) pe_int (fun _ _ => rfl)
   case' q26 => refine' pa_cons ?q29 pa_nil
   case' q29 => refine' pe_callC (C_checked_track T) (hr.mono (by decide)) rfl ?q30
   case q30 =>
    refine' pa_cons ?q31 ?q32
    case q31 => exact pe_ix (ix_K (K := K) (by rfl)) (pv 2) pe_int (fun _ _ => rfl)
    case q32 => exact pa_cons (pv 1) pa_nil
  refine ⟨_, rfl, _, _, _, _, _, rfl, rfl, ty_inj, .tup hm, kit_same, _, rfl, iteF ?_⟩
  refine ⟨Nat.zero_le _, fun e he => ⟨_, rfl, .inr (.inr (.inl ⟨e, m, [], _, rfl, rfl, SqT.of upd_same, SqT.of (upd_get hm he), (by show 0 + 2 <= sizeLine; decide), fun _ => ?_, fun z => absurd rfl z, fun z => absurd rfl z⟩))⟩⟩
  have hm1 : upd H e (.tup []) m = some (.tup [.str (deed b), .int t]) := upd_get hm he
  refine ⟨_, rfl, _, 2, rfl, .inr ⟨_, SqT.of hm1, rfl⟩, .inl ⟨rfl, _, rfl, iteNS rfl ?_⟩⟩
  refine ⟨_, rfl, .inr ⟨m, _, 0, _, rfl, rfl, SqT.of hm1, rfl, b, rfl, fun H2 s2 => ?_⟩⟩
  refine ⟨_, rfl, .inr ⟨m, _, 1, _, rfl, rfl, SqT.of (s2 _ _ hm1), rfl, _, rfl, t, n, rfl, h1, h2, (by show 2 <= sizeLine; decide), fun p hp => ?_⟩⟩
  have s3 : Same H H2 := (Same.upd he).trans s2
  exact k p _ (s3.trans (Same.upd hp)) (s3.free hp) upd_same
def sp_are_places (K : PySem.W.Frag) : Sp := fun vs H Q _ => ∃ (pA tA : Addr) (ps : List Int) (xs : List V), vs = [.ref pA, .ref tA] /\ H pA = some (.lst (ps.map V.int)) /\ ps.length <= 1000 /\ H tA = some (.lst xs) /\ ∀ H', Same H H' -> Q (.bl (inb xs.length ps)) H'
theorem sc_are_places : FnScope ["places", "train"] ["places", "train"] (defScope s_are_places) := ⟨rfl, rfl, rfl, by decide +kernel, rfl, by decide +kernel, by decide +kernel⟩
theorem C_are_places (T : Tx K mg Z) : Ctr P w K mg base CX0 2 "are_places" ["places", "train"] (sp_are_places K) := by
 refine ctr_of T.are_places fun f fd F => F.ok sc_are_places (fun vs H Q E h => ?_) (fun cdv A outer s H vs Q E hr h => ?_)
 ·obtain ⟨pA, tA, ps, xs, rfl, _⟩ := h
  rfl
 ·obtain ⟨pA, tA, ps, xs, rfl, hp, hz, ht, kQ⟩ := h
  refine' ⟨_, ?hterm, ?_⟩
  case hterm =>
   refine' pss_one ?q1
   case' q1 => refine' ps_ret ?q2
   case' q2 => refine' pe_callB (callK_all (K := K) (by rfl) (by rfl)) (by rfl) T.n_all b_all ?q3
   case' q3 => refine' pa_cons ?q4 pa_nil
   case' q4 => refine' pe_comp rfl (csc_of (sc := defScope s_are_places) (N := ["places", "train"]) (cap := [none, some 1]) (N' := ["place", "train"]) rfl rfl ⟨ rfl, by decide +kernel, by decide +kernel, by decide +kernel, rfl, by decide +kernel ⟩) ?q5 (fun _ _ _ _ => ?q6) (fun _ _ _ _ => pif_nil) (fun _ _ _ _ => ?q7)
   case q5 => exact pi_listK (K := K) (by rfl) (pv 0)
   case q6 => exact pg_name (i := 0) (show List.Nodup (["place", "train"] : List Str) from by decide +kernel) (by rfl) (by exact Or.inl rfl)
   case q7 =>
    refine' pe_and ?q8 ?q9
    case q8 =>
     refine' pe_callC (C_is_number T) (hr.mono (by decide)) rfl ?q10
     case q10 => exact pa_cons (pv 0) pa_nil
    case' q9 => refine' pe_one ?q11
    case q11 =>
     refine' pe_chain op_le op_lt pe_int (pv 0) ?q12
     case' q12 => refine' pe_callB (callK_len (K := K) (by rfl)) (by rfl) T.n_len b_len ?q13
     case q13 => exact pa_cons (pv 1) pa_nil
  refine ⟨_, rfl, pA, rfl, ⟨_, SqL.of hp⟩, fun l hl => ?_⟩
  refine turns_list (K := K) (a := pA) (xs := ps.map V.int) (fun i σ H2 => (∃ v, σ = [v, some (.ref tA)]) /\ Same H H2 /\ H2 l = some (.lst (((ps.take i).map fun (p : Int) => decide (0 <= p) && decide (p < (xs.length : Int))).map V.bl)))
   ⟨⟨_, rfl⟩, Same.upd hl, upd_same⟩ (fun i σ H2 _ h => SqL.of (h.2.1 _ _ hp)) ?_ ?_
  ·rintro i x σ H2 hx ⟨⟨v, rfl⟩, s2, h2⟩
   obtain ⟨z, ez, rfl⟩ := getMap hx
   have fin : ∀ c : Bool, c = (decide (0 <= z) && decide (z < (xs.length : Int))) -> ∃ ys, H2 l = some (.lst ys) /\ ys.length < sizeLine /\ ((∃ v, [some (V.int z), some (V.ref tA)] = [v, some (.ref tA)]) /\ Same H (upd H2 l (.lst (ys ++ [.bl c]))) /\ upd H2 l (.lst (ys ++ [.bl c])) l = some (.lst (((ps.take (i + 1)).map fun (p : Int) => decide (0 <= p) && decide (p < (xs.length : Int))).map V.bl))) := by
    intro c hc
    refine ⟨_, h2, ?_, ⟨_, rfl⟩, Same.updN s2 hl, ?_⟩
    ·rw [List.length_map, List.length_map, List.length_take]
     exact small1000 (by omega)
    ·rw [upd_same, take_snoc ez, List.map_append, List.map_append, hc]
     rfl
   refine ⟨_, rfl, z, rfl, _, rfl, iteT ?_⟩
   refine ⟨_, rfl, 0, z, rfl, rfl, _, rfl, ?_⟩
   by_cases h0 : (0 : Int) <= z
   ·rw [decide_eq_true h0]
    refine iteT ⟨_, rfl, _, _, rfl, .inl ⟨_, SqL.of (s2 _ _ ht), rfl⟩, z, _, rfl, rfl, ?_⟩
    exact fin _ (by rw [decide_eq_true h0, Bool.true_and])
   ·rw [decide_eq_false h0]
    exact iteF (fin _ (by rw [decide_eq_false h0, Bool.false_and]))
  ·rintro σ H2 ⟨_, s2, h2⟩
   rw [List.length_map, List.take_length] at h2
   refine ⟨l, _, rfl, SqL.of h2, ?_⟩
   have := kQ H2 s2
   unfold inb at this
   rw [List.all_map]
   exact this
def sp_are_rising (K : PySem.W.Frag) : Sp := fun vs H Q _ => ∃ (pA tA : Addr) (ps : List Int) (xs : List V), vs = [.ref pA, .ref tA] /\ H pA = some (.lst (ps.map V.int)) /\ ps.length <= 1000 /\ H tA = some (.lst xs) /\ ∀ H', Same H H' -> Q (.bl (rises xs.length (-1) ps)) H'
theorem sc_are_rising_places : FnScope ["places", "train"] ["places", "train"] (defScope s_are_rising_places) := ⟨rfl, rfl, rfl, by decide +kernel, rfl, by decide +kernel, by decide +kernel⟩
theorem C_are_rising_places (T : Tx K mg Z) : Ctr P w K mg base CX0 3 "are_rising_places" ["places", "train"] (sp_are_rising K) := by
 refine ctr_of T.are_rising_places fun f fd F => F.ok sc_are_rising_places (fun vs H Q E h => ?_) (fun cdv A outer s H vs Q E hr h => ?_)
 ·obtain ⟨pA, tA, ps, xs, rfl, _⟩ := h
  rfl
 ·obtain ⟨pA, tA, ps, xs, rfl, hp, hz, ht, kQ⟩ := h
  refine' ⟨_, ?hterm, ?_⟩
  case hterm =>
   refine' pss_one ?q1
   case' q1 => refine' ps_ret ?q2
   case' q2 => refine' pe_and ?q3 ?q4
   case q3 =>
    refine' pe_callC (C_are_places T) (hr.mono (by decide)) rfl ?q5
    case' q5 => refine' pa_cons (pv 0) ?q6
    case q6 => exact pa_cons (pv 1) pa_nil
   case' q4 => refine' pe_one ?q7
   case q7 =>
    refine' pe_callB (callK_all (K := K) (by rfl) (by rfl)) (by rfl) T.n_all b_all ?q8
    case' q8 => refine' pa_cons ?q9 pa_nil
    case' q9 => refine' pe_comp rfl (csc_of (sc := defScope s_are_rising_places) (N := ["places", "train"]) (cap := [none, none]) (N' := ["ahead", "place"]) rfl rfl ⟨ rfl, by decide +kernel, by decide +kernel, by decide +kernel, rfl, by decide +kernel ⟩) ?q10 (fun _ _ _ _ => ?q11) (fun _ _ _ _ => pif_nil) (fun _ _ _ _ => ?q12)
    case q10 =>
     refine' pi_zipK (K := K) (by rfl) rfl T.n_zip ?q13
     case' q13 => refine' pa_cons (pv 0) ?q14
     case' q14 => refine' pa_cons ?q15 pa_nil
     case' q15 => refine' pe_slice (sl_K (K := K) (by rfl)) (pv 0) ?q16 po_none
     case q16 => exact po_some pe_int
    case q11 =>
     refine' pg_tupK (K := K) (n := 2) (by rfl) rfl ?q17
     case' q17 => refine' pgs_cons ?q18 ?q19
     case q18 => exact pg_name (i := 0) (show List.Nodup (["ahead", "place"] : List Str) from by decide +kernel) (by rfl) (by exact Or.inl rfl)
     case' q19 => refine' pgs_cons ?q20 pgs_nil
     case q20 => exact pg_name (i := 1) (show List.Nodup (["ahead", "place"] : List Str) from by decide +kernel) (by rfl) (by exact Or.inl rfl)
    case q12 => exact pe_cmpR op_lt (pv 0) (pv 1) (nomark _)
  refine ⟨_, rfl, _, rfl, pA, tA, ps, xs, rfl, hp, hz, ht, fun H1 s1 => ⟨_, rfl, ?_⟩⟩
  cases hin : inb xs.length ps with
  | false =>
   refine iteF ?_
   have := kQ H1 s1
   rw [rises_eq, hin, Bool.false_and] at this
   exact this
  | true =>
   refine iteT ?_
   have hp1 := s1 _ _ hp
   refine ⟨_, rfl, _, rfl, _, rfl, pA, _, rfl, SqL.of hp1, fun q hq => ?_⟩
   have ecut : cutV (ps.map V.int) (some 1) none = (ps.drop 1).map V.int := by rw [show (1 : Int) = ((1 : Nat) : Int) from rfl, cutV_from, List.map_drop]
   rw [ecut]
   refine ⟨pA, q, rfl, ⟨_, SqL.of (upd_get hp1 hq)⟩, ⟨_, SqL.of upd_same⟩, fun l hl => ?_⟩
   have s2 : Same H (upd H1 q (.lst ((ps.drop 1).map V.int))) := s1.trans (Same.upd hq)
   have hlH : H l = none := s2.free hl
   have eql : q ≠ l := ne_of_none upd_same hl
   refine turns_zip (K := K) (xs := ps.map V.int) (ys := (ps.drop 1).map V.int)
    (fun i σ H2 => (∃ a b, σ = [a, b]) /\ Same H H2 /\ H2 q = some (.lst ((ps.drop 1).map V.int)) /\ H2 l = some (.lst (((lts ps).take i).map V.bl)))
    ⟨⟨_, _, rfl⟩, s2.trans (Same.upd hl), by rw [upd_ne eql, upd_same], upd_same⟩ (fun i σ H2 h => ⟨SqL.of (h.2.1 _ _ hp), SqL.of h.2.2.1⟩) ?_ ?_
   ·rintro i x y t σ H2 hx hy ⟨⟨a1, b1, rfl⟩, s3, h2, h3⟩ ht'
    obtain ⟨z, ez, rfl⟩ := getMap hx
    obtain ⟨z', ez', rfl⟩ := getMap hy
    refine ⟨t, _, rfl, SqT.of upd_same, rfl, _, _, rfl, _, _, rfl, rfl, ?_⟩
    refine ⟨_, rfl, _, rfl, z, z', rfl, rfl, ?_⟩
    have e3 : upd H2 t (.tup [.int z, .int z']) l = some (.lst (((lts ps).take i).map V.bl)) := upd_get h3 ht'
    refine ⟨_, e3, ?_, ⟨_, _, rfl⟩, Same.updN (s3.trans (Same.upd ht')) hlH, ?_, ?_⟩
    ·rw [List.length_map, List.length_take, lts_len]
     exact small1000 (by omega)
    ·rw [upd_ne eql]; exact upd_get h2 ht'
    ·rw [upd_same, List.take_add_one, lts_get ez ez', List.map_append]
     rfl
   ·rintro σ H2 ⟨_, s3, _, h3⟩
    refine ⟨l, lts ps, rfl, SqL.of ?_, ?_⟩
    ·rw [h3, List.take_of_length_le]
     rw [lts_len, List.length_map, List.length_map, List.length_drop]
     exact Nat.le_refl _
    ·have := kQ H2 s3
     rw [rises_eq, hin, Bool.true_and] at this
     exact this
def TabH (Z : Adr) (H : Hp) : Prop := H Z.lt_places_in_order = some (.tbl lp_places_in_order lq_places_in_order)
theorem TabH.of {H : Hp} (T : Tx K mg Z) (h : TabsIn K lams H) : TabH Z H := h _ _ (tabs_one T.lo_places_in_order)
theorem TabH.same {H H' : Hp} (h : TabH Z H) (s : Same H H') : TabH Z H' := s _ _ h
def sp_places (Z : Adr) : Sp := fun vs H Q _ => ∃ (a : Addr) (T : List Int), vs = [.ref a] /\ H a = some (.lst (T.map V.int)) /\ T.length <= 63 /\ TabH Z H /\ ∀ (l : Addr) (H' : Hp) (ord : List Nat), Same H H' -> H l = none -> Rank T ord -> H' l = some (.lst (ordV ord)) -> Q (.ref l) H'
theorem sc_places_in_order : FnScope ["wagons"] ["wagons"] (defScope s_places_in_order) := ⟨rfl, rfl, rfl, by decide +kernel, rfl, by decide +kernel, by decide +kernel⟩
theorem C_places_in_order (T : Tx K mg Z) : Ctr P w K mg base CX0 3 "places_in_order" ["wagons"] (sp_places Z) := by
 refine ctr_ofC T.lm_places_in_order fun f fd F hc => F.okC hc sc_places_in_order (fun vs H Q E h => ?_) (fun A outer s H vs Q E hr h => ?_)
 ·obtain ⟨a, T, rfl, _⟩ := h
  rfl
 ·obtain ⟨a, tr, rfl, ha, hz, hP, k⟩ := h
  refine' ⟨_, ?hterm, ?_⟩
  case hterm =>
   refine' pss_one ?q1
   case' q1 => refine' ps_ret ?q2
   case q2 =>
    refine' pe_key (k := 0) (P := Z.lt_places_in_order) (c := Z.lc_places_in_order) (x := "place") (y := "wagons") (j := 0) sortTo63 (by decide) ?q3 (hr.mono (by decide)) rfl (fun kin => PySem.W.codeHd_of_K kin T.lm_places_in_order.hd)
     (csc_of (sc := defScope s_places_in_order) (N := ["wagons"]) (cap := [none, some 0]) (N' := ["place", "wagons"]) rfl rfl ⟨rfl, by decide +kernel, by decide +kernel, by decide +kernel, rfl, by decide +kernel⟩) rfl rfl rfl rfl (by rfl) T.n_sorted rfl (fun _ _ _ _ _ => rfl)
    case' q3 => refine' pe_callTy call_rangeV (by rfl) T.n_range b_range ?q4
    case' q4 => refine' pa_cons ?q5 pa_nil
    case' q5 => refine' pe_callB (callK_len (K := K) (by rfl)) (by rfl) T.n_len b_len ?q6
    case q6 => exact pa_cons (pv 0) pa_nil
  refine ⟨_, rfl, _, _, rfl, .inl ⟨_, SqL.of ha, rfl⟩, 0, _, .inl ⟨rfl, rfl⟩, fun r hr' => ⟨r, a, tr, rfl, ?_, rfl, upd_get ha hr', hz, upd_get hP hr', fun l H' ord s1 hl hord hl' => k l H' ord ((Same.upd hr').trans s1) ((Same.upd hr').free hl) hord hl'⟩⟩
  rw [upd_same, List.length_map]
def Falls (la : List Int) : Prop := ∀ (i j : Nat) (x y : Int), i < j -> la[i]? = some x -> la[j]? = some y -> y < x
def sp_first : Sp := fun vs H Q _ => ∃ (l : Addr) (z : Int) (la : List Int), vs = [.ref l, .int z] /\ H l = some (.lst (la.map V.int)) /\ Falls la /\ Q (.int ((Thr.fst la z : Nat) : Int)) H
theorem sc_first_of_a_lesser : FnScope ["falling", "wagon", "low", "high", "middle"] ["falling", "wagon"] (defScope s_first_of_a_lesser) := ⟨rfl, rfl, rfl, by decide +kernel, rfl, by decide +kernel, by decide +kernel⟩
theorem C_first_of_a_lesser (T : Tx K mg Z) : Ctr P w K mg base CX0 1 "first_of_a_lesser" ["falling", "wagon"] sp_first := by
 refine ctr_of T.first_of_a_lesser fun f fd F => F.ok sc_first_of_a_lesser (fun vs H Q E h => ?_) (fun cdv A outer s H vs Q E hr h => ?_)
 ·obtain ⟨l, z, la, rfl, _⟩ := h
  rfl
 ·obtain ⟨l, z, la, rfl, hl, hf, kQ⟩ := h
  refine' ⟨_, ?hterm, ?_⟩
  case hterm =>
   refine' pss_cons ?q1 ?q2
   case q1 => exact ps_set (i := 2) sc_first_of_a_lesser.nd rfl (Or.inl rfl) pe_int
   case' q2 => refine' pss_cons ?q3 ?q4
   case q3 =>
    refine' ps_set (i := 3) sc_first_of_a_lesser.nd rfl (Or.inl rfl) ?q5
    case' q5 => refine' pe_callB (callK_len (K := K) (by rfl)) (by rfl) T.n_len b_len ?q6
    case q6 => exact pa_cons (pv 0) pa_nil
   case' q4 => refine' pss_cons ?q7 ?q8
   case q7 =>
    refine' ps_while HP ?q9 ?q10
    case q9 => exact pt_cmpR op_lt (pv 2) (pv 3) (nomark _)
    case' q10 => refine' pss_cons ?q11 ?q12
    case q11 =>
     refine' ps_set (i := 4) sc_first_of_a_lesser.nd rfl (Or.inl rfl) ?q13
     case' q13 => refine' pe_op op_fdiv ?q14 pe_int
     case q14 => exact pe_op (op_addK (K := K) (by rfl)) (pv 2) (pv 3)
    case q12 =>
     refine' pss_one ?q15
     case' q15 => refine' ps_if ?q16 ?q17 ?q18
     case q16 =>
      refine' pt_cmpR op_lt ?q19 (pv 1) (nomark _)
      case q19 => exact pe_ix (ix_K (K := K) (by rfl)) (pv 0) (pv 4) (fun _ _ => rfl)
     case q17 =>
      refine' pss_one ?q20
      case q20 => exact ps_set (i := 3) sc_first_of_a_lesser.nd rfl (Or.inl rfl) (pv 4)
     case' q18 => refine' pss_one ?q21
     case' q21 => refine' ps_set (i := 2) sc_first_of_a_lesser.nd rfl (Or.inl rfl) ?q22
     case q22 => exact pe_op (op_addK (K := K) (by rfl)) (pv 4) pe_int
   case' q8 => refine' pss_one ?q23
   case q23 => exact ps_ret (pv 2)
  refine ⟨_, rfl, _, _, rfl, .inl ⟨_, SqL.of hl, rfl⟩, ?_⟩
  refine ⟨fun m σ H1 => ∃ (lo hi : Nat) (v : Option V), m = hi - lo /\ H1 = H /\ σ = [some (.ref l), some (.int z), some (.int (lo : Int)), some (.int (hi : Int)), v] /\ lo <= hi /\ hi <= la.length /\ (∀ (i : Nat) (x : Int), i < lo -> la[i]? = some x -> z <= x) /\ (hi = la.length \/ ∃ x, la[hi]? = some x /\ x < z),
   ⟨_, 0, la.length, none, rfl, rfl, by rw [List.length_map]; rfl, Nat.zero_le _, Nat.le_refl _, fun i x h => absurd h (Nat.not_lt_zero _), .inl rfl⟩, ?_⟩
  rintro m σ H1 ⟨lo, hi, v, rfl, rfl, rfl, h1, h2, h3, h4⟩
  refine ⟨_, rfl, _, rfl, _, _, rfl, rfl, _, rfl, ?_⟩
  by_cases hlt : lo < hi
  ·rw [decide_eq_true (show (lo : Int) < (hi : Int) by omega)]
   refine iteT ⟨fun σ' H' => ∃ m', m' < hi - lo /\ ∃ (lo hi : Nat) (v : Option V), m' = hi - lo /\ H' = H1 /\ σ' = [some (.ref l), some (.int z), some (.int (lo : Int)), some (.int (hi : Int)), v] /\ lo <= hi /\ hi <= la.length /\ (∀ (i : Nat) (x : Int), i < lo -> la[i]? = some x -> z <= x) /\ (hi = la.length \/ ∃ x, la[hi]? = some x /\ x < z), fun σ' H' q => q, ?_⟩
   refine ⟨_, rfl, _, rfl, .inl ⟨_, _, rfl, rfl, _, 2, rfl, rfl, (by unfold CDiv; decide), ?_⟩⟩
   obtain ⟨mi, hmi⟩ : ∃ mi : Nat, ((lo : Int) + (hi : Int)) / 2 = (mi : Int) := ⟨(((lo : Int) + (hi : Int)) / 2).toNat, by omega⟩
   dsimp only
   rw [hmi]
   have hm1 : lo <= mi := by omega
   have hm2 : mi < hi := by omega
   have em : la[mi]? = some (la[mi]'(by omega)) := List.getElem?_eq_getElem (by omega)
   generalize la[mi]'(by omega) = x at em
   refine ⟨_, rfl, _, rfl, .inl ⟨l, _, (mi : Int), .int x, rfl, rfl, SqL.of hl, atI_nat (by rw [List.getElem?_map, em]; rfl), _, rfl, _, _, rfl, rfl, _, rfl, ?_⟩⟩
   by_cases hx : x < z
   ·refine iteDT hx ⟨_, rfl, mi - lo, by omega, lo, mi, _, rfl, rfl, rfl, hm1, by omega, h3, .inr ⟨x, em, hx⟩⟩
   ·refine iteDF hx ⟨_, rfl, .inl ⟨_, 1, rfl, rfl, hi - (mi + 1), by omega, mi + 1, hi, _, rfl, rfl, rfl, by omega, h2, fun i y hi' e => ?_, h4⟩⟩
    rcases Nat.lt_or_ge i mi with q | q
    ·have := hf i mi y x q e em
     omega
    ·rw [show i = mi from by omega, em] at e
     cases e
     omega
  ·rw [decide_eq_false (show ¬ (lo : Int) < (hi : Int) by omega)]
   have e : hi = lo := by omega
   subst e
   rw [Thr.fst_eq h3 h4 h2] at kQ
   exact iteF ⟨_, rfl, kQ⟩
theorem la_le (T : List Int) : ∀ k, k <= T.length -> (Thr.run (T.take k)).la.length <= k
 | 0, _ => by rw [List.take_zero]; exact Nat.le_refl _
 | k + 1, h => by
  have e : T.take (k + 1) = T.take k ++ [T[k]] := by rw [List.take_add_one, List.getElem?_eq_getElem (by omega)]; rfl
  have := la_le T k (by omega)
  rw [e, Thr.run_snoc]
  show (Thr.put _ _ _).length <= _
  rw [Thr.put_len]
  split <;> omega
def sp_tracks : Sp := fun vs H Q _ => ∃ (a : Addr) (T : List Int), vs = [.ref a] /\ H a = some (.lst (T.map V.int)) /\ T.length < 64 /\ T.Nodup /\ ∀ (l : Addr) (H' : Hp), Same H H' -> H l = none -> H' l = some (.lst (ordV (Thr.run T).tr)) -> Q (.ref l) H'
theorem sc_tracks_through : FnScope ["wagons", "tracks", "last_ones", "wagon", "track"] ["wagons"] (defScope s_tracks_through) := ⟨rfl, rfl, rfl, by decide +kernel, rfl, by decide +kernel, by decide +kernel⟩
theorem C_tracks_through (T : Tx K mg Z) : Ctr P w K mg base CX0 2 "tracks_through" ["wagons"] sp_tracks := by
 refine ctr_of T.tracks_through fun f fd F => F.ok sc_tracks_through (fun vs H Q E h => ?_) (fun cdv A outer s H vs Q E hr h => ?_)
 ·obtain ⟨a, T, rfl, _⟩ := h
  rfl
 ·obtain ⟨a, tr, rfl, ha, hz, hnd, k⟩ := h
  refine' ⟨_, ?hterm, ?_⟩
  case hterm =>
   refine' pss_cons ?q1 ?q2
   case q1 =>
    refine' ps_set (i := 1) sc_tracks_through.nd rfl (Or.inl rfl) ?q3
    case q3 => exact pe_lst pa_nil
   case' q2 => refine' pss_cons ?q4 ?q5
   case q4 =>
    refine' ps_set (i := 2) sc_tracks_through.nd rfl (Or.inl rfl) ?q6
    case q6 => exact pe_lst pa_nil
   case' q5 => refine' pss_cons ?q7 ?q8
   case q7 =>
    refine' ps_for HP rfl ?q9 ?q10 ?q11
    case q9 => exact pi_listK (K := K) (by rfl) (pv 0)
    case q10 => exact pg_name (i := 3) sc_tracks_through.nd (by rfl) (by exact Or.inl rfl)
    case q11 =>
     refine' pss_cons ?q12 ?q13
     case q12 =>
      refine' ps_set (i := 4) sc_tracks_through.nd rfl (Or.inl rfl) ?q14
      case' q14 => refine' pe_callC (C_first_of_a_lesser T) (hr.mono (by decide)) rfl ?q15
      case' q15 => refine' pa_cons (pv 2) ?q16
      case q16 => exact pa_cons (pv 3) pa_nil
     case' q13 => refine' pss_cons ?q17 ?q18
     case q17 =>
      refine' ps_if ?q19 ?q20 ?q21
      case q19 =>
       refine' pt_cmpR (op_eqK (K := K) (by rfl) (by exact hr.units)) (pv 4) ?q22 (nomark _)
       case' q22 => refine' pe_callB (callK_len (K := K) (by rfl)) (by rfl) T.n_len b_len ?q23
       case q23 => exact pa_cons (pv 2) pa_nil
      case q20 =>
       refine' pss_one ?q24
       case' q24 => refine' ps_expr ?q25
       case' q25 => refine' pe_bmK (K := K) (by rfl) PySem.F.plainAttrs_list PySem.F.slot_list_append PySem.F.type_list_append mt_append (pv 2) ?q26
       case q26 => exact pa_cons (pv 3) pa_nil
      case' q21 => refine' pss_one ?q27
      case' q27 => refine' ps_asg (pv 3) ?q28
      case q28 => exact pg_sub (pv 2) (pv 4) set_list
     case' q18 => refine' pss_one ?q29
     case' q29 => refine' ps_expr ?q30
     case' q30 => refine' pe_bmK (K := K) (by rfl) PySem.F.plainAttrs_list PySem.F.slot_list_append PySem.F.type_list_append mt_append (pv 1) ?q31
     case q31 => exact pa_cons (pv 4) pa_nil
   case' q8 => refine' pss_one ?q32
   case q32 => exact ps_ret (pv 1)
  refine ⟨Nat.zero_le _, fun t ht => ⟨Nat.zero_le _, fun l hl => ?_⟩⟩
  have htl : t ≠ l := ne_of_none upd_same hl
  have s0 : Same H (upd (upd H t (.lst [])) l (.lst [])) := (Same.upd ht).trans (Same.upd hl)
  have hlH : H l = none := (Same.upd ht).free hl
  refine ⟨_, rfl, a, rfl, ⟨_, SqL.of (s0 _ _ ha)⟩, for_list (K := K) (a := a) (xs := tr.map V.int) (fun i σ H2 => (∃ v3 v4, σ = [some (.ref a), some (.ref t), some (.ref l), v3, v4]) /\ Same H H2 /\ H2 t = some (.lst (ordV (Thr.run (tr.take i)).tr)) /\ H2 l = some (.lst ((Thr.run (tr.take i)).la.map V.int)))
   ⟨⟨_, _, rfl⟩, s0, by rw [upd_ne htl, upd_same]; rfl, upd_same⟩ (fun i σ H2 _ h => SqL.of (h.2.1 _ _ ha)) ?_ ?_⟩
  ·rintro i x σ H2 hx ⟨⟨v3, v4, rfl⟩, s2, h1, h2⟩
   obtain ⟨z, ez, rfl⟩ := getMap hx
   have hi : i < tr.length := (List.getElem?_eq_some_iff.mp ez).1
   have kk := Thr.K.run (T := tr.take i) (hnd.sublist (List.take_sublist _ _))
   have hlt : (Thr.run (tr.take i)).tr.length = i := by rw [kk.len, List.length_take]; omega
   have hal : (Thr.run (tr.take i)).la.length <= i := la_le tr i (by omega)
   have en : Thr.run (tr.take (i + 1)) = Thr.step (Thr.run (tr.take i)) z := by rw [take_snoc ez, Thr.run_snoc]
   have hfl := Thr.fst_le (Thr.run (tr.take i)).la z
   refine ⟨_, rfl, _, rfl, l, z, _, rfl, h2, kk.fall, ?_⟩
   have fin : ∀ H3 : Hp, Same H H3 -> H3 t = some (.lst (ordV (Thr.run (tr.take i)).tr)) -> H3 l = some (.lst ((Thr.run (tr.take (i + 1))).la.map V.int)) -> (ordV (Thr.run (tr.take i)).tr).length < sizeLine /\
     ((∃ v3 v4, [some (V.ref a), some (.ref t), some (.ref l), some (.int z), some (.int ((Thr.fst (Thr.run (tr.take i)).la z : Nat) : Int))] = [some (.ref a), some (.ref t), some (.ref l), v3, v4]) /\ Same H (upd H3 t (.lst (ordV (Thr.run (tr.take i)).tr ++ [.int ((Thr.fst (Thr.run (tr.take i)).la z : Nat) : Int)]))) /\
     upd H3 t (.lst (ordV (Thr.run (tr.take i)).tr ++ [.int ((Thr.fst (Thr.run (tr.take i)).la z : Nat) : Int)])) t = some (.lst (ordV (Thr.run (tr.take (i + 1))).tr)) /\
     upd H3 t (.lst (ordV (Thr.run (tr.take i)).tr ++ [.int ((Thr.fst (Thr.run (tr.take i)).la z : Nat) : Int)])) l = some (.lst ((Thr.run (tr.take (i + 1))).la.map V.int))) := by
    intro H3 s3 e1 e2
    refine ⟨by rw [List.length_map, hlt]; exact small1000 (by omega), ⟨_, _, rfl⟩, Same.updN s3 ht, ?_, ?_⟩
    ·rw [upd_same, en]
     show _ = some (HO.lst (List.map _ (_ ++ [_])))
     rw [List.map_append]
     rfl
    ·rw [upd_ne (Ne.symm htl)]
     exact e2
   refine ⟨_, rfl, _, rfl, _, _, rfl, .inl ⟨_, SqL.of h2, rfl⟩, .inl ⟨rfl, _, rfl, ?_⟩⟩
   rw [List.length_map]
   by_cases hq : Thr.fst (Thr.run (tr.take i)).la z = (Thr.run (tr.take i)).la.length
   ·refine iteDT (by rw [hq]) ?_
    refine ⟨_, rfl, .inl ⟨rfl, _, SqL.of h2⟩, _, rfl, l, _, _, rfl, rfl, h2, by rw [List.length_map]; exact small1000 (by omega), ?_⟩
    refine ⟨_, rfl, .inl ⟨rfl, _, SqL.of (by rw [upd_ne htl]; exact h1)⟩, _, rfl, t, _, _, rfl, rfl, by rw [upd_ne htl]; exact h1, ?_⟩
    refine fin _ (Same.updN s2 hlH) (by rw [upd_ne htl]; exact h1) ?_
    rw [upd_same, en]
    show _ = some (HO.lst (List.map V.int (Thr.put _ _ _)))
    unfold Thr.put
    rw [if_pos hq, List.map_append]
    rfl
   ·refine iteDF (fun e => hq (by have := V.int.inj e; omega)) ?_
    refine ⟨_, rfl, _, rfl, _, rfl, l, _, _, Thr.fst (Thr.run (tr.take i)).la z, rfl, rfl, h2, ixN_nat (by rw [List.length_map]; omega), ?_⟩
    refine ⟨_, rfl, .inl ⟨rfl, _, SqL.of (by rw [upd_ne htl]; exact h1)⟩, _, rfl, t, _, _, rfl, rfl, by rw [upd_ne htl]; exact h1, ?_⟩
    refine fin _ (Same.updN s2 hlH) (by rw [upd_ne htl]; exact h1) ?_
    rw [upd_same, en]
    show _ = some (HO.lst (List.map V.int (Thr.put _ _ _)))
    unfold Thr.put
    rw [if_neg hq, List.map_set]
  ·rintro σ H2 ⟨⟨v3, v4, rfl⟩, s2, h1, h2⟩
   rw [List.length_map, List.take_length] at h1
   exact ⟨_, rfl, k t H2 s2 ht h1⟩
def sp_falling_to : Sp := fun vs H Q _ => ∃ (a : Addr) (z : Int) (T : List Int) (s : Thr.S), vs = [.ref a, .int z] /\ H a = some (.lst (ordV s.tr)) /\ Thr.K T s /\ T.length < 64 /\
 ((∃ n : Nat, z = (n : Int) /\ ∀ (l : Addr) (H' : Hp) (ps : List Nat) (wanted : Int), Same H H' -> H l = none -> H' l = some (.lst (ordV ps.reverse)) -> Thr.Dn T s.tr n 0 ps wanted -> Q (.ref l) H') \/
  (s.tr = [] /\ ∀ (l : Addr) (H' : Hp), Same H H' -> H l = none -> H' l = some (.lst []) -> Q (.ref l) H'))
theorem sc_falling_to : FnScope ["tracks", "track", "places", "wanted", "place"] ["tracks", "track"] (defScope s_falling_to) := ⟨rfl, rfl, rfl, by decide +kernel, rfl, by decide +kernel, by decide +kernel⟩
theorem C_falling_to (T : Tx K mg Z) : Ctr P w K mg base CX0 1 "falling_to" ["tracks", "track"] sp_falling_to := by
 refine ctr_of T.falling_to fun f fd F => F.ok sc_falling_to (fun vs H Q E h => ?_) (fun cdv A outer s H vs Q E hr h => ?_)
 ·obtain ⟨a, z, T, s, rfl, _⟩ := h
  rfl
 ·obtain ⟨a, z, tr, s, rfl, ha, kk, hz, kQ⟩ := h
  have key : ∃ V : Nat -> List Nat -> Int -> Prop, V s.tr.length [] z /\ (∀ (i t : Nat) (ps : List Nat) (wd : Int), V (i + 1) ps wd -> s.tr[i]? = some t -> (t : Int) ≠ wd -> V i ps wd) /\
    (∀ (i t : Nat) (ps : List Nat) (wd : Int), V (i + 1) ps wd -> s.tr[i]? = some t -> (t : Int) = wd -> V i (ps ++ [i]) (wd - 1)) /\
    ∀ (l : Addr) (H' : Hp) (ps : List Nat) (wd : Int), V 0 ps wd -> Same H H' -> H l = none -> H' l = some (.lst (ordV ps.reverse)) -> Q (.ref l) H' := by
   rcases kQ with ⟨n, rfl, kQ⟩ | ⟨e, kQ⟩
   ·exact ⟨fun i ps wd => Thr.Dn tr s.tr n i ps wd, .start, fun i t ps wd h e ne => h.skip e ne, fun i t ps wd h e eq => h.take kk e eq, fun l H' ps wd h s1 f1 h1 => kQ l H' ps wd s1 f1 h1 h⟩
   ·refine ⟨fun i ps wd => ps = [], rfl, fun i t ps wd h e ne => h, fun i t ps wd h e' eq => ?_, fun l H' ps wd h s1 f1 h1 => kQ l H' s1 f1 (by rw [h1, h]; rfl)⟩
    rw [e] at e'
    cases e'
  obtain ⟨V, v0, vs, vt, vq⟩ := key
  have hlen : s.tr.length = tr.length := kk.len
  refine' ⟨_, ?hterm, ?_⟩
  case hterm =>
   refine' pss_cons ?q1 ?q2
   case q1 =>
    refine' ps_set (i := 2) sc_falling_to.nd rfl (Or.inl rfl) ?q3
    case q3 => exact pe_lst pa_nil
   case' q2 => refine' pss_cons ?q4 ?q5
   case q4 => exact ps_set (i := 3) sc_falling_to.nd rfl (Or.inl rfl) (pv 1)
   case' q5 => refine' pss_cons ?q6 ?q7
   case q6 =>
    refine' ps_for HP rfl ?q8 ?q9 ?q10
    case q8 =>
     refine' pi_down rfl T.n_range ?q11
     case q11 =>
      refine' pa_cons ?q12 ?q13
      case q12 =>
       refine' pe_op op_sub ?q14 pe_int
       case' q14 => refine' pe_callB (callK_len (K := K) (by rfl)) (by rfl) T.n_len b_len ?q15
       case q15 => exact pa_cons (pv 0) pa_nil
      case' q13 => refine' pa_cons ?q16 ?q17
      case q16 => exact pe_un un_neg pe_int
      case' q17 => refine' pa_cons ?q18 pa_nil
      case q18 => exact pe_un un_neg pe_int
    case q9 => exact pg_name (i := 4) sc_falling_to.nd (by rfl) (by exact Or.inl rfl)
    case' q10 => refine' pss_one ?q19
    case' q19 => refine' ps_if ?q20 ?q21 pss_nil
    case q20 =>
     refine' pt_cmpR (op_eqK (K := K) (by rfl) (by exact hr.units)) ?q22 (pv 3) (nomark _)
     case q22 => exact pe_ix (ix_K (K := K) (by rfl)) (pv 0) (pv 4) (fun _ _ => rfl)
    case' q21 => refine' pss_cons ?q23 ?q24
    case q23 =>
     refine' ps_expr ?q25
     case' q25 => refine' pe_bmK (K := K) (by rfl) PySem.F.plainAttrs_list PySem.F.slot_list_append PySem.F.type_list_append mt_append (pv 2) ?q26
     case q26 => exact pa_cons (pv 4) pa_nil
    case' q24 => refine' pss_one ?q27
    case q27 => exact ps_aug (i := 3) sc_falling_to.nd rfl (Or.inl rfl) pe_int ip_sub
   case' q7 => refine' pss_one ?q28
   case' q28 => refine' ps_ret ?q29
   case q29 => exact pe_listRev (pv 2) rfl (by rfl) T.n_list (by rfl) T.n_reversed
  refine ⟨Nat.zero_le _, fun p hp => ?_⟩
  have s0 : Same H (upd H p (.lst [])) := Same.upd hp
  refine ⟨_, rfl, _, rfl, _, _, rfl, .inl ⟨_, SqL.of (s0 _ _ ha), rfl⟩, _, 1, rfl, rfl, 1, rfl, 1, rfl, s.tr.length, by rw [List.length_map], by omega, ?_⟩
  refine for_down (n := s.tr.length) (fun i σ H2 => ∃ (ps : List Nat) (wd : Int) (v : Option L2.V), σ = [some (.ref a), some (.int z), some (.ref p), some (.int wd), v] /\ Same H H2 /\ H2 p = some (.lst (ordV ps)) /\ ps.length + i <= s.tr.length /\ V i ps wd)
   ⟨[], z, none, rfl, s0, upd_same, by simp, v0⟩ ?_ ?_
  ·rintro i σ H2 hi ⟨ps, wd, v, rfl, s2, h2, hl, hv⟩
   have et : s.tr[i]? = some (s.tr[i]'hi) := List.getElem?_eq_getElem hi
   generalize s.tr[i]'hi = t at et
   refine ⟨_, rfl, _, rfl, .inl ⟨a, _, (i : Int), .int (t : Int), rfl, rfl, SqL.of (s2 _ _ ha), atI_nat (by rw [List.getElem?_map, et]; rfl), _, rfl, .inl ⟨rfl, _, rfl, ?_⟩⟩⟩
   by_cases hq : (t : Int) = wd
   ·refine iteDT (by rw [hq]) ?_
    refine ⟨_, rfl, .inl ⟨rfl, _, SqL.of h2⟩, _, rfl, p, _, _, rfl, rfl, h2, by rw [List.length_map]; exact small1000 (by omega), ?_⟩
    refine ⟨_, rfl, _, 1, rfl, rfl, ps ++ [i], wd - 1, _, rfl, Same.updN s2 hp, ?_, by rw [List.length_append, List.length_singleton]; omega, vt i t ps wd hv et hq⟩
    rw [upd_same]
    show _ = some (HO.lst (List.map _ (_ ++ [_])))
    rw [List.map_append]
    rfl
   ·exact iteDF (fun e => hq (L2.V.int.inj e)) ⟨ps, wd, _, rfl, s2, h2, by omega, vs i t ps wd hv et hq⟩
  ·rintro σ H2 ⟨ps, wd, v, rfl, s2, h2, hl, hv⟩
   refine ⟨_, rfl, p, _, rfl, h2, fun l hl' => vq l _ ps wd hv (s2.trans (Same.upd hl')) (s2.free hl') ?_⟩
   rw [upd_same]
   show _ = some (HO.lst (List.map _ _))
   rw [List.map_reverse]
theorem MovesAt.push {H : Hp} {mA t : Addr} {ms : List Yd.Mv} (m : Yd.Mv) (h : MovesAt H mA ms) (ht : H t = none) : ∃ rs : List Addr, H mA = some (.lst (rs.map V.ref)) /\ rs.length = ms.length /\
  MovesAt (upd (upd H t (.tup [.str (deed m.1), .int (m.2 : Int)])) mA (.lst (rs.map V.ref ++ [.ref t]))) mA (ms ++ [m]) := by
 obtain ⟨rs, e, p⟩ := h
 have hne : t ≠ mA := fun z => by rw [z, e] at ht; cases ht
 refine ⟨rs, e, p.length, rs ++ [t], by rw [upd_same, List.map_append]; rfl, Paired.snoc' (Paired.imp (fun r m z => ?_) p) ?_⟩
 ·have z' : H r = some (.tup _) := z
  have h1 : r ≠ mA := fun q => by rw [q, e] at z'; cases z'
  show upd _ _ _ r = _
  rw [upd_ne h1]
  exact upd_get z' ht
 ·show upd _ _ _ t = _
  rw [upd_ne hne, upd_same]
def mvsT (tr ord : List Nat) : List Yd.Mv := tr.map (fun t => (true, t)) ++ ord.map fun p => (false, tr.getD p 0)
def sp_moves_through (Z : Adr) : Sp := fun vs H Q _ => ∃ (a t : Addr) (T : List Int) (tr : List Nat), vs = [.ref a, .ref t] /\ H a = some (.lst (T.map V.int)) /\ H t = some (.lst (ordV tr)) /\ tr.length = T.length /\ T.length < 64 /\ TabH Z H /\
 ∀ (l : Addr) (H' : Hp) (ord : List Nat), Same H H' -> H l = none -> Rank T ord -> MovesAt H' l (mvsT tr ord) -> Q (.ref l) H'
theorem sc_moves_through : FnScope ["wagons", "tracks"] ["wagons", "tracks"] (defScope s_moves_through) := ⟨rfl, rfl, rfl, by decide +kernel, rfl, by decide +kernel, by decide +kernel⟩
theorem C_moves_through (T : Tx K mg Z) : Ctr P w K mg base CX0 4 "moves_through" ["wagons", "tracks"] (sp_moves_through Z) := by
 refine ctr_of T.moves_through fun f fd F => F.ok sc_moves_through (fun vs H Q E h => ?_) (fun cdv A outer s H vs Q E hr h => ?_)
 ·obtain ⟨a, t, T, tr, rfl, _⟩ := h
  rfl
 ·obtain ⟨a, t, tT, tr, rfl, ha, ht, hlen, hz, hTab, kQ⟩ := h
  refine' ⟨_, ?hterm, ?_⟩
  case hterm =>
   refine' pss_one ?q1
   case' q1 => refine' ps_ret ?q2
   case' q2 => refine' pe_op (op_addK (K := K) (by rfl)) ?q3 ?q4
   case q3 =>
    refine' pe_comp rfl (csc_of (sc := defScope s_moves_through) (N := ["wagons", "tracks"]) (cap := [none]) (N' := ["track"]) rfl rfl ⟨ rfl, by decide +kernel, by decide +kernel, by decide +kernel, rfl, by decide +kernel ⟩) ?q5 (fun _ _ _ _ => ?q6) (fun _ _ _ _ => pif_nil) (fun _ _ _ _ => ?q7)
    case q5 => exact pi_listK (K := K) (by rfl) (pv 1)
    case q6 => exact pg_name (i := 0) (show List.Nodup (["track"] : List Str) from by decide +kernel) (by rfl) (by exact Or.inl rfl)
    case q7 =>
     refine' pe_tup ?q8
     case' q8 => refine' pa_cons pe_str ?q9
     case q9 => exact pa_cons (pv 0) pa_nil
   case' q4 => refine' pe_comp rfl (csc_of (sc := defScope s_moves_through) (N := ["wagons", "tracks"]) (cap := [none, some 1]) (N' := ["place", "tracks"]) rfl rfl ⟨ rfl, by decide +kernel, by decide +kernel, by decide +kernel, rfl, by decide +kernel ⟩) ?q10 (fun _ _ _ _ => ?q11) (fun _ _ _ _ => pif_nil) (fun _ _ _ _ => ?q12)
   case q10 =>
    refine' pi_listK (K := K) (by rfl) ?q13
    case' q13 => refine' pe_callC (C_places_in_order T) (hr.mono (by decide)) rfl ?q14
    case q14 => exact pa_cons (pv 0) pa_nil
   case q11 => exact pg_name (i := 0) (show List.Nodup (["place", "tracks"] : List Str) from by decide +kernel) (by rfl) (by exact Or.inl rfl)
   case q12 =>
    refine' pe_tup ?q15
    case' q15 => refine' pa_cons pe_str ?q16
    case' q16 => refine' pa_cons ?q17 pa_nil
    case q17 => exact pe_ix (ix_K (K := K) (by rfl)) (pv 1) (pv 0) (fun _ _ => rfl)
  refine ⟨_, rfl, t, rfl, ⟨_, SqL.of ht⟩, fun p hp => ?_⟩
  have s0 : Same H (upd H p (.lst [])) := Same.upd hp
  refine turns_list (K := K) (a := t) (xs := ordV tr) (fun i σ H2 => (∃ v, σ = [v]) /\ Same H H2 /\ MovesAt H2 p ((tr.take i).map fun t => (true, t)))
   ⟨⟨_, rfl⟩, s0, [], upd_same, .nil⟩ (fun i σ H2 _ h => SqL.of (h.2.1 _ _ ht)) ?_ ?_
  ·rintro i x σ H2 hx ⟨⟨v, rfl⟩, s2, h2⟩
   obtain ⟨z, ez, rfl⟩ := getMap hx
   refine ⟨_, rfl, (by show 2 <= sizeLine; decide), fun r hr' => ?_⟩
   obtain ⟨rs, e1, e2, e3⟩ := MovesAt.push (true, z) h2 hr'
   refine ⟨_, upd_get e1 hr', ?_, ⟨_, rfl⟩, Same.updN (s2.trans (Same.upd hr')) hp, ?_⟩
   ·rw [List.length_map, e2, List.length_map, List.length_take]
    have := (List.getElem?_eq_some_iff.mp ez).1
    exact small1000 (by omega)
   ·rw [take_snoc ez, List.map_append]
    exact e3
  rintro σ H2 ⟨_, s2, h2⟩
  rw [List.length_map, List.take_length] at h2
  have hp2 := h2
  obtain ⟨rs1, e1, p1⟩ := hp2
  refine ⟨_, rfl, a, tT, rfl, s2 _ _ ha, by omega, hTab.same s2, fun o H3 ord s3 f3 hR h3 => ?_⟩
  have ho : ord.length = tT.length := by rw [hR.perm.length_eq, List.length_range]
  refine ⟨o, rfl, ⟨_, SqL.of h3⟩, fun q hq => ?_⟩
  have s23 := s2.trans s3
  have hqH : H q = none := s23.free hq
  have hpq : p ≠ q := ne_of_none (s3 _ _ e1) hq
  refine turns_list (K := K) (a := o) (xs := ordV ord) (fun i σ H4 => (∃ v, σ = [v, some (.ref t)]) /\ Same H3 H4 /\ MovesAt H4 q ((ord.take i).map fun p => (false, tr.getD p 0)))
   ⟨⟨_, rfl⟩, Same.upd hq, [], upd_same, .nil⟩ (fun i σ H4 _ h => SqL.of (h.2.1 _ _ h3)) ?_ ?_
  ·rintro i x σ H4 hx ⟨⟨v, rfl⟩, s4, h4⟩
   obtain ⟨z, ez, rfl⟩ := getMap hx
   have hzl : z < tr.length := by rw [hlen]; exact hR.ord.lt ez
   refine ⟨_, rfl, _, rfl, .inl ⟨t, _, (z : Int), .int ((tr.getD z 0 : Nat) : Int), rfl, rfl, SqL.of (s4 _ _ (s23 _ _ ht)), atI_nat ?_, (by show 2 <= sizeLine; decide), fun r hr' => ?_⟩⟩
   ·rw [List.getElem?_map, List.getD_eq_getElem?_getD, List.getElem?_eq_getElem hzl]
    rfl
   obtain ⟨rs, f1, f2, f3⟩ := MovesAt.push (false, tr.getD z 0) h4 hr'
   refine ⟨_, upd_get f1 hr', ?_, ⟨_, rfl⟩, Same.updN (s4.trans (Same.upd hr')) hq, ?_⟩
   ·rw [List.length_map, f2, List.length_map, List.length_take]
    have := (List.getElem?_eq_some_iff.mp ez).1
    exact small1000 (by omega)
   ·rw [take_snoc ez, List.map_append]
    exact f3
  rintro σ H4 ⟨_, s4, h4⟩
  rw [List.length_map, List.take_length] at h4
  obtain ⟨rs2, e2, p2⟩ := h4
  have e14 := s4 _ _ (s3 _ _ e1)
  have l1 : rs1.length = tr.length := by rw [p1.length, List.length_map]
  have l2 : rs2.length = ord.length := by rw [p2.length, List.length_map]
  refine .inr (.inl ⟨p, q, _, _, rfl, rfl, e14, e2, ?_, fun u hu => ?_⟩)
  ·rw [List.length_map, List.length_map, l1, l2]
   exact Nat.le_of_lt (small1000 (by omega))
  have s5 := (s23.trans s4).trans (Same.upd (o := .lst (rs1.map V.ref ++ rs2.map V.ref)) hu)
  refine kQ u _ ord s5 ((s23.trans s4).free hu) hR ⟨rs1 ++ rs2, by rw [upd_same, List.map_append], Paired.append (Paired.imp (fun r m z => ?_) p1) (Paired.imp (fun r m z => ?_) p2)⟩
  ·exact upd_get (s4 _ _ (s3 _ _ z)) hu
  ·exact upd_get z hu
def sp_checked_moves : Sp := fun vs H Q _ => ∃ (a : Addr) (ms : List Yd.Mv) (n : Nat), vs = [.ref a, .int n] /\ MovesAt H a ms /\ ms.length <= 1000 /\ (∀ m ∈ ms, m.2 < n) /\ ∀ p H', Same H H' -> H p = none -> MovesAt H' p ms -> Q (.ref p) H'
theorem sc_checked_moves : FnScope ["moves", "many"] ["moves", "many"] (defScope s_checked_moves) := ⟨rfl, rfl, rfl, by decide +kernel, rfl, by decide +kernel, by decide +kernel⟩
theorem C_checked_moves (T : Tx K mg Z) : Ctr P w K mg base CX0 4 "checked_moves" ["moves", "many"] sp_checked_moves := by
 refine ctr_of T.checked_moves fun f fd F => F.ok sc_checked_moves (fun vs H Q E h => ?_) (fun cdv A outer s H vs Q E hr h => ?_)
 ·obtain ⟨a, ms, n, rfl, _⟩ := h
  rfl
 ·obtain ⟨a, ms, n, rfl, ⟨rs, ha, hp⟩, hz, hn, k⟩ := h
  refine' ⟨_, ?hterm, ?_⟩
  case hterm =>
   refine' pss_cons ?q1 ?q2
   case q1 =>
    refine' ps_if ?q3 ?q4 pss_nil
    case q3 =>
     refine' pt_not ?q5
     case' q5 => refine' pt_truK (K := K) (by rfl) ?q6 (fun _ => rfl)
     case q6 =>
      refine' pe_callB (callK_isinstance (K := K) (by rfl)) (by rfl) T.n_isinstance b_isinstance ?q7
      case q7 =>
       refine' pa_cons (pv 0) ?q8
       case' q8 => refine' pa_cons ?q9 pa_nil
       case q9 => exact pe_tyN rfl T.n_list b_list
    case' q4 => refine' pss_one ?q10
    case q10 => exact ps_never
   case' q2 => refine' pss_one ?q11
   case q11 =>
    refine' ps_ret ?q12
    case q12 =>
     refine' pe_comp rfl (csc_of (sc := defScope s_checked_moves) (N := ["moves", "many"]) (cap := [none, some 1]) (N' := ["move", "many"]) rfl rfl ⟨ rfl, by decide +kernel, by decide +kernel, by decide +kernel, rfl, by decide +kernel ⟩) ?q13 (fun _ _ _ _ => ?q14) (fun _ _ _ _ => pif_nil) (fun _ _ _ _ => ?q15)
     case q13 =>
      refine' pi_listK (K := K) (by rfl) ?q16
      case' q16 => refine' pe_op (op_addK (K := K) (by rfl)) ?q17 (pv 0)
      case q17 => exact pe_lst pa_nil
     case q14 => exact pg_name (i := 0) (show List.Nodup (["move", "many"] : List Str) from by decide +kernel) (by rfl) (by exact Or.inl rfl)
     case q15 =>
      refine' pe_callC (C_checked_move T) (hr.mono (by decide)) rfl ?q18
      case' q18 => refine' pa_cons (pv 0) ?q19
      case q19 => exact pa_cons (pv 1) pa_nil
  have hlen : rs.length = ms.length := Paired.length hp
  refine ⟨_, rfl, _, _, _, _, _, rfl, rfl, ty_inj, .lst ha, kit_same, _, rfl, iteF ?_⟩
  refine ⟨Nat.zero_le _, fun e he => ⟨_, rfl, .inr (.inl ⟨e, a, [], rs.map V.ref, rfl, rfl, upd_same, upd_get ha he, ?_, fun h hh => ?_⟩)⟩⟩
  ·rw [List.length_nil, List.length_map, Nat.zero_add]
   exact Nat.le_of_lt (small1000 (by omega))
  refine ⟨h, rfl, ⟨_, SqL.of upd_same⟩, fun p hp1 => ?_⟩
  have ehp : h ≠ p := ne_of_none upd_same hp1
  have sh : Same H (upd (upd H e (.lst [])) h (.lst (rs.map V.ref))) := (Same.upd he).trans (Same.upd hh)
  have hHp : H p = none := sh.free hp1
  refine turns_list (K := K) (a := h) (xs := rs.map V.ref) (fun i σ H2 => (∃ v, σ = [v, some (.int n)]) /\ Same H H2 /\ H2 h = some (.lst (rs.map V.ref)) /\ ∃ qs : List Addr, H2 p = some (.lst (qs.map V.ref)) /\ Paired (MvT H2) qs (ms.take i))
   ⟨⟨_, rfl⟩, sh.trans (Same.upd hp1), upd_get upd_same hp1, [], upd_same, .nil⟩ (fun i σ H2 _ h => SqL.of h.2.2.1) ?_ ?_
  ·rintro i x σ H2 hx ⟨⟨v, rfl⟩, s2, h1, qs, h2, h3⟩
   obtain ⟨r, er, rfl⟩ := getMap hx
   obtain ⟨m, em, hm⟩ := Paired.get hp er
   have hq : qs.length <= ms.length := by
    rw [Paired.length h3, List.length_take]
    omega
   refine ⟨_, rfl, _, rfl, r, m.1, m.2, n, rfl, s2 _ _ hm, Int.natCast_nonneg _, ?_, fun q H3 s3 hq3 hq3' => ?_⟩
   ·have := hn m (List.mem_of_getElem? em)
    omega
   refine ⟨_, s3 _ _ h2, ?_, ⟨_, rfl⟩, ?_, ?_, qs ++ [q], ?_, ?_⟩
   ·rw [List.length_map]
    exact small1000 (by omega)
   ·intro b o eb
    rw [upd_ne (ne_of_none eb hHp)]
    exact s3 _ _ (s2 _ _ eb)
   ·rw [upd_ne ehp]
    exact s3 _ _ h1
   ·rw [upd_same, List.map_append]
    rfl
   ·rw [take_snoc em]
    have np : ∀ r' m', MvT H3 r' m' -> MvT (upd H3 p (.lst (qs.map V.ref ++ [.ref q]))) r' m' := fun r' m' z => by
     unfold MvT
     rw [upd_ne (ne_of z (s3 _ _ h2) (by intro w'; cases w'))]
     exact z
    exact Paired.snoc' (Paired.imp (fun _ _ z => np _ _ (MvT.same s3 z)) h3) (np _ _ hq3')
  ·rintro σ H2 ⟨_, s2, h1, qs, h2, h3⟩
   rw [List.length_map, hlen, List.take_length] at h3
   exact k p H2 s2 hHp ⟨qs, h2, h3⟩
def tfl (b : Bool) (l : Addr) (g : Int) : List (Str × V) := [("blind", .bl b), ("came", .ref l), ("gone_ahead", .int g)]
theorem tfl_blind (b : Bool) (l : Addr) (g : Int) : (tfl b l g).lookup ("blind" : Str) = some (.bl b) := rfl
theorem tfl_came (b : Bool) (l : Addr) (g : Int) : (tfl b l g).lookup ("came" : Str) = some (.ref l) := rfl
theorem tfl_gone (b : Bool) (l : Addr) (g : Int) : (tfl b l g).lookup ("gone_ahead" : Str) = some (.int g) := rfl
theorem tfl_put (b : Bool) (l : Addr) (g g' : Int) : putF "gone_ahead" (.int g') (tfl b l g) = tfl b l g' := rfl
theorem tfl_new (b : Bool) (l : Addr) : putF "gone_ahead" (.int 0) (putF "came" (.ref l) (putF "blind" (.bl b) [])) = tfl b l 0 := rfl
theorem tfl_no (b : Bool) (l : Addr) (g : Int) : (tfl b l g).lookup ("is_empty" : Str) = none /\ (tfl b l g).lookup ("let_in" : Str) = none /\ (tfl b l g).lookup ("let_out" : Str) = none /\ (tfl b l g).lookup ("standing" : Str) = none := ⟨rfl, rfl, rfl, rfl⟩
def sp_Track_init (C : Addr) : Sp := fun vs H Q _ => ∃ (p dx : Addr) (b : Bool), vs = [.ref p, .bl b] /\ H p = some (.ins C dx []) /\
 ∀ (l : Addr) (H' : Hp), H l = none -> (∀ c o, H c = some o -> c ≠ p -> H' c = some o) -> H' p = some (.ins C dx (tfl b l 0)) -> H' l = some (.lst []) -> Q .non H'
theorem sc_Track_init : FnScope ["self", "blind"] ["self", "blind"] (defScope s_Track_init) := ⟨rfl, rfl, rfl, by decide +kernel, rfl, by decide +kernel, by decide +kernel⟩
theorem M_Track (T : Tx K mg Z) : CtrC P w K mg base CX0 1 "Track" Z.cTrack ["self", "blind"] (sp_Track_init Z.cTrack) := by
 refine ctrC_of T.c_Track T.i_Track fun f fd F => F.ok sc_Track_init (fun vs H Q E h => ?_) (fun cdv A outer s H vs Q E hr h => ?_)
 ·obtain ⟨p, dx, b, rfl, _⟩ := h
  rfl
 ·obtain ⟨p, dx, b, rfl, hp, k⟩ := h
  refine' ⟨_, ?hterm, ?_⟩
  case hterm =>
   refine' pss_cons ?q1 ?q2
   case q1 => exact ps_fldK (K := K) (by rfl) (pv 0) (pv 1) rfl
   case' q2 => refine' pss_cons ?q3 ?q4
   case q3 =>
    refine' ps_fldK (K := K) (by rfl) (pv 0) ?q5 rfl
    case q5 => exact pe_lst pa_nil
   case' q4 => refine' pss_one ?q6
   case q6 => exact ps_fldK (K := K) (by rfl) (pv 0) pe_int rfl
  refine ⟨_, rfl, _, rfl, p, _, dx, _, rfl, hp, T.k_Track, T.a_Track_blind, (by show 0 < 1000; decide), ?_⟩
  refine ⟨Nat.zero_le _, fun l hl => ?_⟩
  have npl : p ≠ l := ne_of_none upd_same hl
  have hHl : H l = none := by rw [upd_ne npl.symm] at hl; exact hl
  refine ⟨_, rfl, p, _, dx, _, rfl, by rw [upd_ne npl, upd_same], T.k_Track, T.a_Track_came, (by show 1 < 1000; decide), ?_⟩
  refine ⟨_, rfl, p, _, dx, _, rfl, upd_same, T.k_Track, T.a_Track_gone_ahead, (by show 2 < 1000; decide), ?_⟩
  rw [tfl_new]
  refine k l _ hHl (fun c o e hc => ?_) upd_same ?_
  ·rw [upd_ne hc, upd_ne hc, upd_ne (ne_of_none e hHl), upd_ne hc]
   exact e
  ·rw [upd_ne npl.symm, upd_ne npl.symm, upd_same]
def TrackAt (C : Addr) (b : Bool) (H : Hp) (p l : Addr) (c : List Int) (g : Nat) : Prop := (∃ dx, H p = some (.ins C dx (tfl b l (g : Int)))) /\ H l = some (.lst (c.map V.int))
def sp_is_empty (C : Addr) : Sp := fun vs H Q _ => ∃ (p l : Addr) (b : Bool) (c : List Int) (g : Nat), vs = [.ref p] /\ TrackAt C b H p l c g /\ Q (.bl (decide (g = c.length))) H
theorem sc_Track_is_empty : FnScope ["self"] ["self"] (defScope s_Track_is_empty) := ⟨rfl, rfl, rfl, by decide +kernel, rfl, by decide +kernel, by decide +kernel⟩
theorem m_is_empty (T : Tx K mg Z) : CtrM P w K mg base CX0 1 Z.cTrack "is_empty" ["self"] (sp_is_empty Z.cTrack) := by
 refine ctrM_of T.k_Track T.m_Track_is_empty fun f fd F => F.ok sc_Track_is_empty (fun vs H Q E h => ?_) (fun cdv A outer s H vs Q E hr h => ?_)
 ·obtain ⟨p, l, b, c, g, rfl, _⟩ := h
  rfl
 ·obtain ⟨p, l, b, c, g, rfl, ⟨⟨dx, h1⟩, h2⟩, q⟩ := h
  refine' ⟨_, ?hterm, ?_⟩
  case hterm =>
   refine' pss_one ?q1
   case' q1 => refine' ps_ret ?q2
   case' q2 => refine' pe_cmpR (op_eqK (K := K) (by rfl) (by exact hr.units)) ?q3 ?q4 (nomark _)
   case q3 => exact pe_fldK (K := K) (by rfl) (pv 0) rfl
   case' q4 => refine' pe_callB (callK_len (K := K) (by rfl)) (by rfl) T.n_len b_len ?q5
   case' q5 => refine' pa_cons ?q6 pa_nil
   case q6 => exact pe_fldK (K := K) (by rfl) (pv 0) rfl
  refine ⟨_, rfl, p, _, dx, _, _, rfl, h1, T.k_Track, T.a_Track_gone_ahead, tfl_gone _ _ _, _, rfl, p, _, dx, _, _, rfl, h1, T.k_Track, T.a_Track_came, tfl_came _ _ _, _, _, rfl, .inl ⟨_, SqL.of h2, rfl⟩, .inl ⟨rfl, ?_⟩⟩
  rw [decV, List.length_map, show decide ((g : Int) = (c.length : Int)) = decide (g = c.length) from decide_eq_decide.mpr (by omega)]
  exact q
def sp_let_in (C : Addr) : Sp := fun vs H Q _ => ∃ (p l : Addr) (b : Bool) (c : List Int) (g : Nat) (x : Int), vs = [.ref p, .int x] /\ TrackAt C b H p l c g /\ c.length <= 1000 /\ Q .non (upd H l (.lst ((c ++ [x]).map V.int)))
theorem sc_Track_let_in : FnScope ["self", "wagon"] ["self", "wagon"] (defScope s_Track_let_in) := ⟨rfl, rfl, rfl, by decide +kernel, rfl, by decide +kernel, by decide +kernel⟩
theorem m_let_in (T : Tx K mg Z) : CtrM P w K mg base CX0 1 Z.cTrack "let_in" ["self", "wagon"] (sp_let_in Z.cTrack) := by
 refine ctrM_of T.k_Track T.m_Track_let_in fun f fd F => F.ok sc_Track_let_in (fun vs H Q E h => ?_) (fun cdv A outer s H vs Q E hr h => ?_)
 ·obtain ⟨p, l, b, c, g, x, rfl, _⟩ := h
  rfl
 ·obtain ⟨p, l, b, c, g, x, rfl, ⟨⟨dx, h1⟩, h2⟩, hz, q⟩ := h
  refine' ⟨_, ?hterm, ?_⟩
  case hterm =>
   refine' pss_one ?q1
   case' q1 => refine' ps_expr ?q2
   case' q2 => refine' pe_bmK (K := K) (by rfl) PySem.F.plainAttrs_list PySem.F.slot_list_append PySem.F.type_list_append mt_append ?q3 ?q4
   case q3 => exact pe_fldK (K := K) (by rfl) (pv 0) rfl
   case q4 => exact pa_cons (pv 1) pa_nil
  refine ⟨_, rfl, p, _, dx, _, _, rfl, h1, T.k_Track, T.a_Track_came, tfl_came _ _ _, .inl ⟨rfl, _, SqL.of h2⟩, _, rfl, l, _, _, rfl, rfl, h2, by rw [List.length_map]; exact small1000 hz, ?_⟩
  rw [List.map_append] at q
  exact q
def sp_let_out (C : Addr) : Sp := fun vs H Q _ => ∃ (p l : Addr) (b : Bool) (c : List Int) (g : Nat) (x : Int), vs = [.ref p] /\ TrackAt C b H p l c g /\
 ((b = true /\ c[c.length - 1]? = some x /\ Q (.int x) (upd H l (.lst (c.dropLast.map V.int)))) \/ (b = false /\ c[g]? = some x /\ ∀ dx, H p = some (.ins C dx (tfl b l (g : Int))) -> Q (.int x) (upd H p (.ins C dx (tfl b l ((g + 1 : Nat) : Int))))))
theorem sc_Track_let_out : FnScope ["self", "wagon"] ["self"] (defScope s_Track_let_out) := ⟨rfl, rfl, rfl, by decide +kernel, rfl, by decide +kernel, by decide +kernel⟩
theorem m_let_out (T : Tx K mg Z) : CtrM P w K mg base CX0 1 Z.cTrack "let_out" ["self"] (sp_let_out Z.cTrack) := by
 refine ctrM_of T.k_Track T.m_Track_let_out fun f fd F => F.ok sc_Track_let_out (fun vs H Q E h => ?_) (fun cdv A outer s H vs Q E hr h => ?_)
 ·obtain ⟨p, l, b, c, g, x, rfl, _⟩ := h
  rfl
 ·obtain ⟨p, l, b, c, g, x, rfl, ⟨⟨dx, h1⟩, h2⟩, h3⟩ := h
  refine' ⟨_, ?hterm, ?_⟩
  case hterm =>
   refine' pss_cons ?q1 ?q2
   case q1 =>
    refine' ps_if ?q3 ?q4 pss_nil
    case q3 =>
     refine' pt_truK (K := K) (by rfl) ?q5 (fun _ => rfl)
     case q5 => exact pe_fldK (K := K) (by rfl) (pv 0) rfl
    case' q4 => refine' pss_one ?q6
    case q6 =>
     refine' ps_ret ?q7
     case q7 =>
      refine' pe_bmK0 (K := K) (by rfl) PySem.F.plainAttrs_list PySem.F.slot_list_pop PySem.F.type_list_pop mt_popU ?q8
      case q8 => exact pe_fldK (K := K) (by rfl) (pv 0) rfl
   case' q2 => refine' pss_cons ?q9 ?q10
   case q9 =>
    refine' ps_set (i := 1) sc_Track_let_out.nd rfl (Or.inl rfl) ?q11
    case q11 =>
     refine' pe_ix (ix_K (K := K) (by rfl)) ?q12 ?q13 (fun _ _ => rfl)
     case q12 => exact pe_fldK (K := K) (by rfl) (pv 0) rfl
     case q13 => exact pe_fldK (K := K) (by rfl) (pv 0) rfl
   case' q10 => refine' pss_cons ?q14 ?q15
   case q14 => exact ps_fldaugK (K := K) (by rfl) (pv 0) pe_int in_add
   case q15 =>
    refine' pss_one ?q16
    case q16 => exact ps_ret (pv 1)
  refine ⟨_, rfl, p, _, dx, _, _, rfl, h1, T.k_Track, T.a_Track_blind, tfl_blind _ _ _, _, rfl, ?_⟩
  rcases h3 with ⟨rfl, hx, q⟩ | ⟨rfl, hx, q⟩
  ·refine iteT ⟨_, rfl, p, _, dx, _, _, rfl, h1, T.k_Track, T.a_Track_came, tfl_came _ _ _, .inl ⟨rfl, _, SqL.of h2⟩, .inl ⟨l, _, .int x, rfl, rfl, h2, ?_, ?_⟩⟩
   ·rw [List.length_map, List.getElem?_map, hx]
    rfl
   ·rw [List.map_dropLast] at q
    exact q
  ·refine iteF ⟨_, rfl, p, _, dx, _, _, rfl, h1, T.k_Track, T.a_Track_came, tfl_came _ _ _, _, rfl, p, _, dx, _, _, rfl, h1, T.k_Track, T.a_Track_gone_ahead, tfl_gone _ _ _, .inl ⟨l, _, g, .int x, rfl, rfl, SqL.of h2, atI_nat ?_, ?_⟩⟩
   ·rw [List.getElem?_map, hx]
    rfl
   refine ⟨_, rfl, p, _, dx, _, _, rfl, h1, T.k_Track, T.a_Track_gone_ahead, tfl_gone _ _ _, g, 1, rfl, rfl, dx, _, h1, (by show 3 < 1000; decide), _, rfl, ?_⟩
   rw [tfl_put]
   exact q dx h1
def sp_Stuck_init (C : Addr) : Sp := fun vs H Q _ => ∃ (a : Addr) (i : Int), vs = [.ref a, .int i] /\ H a = some (XO a C none) /\ i.natAbs.log2 < 1920 /\ ∀ d, H d = none -> d ≠ a -> Q .non (upd (upd H a (XO a C (some d))) d (.xd [("at", .int i)]))
theorem sc_Stuck_init : FnScope ["self", "at"] ["self", "at"] (defScope s_Stuck_init) := ⟨rfl, rfl, rfl, by decide +kernel, rfl, by decide +kernel, by decide +kernel⟩
theorem X_Stuck (T : Tx K mg Z) : CtrX P w K mg base 1 "Stuck" Z.cStuck ["self", "at"] (sp_Stuck_init Z.cStuck) := by
 refine ctrX_of T.c_Stuck T.x_Stuck fun f fd F => F.ok sc_Stuck_init (fun vs H Q E h => ?_) (fun cdv A outer s H vs Q E hr h => ?_)
 ·obtain ⟨a, i, rfl, _⟩ := h
  rfl
 ·obtain ⟨a, i, rfl, ha, hi, k⟩ := h
  have hx : xIn K Z.cStuck = true := by
   obtain ⟨_, _, _, m, _⟩ := T.x_Stuck.ex
   exact m.x
  refine' ⟨_, ?hterm, ?_⟩
  case hterm =>
   refine' pss_cons ?q1 ?q2
   case q1 =>
    refine' ps_expr ?q3
    case' q3 => refine' pe_baseInitK (K := K) (by rfl) rfl T.c_YardError T.yb_YardError ?q4
    case' q4 => refine' pa_cons (pv 0) ?q5
    case' q5 => refine' pa_cons ?q6 pa_nil
    case q6 => exact pe_fstr (pv 1) (by decide) (by decide)
   case' q2 => refine' pss_one ?q7
   case q7 => exact ps_firstK (K := K) (by rfl) (pv 0) (pv 1) rfl
  refine ⟨_, rfl, _, rfl, _, rfl, hi, fun y => ⟨a, _, _, rfl, hx, ha, ?_⟩⟩
  refine ⟨_, rfl, _, rfl, a, _, rfl, ha, T.xc_Stuck, T.xt_Stuck_at, fun d hd hda => ?_⟩
  exact k d hd hda
structure Tk where
 p : Addr
 l : Addr
 c : List Int
 g : Nat
def Tk.st (k : Tk) : List Int := k.c.drop k.g
def yfl (wA : Addr) (b : Bool) (c : Int) (lA dA : Addr) : List (Str × V) := [("wagons", .ref wA), ("blind", .bl b), ("come", .int c), ("left", .ref lA), ("tracks", .ref dA)]
theorem yfl_wagons (wA : Addr) (b : Bool) (c : Int) (lA dA : Addr) : (yfl wA b c lA dA).lookup ("wagons" : Str) = some (.ref wA) := rfl
theorem yfl_blind (wA : Addr) (b : Bool) (c : Int) (lA dA : Addr) : (yfl wA b c lA dA).lookup ("blind" : Str) = some (.bl b) := rfl
theorem yfl_come (wA : Addr) (b : Bool) (c : Int) (lA dA : Addr) : (yfl wA b c lA dA).lookup ("come" : Str) = some (.int c) := rfl
theorem yfl_left (wA : Addr) (b : Bool) (c : Int) (lA dA : Addr) : (yfl wA b c lA dA).lookup ("left" : Str) = some (.ref lA) := rfl
theorem yfl_tracks (wA : Addr) (b : Bool) (c : Int) (lA dA : Addr) : (yfl wA b c lA dA).lookup ("tracks" : Str) = some (.ref dA) := rfl
theorem yfl_put (wA : Addr) (b : Bool) (c c' : Int) (lA dA : Addr) : putF "come" (.int c') (yfl wA b c lA dA) = yfl wA b c' lA dA := rfl
theorem yfl_new (wA : Addr) (b : Bool) (lA dA : Addr) : putF "tracks" (.ref dA) (putF "left" (.ref lA) (putF "come" (.int 0) (putF "blind" (.bl b) (putF "wagons" (.ref wA) [])))) = yfl wA b 0 lA dA := rfl
theorem yfl_no (wA : Addr) (b : Bool) (c : Int) (lA dA : Addr) : (yfl wA b c lA dA).lookup ("carry_in" : Str) = none /\ (yfl wA b c lA dA).lookup ("carry_away" : Str) = none /\ (yfl wA b c lA dA).lookup ("carry_out" : Str) = none /\ (yfl wA b c lA dA).lookup ("standing_on" : Str) = none := ⟨rfl, rfl, rfl, rfl⟩
structure Yk (Z : Adr) (b : Bool) (H0 H : Hp) (y wA lA dA : Addr) (T : List Int) (n : Nat) (st : Yd.St) (tk : Nat -> Option Tk) (m : Nat) : Prop where
 ins : ∃ dy, H y = some (.ins Z.cYard dy (yfl wA b (st.came : Int) lA dA))
 wag : H0 wA = some (.lst (T.map V.int))
 wl : wA ≠ lA
 wy : wA ≠ y
 wd : wA ≠ dA
 y0 : ∃ o, H0 y = some o
 l0 : ∃ o, H0 lA = some o
 d0 : ∃ o, H0 dA = some o
 left : H lA = some (.lst (st.left.map V.int))
 dct : ∃ kvs : List (Key × V), H dA = some (.dK kvs) /\ kvs.length <= m /\ ∀ j : Nat, valV kvs (Sum.inl (j : Int)) = (tk j).map fun k => V.ref k.p
 at_ : ∀ (j : Nat) (k : Tk), tk j = some k -> TrackAt Z.cTrack b H k.p k.l k.c k.g /\ k.g <= k.c.length /\ (b = true -> k.g = 0) /\ k.c.length <= st.came /\ H0 k.p = none /\ H0 k.l = none
 apart : ∀ (i j : Nat) (k k' : Tk), tk i = some k -> tk j = some k' -> i ≠ j -> k.p ≠ k'.p /\ k.l ≠ k'.l
 oth : ∀ a o, H0 a = some o -> a ≠ y -> a ≠ lA -> a ≠ dA -> H a = some o
 len : st.tr.length = n
 tr : ∀ j, j < n -> st.tr.getD j [] = ((tk j).map Tk.st).getD []
 cl : st.came <= T.length
 lm : st.left.length <= m
section
variable {b : Bool} {H0 H : Hp} {y wA lA dA : Addr} {T : List Int} {n m : Nat} {st : Yd.St} {tk : Nat -> Option Tk}
theorem TrackAt.same {H H' : Hp} {C : Addr} (s : Same H H') {p l : Addr} {c : List Int} {g : Nat} (h : TrackAt C b H p l c g) : TrackAt C b H' p l c g := let ⟨⟨dx, h1⟩, h2⟩ := h; ⟨⟨dx, s _ _ h1⟩, s _ _ h2⟩
theorem Yk.y_l (h : Yk Z b H0 H y wA lA dA T n st tk m) : y ≠ lA := let ⟨_, e⟩ := h.ins; ne_of e h.left fun z => by cases z
theorem Yk.y_d (h : Yk Z b H0 H y wA lA dA T n st tk m) : y ≠ dA := let ⟨_, e⟩ := h.ins; let ⟨_, f, _⟩ := h.dct; ne_of e f fun z => by cases z
theorem Yk.l_d (h : Yk Z b H0 H y wA lA dA T n st tk m) : lA ≠ dA := let ⟨_, f, _⟩ := h.dct; ne_of h.left f fun z => by cases z
theorem Yk.wagH (h : Yk Z b H0 H y wA lA dA T n st tk m) : H wA = some (.lst (T.map V.int)) := h.oth _ _ h.wag h.wy h.wl h.wd
theorem Yk.k_y (h : Yk Z b H0 H y wA lA dA T n st tk m) {j : Nat} {k : Tk} (e : tk j = some k) : k.p ≠ y /\ k.p ≠ lA /\ k.p ≠ dA /\ k.l ≠ y /\ k.l ≠ lA /\ k.l ≠ dA := by
 obtain ⟨_, _, _, _, h1, h2⟩ := h.at_ j k e
 obtain ⟨_, e1⟩ := h.y0
 obtain ⟨_, e2⟩ := h.l0
 obtain ⟨_, e3⟩ := h.d0
 exact ⟨(ne_of_none e1 h1).symm, (ne_of_none e2 h1).symm, (ne_of_none e3 h1).symm, (ne_of_none e1 h2).symm, (ne_of_none e2 h2).symm, (ne_of_none e3 h2).symm⟩
theorem Yk.p_l (h : Yk Z b H0 H y wA lA dA T n st tk m) {i j : Nat} {k k' : Tk} (hi : tk i = some k) (hj : tk j = some k') : k.p ≠ k'.l := by
 obtain ⟨⟨⟨_, h1⟩, _⟩, _⟩ := h.at_ i k hi
 obtain ⟨⟨_, h2⟩, _⟩ := h.at_ j k' hj
 exact ne_of h1 h2 fun z => by cases z
theorem Yk.mono (h : Yk Z b H0 H y wA lA dA T n st tk m) {m' : Nat} (e : m <= m') : Yk Z b H0 H y wA lA dA T n st tk m' :=
 ⟨h.ins, h.wag, h.wl, h.wy, h.wd, h.y0, h.l0, h.d0, h.left, let ⟨kvs, a, c, d⟩ := h.dct; ⟨kvs, a, Nat.le_trans c e, d⟩, h.at_, h.apart, h.oth, h.len, h.tr, h.cl, Nat.le_trans h.lm e⟩
theorem Yk.same (h : Yk Z b H0 H y wA lA dA T n st tk m) {H' : Hp} (s : Same H H') : Yk Z b H0 H' y wA lA dA T n st tk m :=
 ⟨let ⟨dy, e⟩ := h.ins; ⟨dy, s _ _ e⟩, h.wag, h.wl, h.wy, h.wd, h.y0, h.l0, h.d0, s _ _ h.left, let ⟨kvs, a, c, d⟩ := h.dct; ⟨kvs, s _ _ a, c, d⟩, fun j k e => let ⟨a, r⟩ := h.at_ j k e; ⟨a.same s, r⟩, h.apart, fun a o e h1 h2 h3 => s _ _ (h.oth a o e h1 h2 h3), h.len, h.tr, h.cl, h.lm⟩
def tput (tk : Nat -> Option Tk) (j : Nat) (k : Tk) : Nat -> Option Tk := fun i => if i = j then some k else tk i
theorem tput_same {j : Nat} {k : Tk} : tput tk j k j = some k := if_pos rfl
theorem tput_ne {i j : Nat} {k : Tk} (h : i ≠ j) : tput tk j k i = tk i := if_neg h
theorem tput_get {i j : Nat} {k k' : Tk} (h : tput tk j k i = some k') : (i = j /\ k' = k) \/ (i ≠ j /\ tk i = some k') := by
 unfold tput at h
 split at h
 ·rename_i e; exact .inl ⟨e, (Option.some.inj h).symm⟩
 ·rename_i e; exact .inr ⟨e, h⟩
theorem Yk.opened (h : Yk Z b H0 H y wA lA dA T n st tk m) {j : Nat} (hj : tk j = none) {x dx l : Addr} {H1 : Hp} (hx : H x = none) (hl : H l = none) (hxl : l ≠ x) (s1 : Same H H1) (e1 : H1 x = some (.ins Z.cTrack dx (tfl b l 0))) (e2 : H1 l = some (.lst []))
  {kvs : List (Key × V)} (hd : H dA = some (.dK kvs)) (hk : kvs.length <= m) (hv : ∀ j : Nat, valV kvs (Sum.inl (j : Int)) = (tk j).map fun k => V.ref k.p) :
  Yk Z b H0 (upd H1 dA (.dK (putK kvs (Sum.inl (j : Int)) (.ref x)))) y wA lA dA T n st (tput tk j ⟨x, l, [], 0⟩) (m + 1) := by
 have h1 := h.same s1
 have f0 : ∀ a, H a = none -> H0 a = none := fun a ha => by
  cases q : H0 a with
  | none => rfl
  | some o =>
   exfalso
   by_cases c1 : a = y
   ·obtain ⟨_, e⟩ := h.ins; rw [c1, e] at ha; cases ha
   ·by_cases c2 : a = lA
    ·rw [c2, h.left] at ha; cases ha
    ·by_cases c3 : a = dA
     ·rw [c3, hd] at ha; cases ha
     ·rw [h.oth a o q c1 c2 c3] at ha; cases ha
 have dx' : x ≠ dA := (ne_of_none hd hx).symm
 have dl' : l ≠ dA := (ne_of_none hd hl).symm
 refine ⟨?_, h.wag, h.wl, h.wy, h.wd, h.y0, h.l0, h.d0, ?_, ⟨_, upd_same, ?_, fun i => ?_⟩, fun i k e => ?_, fun i i' k k' e e' ne => ?_, fun a o e c1 c2 c3 => ?_, h.len, fun i hi => ?_, h.cl, Nat.le_succ_of_le h.lm⟩
 ·obtain ⟨dy, e⟩ := h1.ins
  exact ⟨dy, by rw [upd_ne h.y_d]; exact e⟩
 ·rw [upd_ne h.l_d]; exact h1.left
 ·rw [putK_new _ (by rw [hv, hj]; rfl), List.length_append]
  exact Nat.succ_le_succ hk
 ·rw [valV_put]
  by_cases c : i = j
  ·subst c
   rw [if_pos rfl, tput_same]
   rfl
  ·rw [if_neg (fun z => c (by have := Sum.inl.inj z; omega)), tput_ne c]
   exact hv i
 ·rcases tput_get e with ⟨rfl, rfl⟩ | ⟨_, e⟩
  ·exact ⟨⟨⟨dx, by rw [upd_ne dx']; exact e1⟩, by rw [upd_ne dl']; exact e2⟩, Nat.le_refl _, fun _ => rfl, Nat.zero_le _, f0 x hx, f0 l hl⟩
  ·obtain ⟨⟨⟨d1, z1⟩, z2⟩, r⟩ := h1.at_ i k e
   have ky := h.k_y e
   exact ⟨⟨⟨d1, by rw [upd_ne ky.2.2.1]; exact z1⟩, by rw [upd_ne ky.2.2.2.2.2]; exact z2⟩, r⟩
 ·rcases tput_get e with ⟨rfl, rfl⟩ | ⟨_, e3⟩ <;> rcases tput_get e' with ⟨rfl, rfl⟩ | ⟨_, e4⟩
  ·exact absurd rfl ne
  ·obtain ⟨⟨⟨d1, z1⟩, z2⟩, _⟩ := h.at_ i' k' e4
   exact ⟨(ne_of_none z1 hx).symm, (ne_of_none z2 hl).symm⟩
  ·obtain ⟨⟨⟨d1, z1⟩, z2⟩, _⟩ := h.at_ i k e3
   exact ⟨ne_of_none z1 hx, ne_of_none z2 hl⟩
  ·exact h.apart i i' k k' e3 e4 ne
 ·rw [upd_ne c3]
  exact h1.oth a o e c1 c2 c3
 ·by_cases c : i = j
  ·subst c
   rw [tput_same, h.tr i hi, hj]
   rfl
  ·rw [tput_ne c]
   exact h.tr i hi
theorem set_getD {tr : List (List Int)} {j i : Nat} {c : List Int} (hj : j < tr.length) : (tr.set j c).getD i [] = if i = j then c else tr.getD i [] := by
 rw [List.getD_eq_getElem?_getD, List.getD_eq_getElem?_getD, List.getElem?_set]
 by_cases e : j = i
 ·subst e
  rw [if_pos rfl, if_pos rfl, if_pos hj]
  rfl
 ·rw [if_neg e, if_neg (Ne.symm e)]
theorem Yk.came (h : Yk Z b H0 H y wA lA dA T n st tk m) {j : Nat} {k : Tk} (e : tk j = some k) (hj : j < n) {x : Int} (hx : T[st.came]? = some x) {dy : Addr} :
  Yk Z b H0 (upd (upd H k.l (.lst ((k.c ++ [x]).map V.int))) y (.ins Z.cYard dy (yfl wA b ((st.came + 1 : Nat) : Int) lA dA))) y wA lA dA T n ⟨st.tr.set j (st.tr.getD j [] ++ [x]), st.left, st.came + 1⟩ (tput tk j { k with c := k.c ++ [x] }) m := by
 have ky := h.k_y e
 obtain ⟨⟨⟨dx, k1⟩, k2⟩, k3, k4, k5, k6, k7⟩ := h.at_ j k e
 refine ⟨⟨dy, upd_same⟩, h.wag, h.wl, h.wy, h.wd, h.y0, h.l0, h.d0, ?_, ?_, fun i k' e' => ?_, fun i i' a a' z z' ne => ?_, fun a o q c1 c2 c3 => ?_, by rw [List.length_set]; exact h.len, fun i hi => ?_, (List.getElem?_eq_some_iff.mp hx).1, h.lm⟩
 ·rw [upd_ne h.y_l.symm, upd_ne ky.2.2.2.2.1.symm]; exact h.left
 ·obtain ⟨kvs, d1, d2, d3⟩ := h.dct
  refine ⟨kvs, by rw [upd_ne h.y_d.symm, upd_ne ky.2.2.2.2.2.symm]; exact d1, d2, fun i => ?_⟩
  rw [d3]
  by_cases c : i = j
  ·subst c; rw [tput_same, e]; rfl
  ·rw [tput_ne c]
 ·rcases tput_get e' with ⟨rfl, rfl⟩ | ⟨ne, e'⟩
  ·refine ⟨⟨⟨dx, by rw [upd_ne ky.1, upd_ne (h.p_l e e)]; exact k1⟩, by rw [upd_ne ky.2.2.2.1, upd_same]⟩, ?_, k4, ?_, k6, k7⟩
   ·show k.g <= (k.c ++ [x]).length
    rw [List.length_append]; omega
   ·show (k.c ++ [x]).length <= st.came + 1
    rw [List.length_append]; exact Nat.succ_le_succ k5
  ·obtain ⟨⟨⟨d1, z1⟩, z2⟩, z3, z4, z5, r⟩ := h.at_ i k' e'
   have ky' := h.k_y e'
   exact ⟨⟨⟨d1, by rw [upd_ne ky'.1, upd_ne (h.p_l e' e)]; exact z1⟩, by rw [upd_ne ky'.2.2.2.1, upd_ne (h.apart i j k' k e' e ne).2]; exact z2⟩, z3, z4, Nat.le_succ_of_le z5, r⟩
 ·rcases tput_get z with ⟨rfl, rfl⟩ | ⟨_, z3⟩ <;> rcases tput_get z' with ⟨rfl, rfl⟩ | ⟨_, z4⟩
  ·exact absurd rfl ne
  ·exact h.apart i i' k a' e z4 ne
  ·exact h.apart i i' a k z3 e ne
  ·exact h.apart i i' a a' z3 z4 ne
 ·rw [upd_ne c1, upd_ne (ne_of_none q k7)]
  exact h.oth a o q c1 c2 c3
 ·show (st.tr.set j _).getD i [] = _
  rw [set_getD (by rw [h.len]; exact hj)]
  by_cases c : i = j
  ·subst c
   rw [if_pos rfl, tput_same, h.tr i hi, e]
   show k.st ++ [x] = Tk.st { k with c := k.c ++ [x] }
   unfold Tk.st
   rw [List.drop_append_of_le_length k3]
  ·rw [if_neg c, tput_ne c]
   exact h.tr i hi
theorem Yk.went (h : Yk Z b H0 H y wA lA dA T n st tk m) {j : Nat} {k k' : Tk} (e : tk j = some k) (hj : j < n) {x : Int} {H1 : Hp} (kp : k'.p = k.p) (kl : k'.l = k.l) (t1 : TrackAt Z.cTrack b H1 k'.p k'.l k'.c k'.g) (g1 : k'.g <= k'.c.length) (g2 : b = true -> k'.g = 0) (g3 : k'.c.length <= k.c.length)
  (s1 : ∀ a o, H a = some o -> a ≠ k.p -> a ≠ k.l -> H1 a = some o) {tr' : List Int} (ht : k'.st = tr') :
  Yk Z b H0 (upd H1 lA (.lst ((st.left ++ [x]).map V.int))) y wA lA dA T n ⟨st.tr.set j tr', st.left ++ [x], st.came⟩ (tput tk j k') (m + 1) := by
 have ky := h.k_y e
 obtain ⟨_, _, _, k5, k6, k7⟩ := h.at_ j k e
 refine ⟨?_, h.wag, h.wl, h.wy, h.wd, h.y0, h.l0, h.d0, upd_same, ?_, fun i a e' => ?_, fun i i' a a' z z' ne => ?_, fun a o q c1 c2 c3 => ?_, by rw [List.length_set]; exact h.len, fun i hi => ?_, h.cl, by rw [List.length_append]; exact Nat.succ_le_succ h.lm⟩
 ·obtain ⟨dy, z⟩ := h.ins
  exact ⟨dy, by rw [upd_ne h.y_l]; exact s1 _ _ z ky.1.symm ky.2.2.2.1.symm⟩
 ·obtain ⟨kvs, d1, d2, d3⟩ := h.dct
  refine ⟨kvs, by rw [upd_ne h.l_d.symm]; exact s1 _ _ d1 ky.2.2.1.symm ky.2.2.2.2.2.symm, Nat.le_succ_of_le d2, fun i => ?_⟩
  rw [d3]
  by_cases c : i = j
  ·subst c; rw [tput_same, e]; show some (V.ref k.p) = some (V.ref k'.p); rw [kp]
  ·rw [tput_ne c]
 ·rcases tput_get e' with ⟨rfl, rfl⟩ | ⟨ne, e'⟩
  ·obtain ⟨⟨dx, z1⟩, z2⟩ := t1
   exact ⟨⟨⟨dx, by rw [upd_ne (by rw [kp]; exact ky.2.1)]; exact z1⟩, by rw [upd_ne (by rw [kl]; exact ky.2.2.2.2.1)]; exact z2⟩, g1, g2, Nat.le_trans g3 k5, by rw [kp]; exact k6, by rw [kl]; exact k7⟩
  ·obtain ⟨⟨⟨d1, z1⟩, z2⟩, r⟩ := h.at_ i a e'
   have ky' := h.k_y e'
   have ap := h.apart i j a k e' e ne
   exact ⟨⟨⟨d1, by rw [upd_ne ky'.2.1]; exact s1 _ _ z1 ap.1 (h.p_l e' e)⟩, by rw [upd_ne ky'.2.2.2.2.1]; exact s1 _ _ z2 (h.p_l e e').symm ap.2⟩, r⟩
 ·rcases tput_get z with ⟨rfl, rfl⟩ | ⟨_, z3⟩ <;> rcases tput_get z' with ⟨rfl, rfl⟩ | ⟨_, z4⟩
  ·exact absurd rfl ne
  ·rw [kp, kl]; exact h.apart i i' k a' e z4 ne
  ·rw [kp, kl]; exact h.apart i i' a k z3 e ne
  ·exact h.apart i i' a a' z3 z4 ne
 ·rw [upd_ne c2]
  exact s1 _ _ (h.oth a o q c1 c2 c3) (ne_of_none q k6) (ne_of_none q k7)
 ·show (st.tr.set j _).getD i [] = _
  rw [set_getD (by rw [h.len]; exact hj)]
  by_cases c : i = j
  ·subst c
   rw [if_pos rfl, tput_same]
   exact ht.symm
  ·rw [if_neg c, tput_ne c]
   exact h.tr i hi
end
def sp_Yard_init (Z : Adr) : Sp := fun vs H Q _ => ∃ (p dx wA : Addr) (b : Bool) (T : List Int), vs = [.ref p, .ref wA, .bl b] /\ H p = some (.ins Z.cYard dx []) /\ H wA = some (.lst (T.map V.int)) /\
 ∀ (lA dA : Addr) (H' : Hp), H lA = none -> H dA = none -> (∀ c o, H c = some o -> c ≠ p -> H' c = some o) -> H' lA = some (.lst []) -> H' dA = some (.dK []) -> H' p = some (.ins Z.cYard dx (yfl wA b 0 lA dA)) -> Q .non H'
theorem sc_Yard_init : FnScope ["self", "wagons", "blind"] ["self", "wagons", "blind"] (defScope s_Yard_init) := ⟨rfl, rfl, rfl, by decide +kernel, rfl, by decide +kernel, by decide +kernel⟩
theorem M_Yard (T : Tx K mg Z) : CtrC P w K mg base CX0 1 "Yard" Z.cYard ["self", "wagons", "blind"] (sp_Yard_init Z) := by
 refine ctrC_of T.c_Yard T.i_Yard fun f fd F => F.ok sc_Yard_init (fun vs H Q E h => ?_) (fun cdv A outer s H vs Q E hr h => ?_)
 ·obtain ⟨p, dx, wA, b, T, rfl, _⟩ := h
  rfl
 ·obtain ⟨p, dx, wA, b, tr, rfl, hp, hw, k⟩ := h
  refine' ⟨_, ?hterm, ?_⟩
  case hterm =>
   refine' pss_cons ?q1 ?q2
   case q1 => exact ps_fldK (K := K) (by rfl) (pv 0) (pv 1) rfl
   case' q2 => refine' pss_cons ?q3 ?q4
   case q3 => exact ps_fldK (K := K) (by rfl) (pv 0) (pv 2) rfl
   case' q4 => refine' pss_cons ?q5 ?q6
   case q5 => exact ps_fldK (K := K) (by rfl) (pv 0) pe_int rfl
   case' q6 => refine' pss_cons ?q7 ?q8
   case q7 =>
    refine' ps_fldK (K := K) (by rfl) (pv 0) ?q9 rfl
    case q9 => exact pe_lst pa_nil
   case' q8 => refine' pss_one ?q10
   case' q10 => refine' ps_fldK (K := K) (by rfl) (pv 0) ?q11 rfl
   case q11 => exact pe_dnewK
  refine ⟨_, rfl, _, rfl, p, _, dx, _, rfl, hp, T.k_Yard, T.a_Yard_wagons, (by show 0 < 1000; decide), ?_⟩
  refine ⟨_, rfl, _, rfl, p, _, dx, _, rfl, upd_same, T.k_Yard, T.a_Yard_blind, (by show 1 < 1000; decide), ?_⟩
  refine ⟨_, rfl, p, _, dx, _, rfl, upd_same, T.k_Yard, T.a_Yard_come, (by show 2 < 1000; decide), ?_⟩
  refine ⟨Nat.zero_le _, fun l hl => ?_⟩
  have npl : p ≠ l := ne_of_none upd_same hl
  have hHl : H l = none := by rw [upd_ne npl.symm, upd_ne npl.symm, upd_ne npl.symm] at hl; exact hl
  refine ⟨_, rfl, p, _, dx, _, rfl, by rw [upd_ne npl, upd_same], T.k_Yard, T.a_Yard_left, (by show 3 < 1000; decide), ?_⟩
  intro d hd
  have npd : p ≠ d := ne_of_none upd_same hd
  have nld : l ≠ d := fun z => by rw [<- z, upd_ne npl.symm, upd_same] at hd; cases hd
  have hHd : H d = none := by rw [upd_ne npd.symm, upd_ne nld.symm, upd_ne npd.symm, upd_ne npd.symm, upd_ne npd.symm] at hd; exact hd
  refine ⟨_, rfl, p, _, dx, _, rfl, by rw [upd_ne npd, upd_same], T.k_Yard, T.a_Yard_tracks, (by show 4 < 1000; decide), ?_⟩
  rw [yfl_new]
  refine k l d _ hHl hHd (fun c o e hc => ?_) ?_ ?_ upd_same
  ·rw [upd_ne hc, upd_ne (ne_of_none e hHd), upd_ne hc, upd_ne (ne_of_none e hHl), upd_ne hc, upd_ne hc, upd_ne hc]
   exact e
  ·rw [upd_ne npl.symm, upd_ne nld, upd_ne npl.symm, upd_same]
  ·rw [upd_ne npd.symm, upd_same]
theorem Yk.fresh {b : Bool} {H : Hp} {y wA lA dA dy : Addr} {T : List Int} {n : Nat} (h1 : H y = some (.ins Z.cYard dy (yfl wA b 0 lA dA))) (h2 : H wA = some (.lst (T.map V.int))) (h3 : H lA = some (.lst [])) (h4 : H dA = some (.dK [])) (hwl : wA ≠ lA) :
  Yk Z b H H y wA lA dA T n (Yd.init n) (fun _ => none) 0 :=
 ⟨⟨dy, h1⟩, h2, hwl, ne_of h2 h1 (fun z => by cases z), ne_of h2 h4 (fun z => by cases z), ⟨_, h1⟩, ⟨_, h3⟩, ⟨_, h4⟩, h3, ⟨[], h4, Nat.le_refl _, fun _ => rfl⟩, fun j k e => (by cases e), fun i j k k' e => (by cases e), fun a o e _ _ _ => e, List.length_replicate, fun j hj => (by
  show (List.replicate n ([] : List Int)).getD j [] = []
  rw [List.getD_eq_getElem?_getD, List.getElem?_replicate]
  split <;> rfl), Nat.zero_le _, Nat.le_refl _⟩
def sp_carry (Z : Adr) (inn : Bool) : Sp := fun vs H Q E => ∃ (b : Bool) (H0 : Hp) (y wA lA dA : Addr) (T : List Int) (n : Nat) (st : Yd.St) (tk : Nat -> Option Tk) (m i j : Nat), vs = [.ref y, .int i, .int j] /\ Yk Z b H0 H y wA lA dA T n st tk m /\ j < n /\ m <= 1900 /\ i <= 1900 /\ T.length <= 200 /\
 (∀ st', Yd.step T b st (inn, j) = some st' -> ∀ H' tk', Yk Z b H0 H' y wA lA dA T n st' tk' (m + 1) -> Q .non H') /\
 (Yd.step T b st (inn, j) = none -> ∀ d H', Same H H' -> H d = none -> H' d = some (.xd [("at", .int i)]) -> E (.ref Z.cStuck) (some d) H')
theorem stuck_goes {E : XK} {D : Ends} {σ : St} {H : Hp} {i k : Nat} (hσ : σ[k]? = some (some (.int i))) (hi : i <= 1900) (hE : ∀ d H', Same H H' -> H d = none -> H' d = some (.xd [("at", .int i)]) -> E (.ref Z.cStuck) (some d) H') :
  sRaise Z.cStuck (sp_Stuck_init Z.cStuck) E (tCons (tVar k) tNil) D σ H := by
 refine ⟨_, hσ, (by show 1 <= 1000; decide), fun a ha => ⟨a, i, rfl, upd_same, ?_, fun d hd hda => ⟨rfl, some d, by rw [upd_ne hda.symm, upd_same], ?_⟩⟩⟩
 ·rw [Int.natAbs_natCast]
  exact Nat.lt_of_le_of_lt (Nat.log2_le_self i) (by omega)
 ·rw [upd_ne hda] at hd
  refine hE d _ (fun c o e => ?_) hd (by rw [del_ne hda, upd_same])
  rw [del_ne (ne_of_none e ha), upd_ne (ne_of_none e hd), upd_ne (ne_of_none e ha), upd_ne (ne_of_none e ha)]
  exact e
theorem if_absent {o : Option V} {A : Prop} {R : Hp -> Prop} {H : Hp} (G : Hp -> Prop) (all : ∀ H', G H' -> R H') (h0 : o = none -> (∀ H', G H' -> R H') -> A) (h1 : o ≠ none -> G H) : if (!o.isSome) = true then A else R H := by
 cases o with
 | none => exact iteT (h0 rfl all)
 | some v => exact iteF (all H (h1 (by intro z; cases z)))
theorem dget_of {H : Hp} {a : Addr} {kvs : List (Key × V)} {j : Nat} {o : Option V} (h : H a = some (.dK kvs)) (e : valV kvs (Sum.inl (j : Int)) = o) : DGet H a (.int (j : Int)) o := by
 rw [<- e]
 exact DGet.k (k := Sum.inl (j : Int)) h
theorem sc_Yard_carry_in : FnScope ["self", "at", "place"] ["self", "at", "place"] (defScope s_Yard_carry_in) := ⟨rfl, rfl, rfl, by decide +kernel, rfl, by decide +kernel, by decide +kernel⟩
theorem m_carry_in (T : Tx K mg Z) : CtrM P w K mg base (CXe P w) 3 Z.cYard "carry_in" ["self", "at", "place"] (sp_carry Z true) := by
 refine ctrM_of T.k_Yard T.m_Yard_carry_in fun f fd F => F.okE sc_Yard_carry_in (fun vs H Q E h => ?_) (fun cdv A outer s H vs Q E hr h => ?_)
 ·obtain ⟨b, H0, y, wA, lA, dA, tr, n, st, tk, m, i, j, rfl, _⟩ := h
  rfl
 ·obtain ⟨b, H0, y, wA, lA, dA, tr, n, st, tk, m, i, j, rfl, hY, hj, hm, hi, hT, kQ, kE⟩ := h
  refine' ⟨_, ?hterm, ?_⟩
  case hterm =>
   refine' pss_cons ?q1 ?q2
   case q1 =>
    refine' ps_if ?q3 ?q4 pss_nil
    case q3 =>
     refine' pt_cmpR (op_eqK (K := K) (by rfl) (by exact hr.units)) ?q5 ?q6 (nomark _)
     case q5 => exact pe_fldK (K := K) (by rfl) (pv 0) rfl
     case' q6 => refine' pe_callB (callK_len (K := K) (by rfl)) (by rfl) T.n_len b_len ?q7
     case' q7 => refine' pa_cons ?q8 pa_nil
     case q8 => exact pe_fldK (K := K) (by rfl) (pv 0) rfl
    case' q4 => refine' pss_one ?q9
    case' q9 => refine' ps_raiseC (X_Stuck T) (hr.mono (by decide)) rfl raisesE ?q10
    case q10 => exact pa_cons (pv 1) pa_nil
   case' q2 => refine' pss_cons ?q11 ?q12
   case q11 =>
    refine' ps_if ?q13 ?q14 pss_nil
    case q13 =>
     refine' pt_cmp ?q15
     case' q15 => refine' pc_dnotin (hu_of hr) (pv 2) ?q16
     case q16 => exact pe_fldK (K := K) (by rfl) (pv 0) rfl
    case' q14 => refine' pss_one ?q17
    case' q17 => refine' ps_dput (hu_of hr) ?q18 (pv 2) ?q19 rfl
    case q18 => exact pe_fldK (K := K) (by rfl) (pv 0) rfl
    case' q19 => refine' pe_makeC (M_Track T) (hr.mono (by decide)) rfl ?q20
    case' q20 => refine' pa_cons ?q21 pa_nil
    case q21 => exact pe_fldK (K := K) (by rfl) (pv 0) rfl
   case' q12 => refine' pss_cons ?q22 ?q23
   case q22 =>
    refine' ps_expr ?q24
    case' q24 => refine' pe_methC ?q25 (m_let_in T) (hr.mono (by decide)) ?q26
    case q25 =>
     refine' pe_dget (hu_of hr) ?q27 (pv 2) (fun _ _ => rfl)
     case q27 => exact pe_fldK (K := K) (by rfl) (pv 0) rfl
    case' q26 => refine' pa_cons ?q28 pa_nil
    case' q28 => refine' pe_ix (ix_K (K := K) (by rfl)) ?q29 ?q30 (fun _ _ => rfl)
    case q29 => exact pe_fldK (K := K) (by rfl) (pv 0) rfl
    case q30 => exact pe_fldK (K := K) (by rfl) (pv 0) rfl
   case' q23 => refine' pss_one ?q31
   case q31 => exact ps_fldaugK (K := K) (by rfl) (pv 0) pe_int in_add
  have hw := hY.wagH
  obtain ⟨dy, hy⟩ := hY.ins
  refine ⟨_, rfl, y, _, dy, _, _, rfl, hy, T.k_Yard, T.a_Yard_come, yfl_come _ _ _ _ _, _, rfl, y, _, dy, _, _, rfl, hy, T.k_Yard, T.a_Yard_wagons, yfl_wagons _ _ _ _ _, _, _, rfl, .inl ⟨_, SqL.of hw, rfl⟩, .inl ⟨rfl, _, rfl, ?_⟩⟩
  rw [decV]
  by_cases hc : (st.came : Int) = ((tr.map V.int).length : Int)
  ·refine iteDT hc (stuck_goes (D := { nx := fun _ _ => False, rt := Q }) (k := 1) rfl hi (kE ?_))
   unfold Yd.step
   rw [if_pos rfl, List.getElem?_eq_none_iff.mpr (by rw [List.length_map] at hc; omega)]
  ·refine iteDF hc ?_
   rw [List.length_map] at hc
   have hlt : st.came < tr.length := by have := hY.cl; omega
   obtain ⟨x, ex⟩ : ∃ x, tr[st.came]? = some x := ⟨_, List.getElem?_eq_getElem hlt⟩
   have hs : Yd.step tr b st (true, j) = some ⟨st.tr.set j (st.tr.getD j [] ++ [x]), st.left, st.came + 1⟩ := by
    unfold Yd.step
    rw [if_pos rfl, ex]
   obtain ⟨kvs, hd, hk, hv⟩ := hY.dct
   refine ⟨_, rfl, _, rfl, y, _, dy, _, _, rfl, hy, T.k_Yard, T.a_Yard_tracks, yfl_tracks _ _ _ _ _, dA, _, rfl, dget_of hd (hv j), _, rfl, ?_⟩
   refine if_absent (fun H' => ∃ tk1 k, Yk Z b H0 H' y wA lA dA tr n st tk1 (m + 1) /\ tk1 j = some k) ?_ ?_ ?_
   ·rintro H1 ⟨tk1, k, hY1, e1⟩
    obtain ⟨dy1, hy1⟩ := hY1.ins
    obtain ⟨kvs1, hd1, _, hv1⟩ := hY1.dct
    obtain ⟨⟨⟨dx, z1⟩, z2⟩, z3, z4, z5, z6, z7⟩ := hY1.at_ j k e1
    refine ⟨_, rfl, y, _, dy1, _, _, rfl, hy1, T.k_Yard, T.a_Yard_tracks, yfl_tracks _ _ _ _ _, _, rfl, dA, _, rfl, dget_of hd1 (by rw [hv1, e1]; rfl), ?_⟩
    refine ⟨k.p, dx, _, rfl, z1, (tfl_no _ _ _).2.1, ?_⟩
    refine ⟨_, rfl, y, _, dy1, _, _, rfl, hy1, T.k_Yard, T.a_Yard_wagons, yfl_wagons _ _ _ _ _, _, rfl, y, _, dy1, _, _, rfl, hy1, T.k_Yard, T.a_Yard_come, yfl_come _ _ _ _ _, .inl ⟨wA, _, (st.came : Int), .int x, rfl, rfl, SqL.of hY1.wagH, atI_nat (by rw [List.getElem?_map, ex]; rfl), ?_⟩⟩
    refine ⟨k.p, k.l, b, k.c, k.g, x, rfl, ⟨⟨dx, z1⟩, z2⟩, by omega, ?_⟩
    have hy2 : upd H1 k.l (.lst ((k.c ++ [x]).map V.int)) y = some (.ins Z.cYard dy1 (yfl wA b (st.came : Int) lA dA)) := by rw [upd_ne (hY1.k_y e1).2.2.2.1.symm]; exact hy1
    refine ⟨_, rfl, y, _, dy1, _, _, rfl, hy2, T.k_Yard, T.a_Yard_come, yfl_come _ _ _ _ _, (st.came : Int), 1, rfl, rfl, dy1, _, hy2, (by show 5 < 1000; decide), ?_⟩
    rw [yfl_put]
    exact kQ _ hs _ _ (hY1.came e1 hj ex)
   ·intro ho all
    have hnone : tk j = none := by
     cases q : tk j with
     | none => rfl
     | some k => rw [q] at ho; cases ho
    refine ⟨_, rfl, y, _, dy, _, _, rfl, hy, T.k_Yard, T.a_Yard_blind, yfl_blind _ _ _ _ _, fun x' dx hx hdx hne => ⟨x', dx, b, rfl, upd_same, fun l H4 hl4 k1 k2 k3 => ⟨rfl, ?_⟩⟩⟩
    have s4 : Same H H4 := fun c o e => k1 c o (by rw [upd_ne (ne_of_none e hx), upd_ne (ne_of_none e hdx)]; exact e) (ne_of_none e hx)
    have hlx : l ≠ x' := fun z => by rw [z, upd_same] at hl4; cases hl4
    have hl3 : H l = none := by
     rw [upd_ne hlx] at hl4
     have : l ≠ dx := fun z => by rw [z, upd_same] at hl4; cases hl4
     rw [upd_ne this] at hl4
     exact hl4
    refine ⟨_, rfl, y, _, dy, _, _, rfl, s4 _ _ hy, T.k_Yard, T.a_Yard_tracks, yfl_tracks _ _ _ _ _, _, rfl, dA, _, rfl, DPut.k (k := Sum.inl (j : Int)) (s4 _ _ hd) (small1000' (by omega)), ?_⟩
    exact all _ ⟨_, _, hY.opened hnone hx hl3 hlx s4 k2 k3 hd hk hv, tput_same⟩
   ·intro ho
    cases q : tk j with
    | none => rw [q] at ho; exact absurd rfl ho
    | some k => exact ⟨tk, k, hY.mono (Nat.le_succ _), q⟩
theorem sc_Yard_carry_away : FnScope ["self", "at", "place"] ["self", "at", "place"] (defScope s_Yard_carry_away) := ⟨rfl, rfl, rfl, by decide +kernel, rfl, by decide +kernel, by decide +kernel⟩
theorem m_carry_away (T : Tx K mg Z) : CtrM P w K mg base (CXe P w) 3 Z.cYard "carry_away" ["self", "at", "place"] (sp_carry Z false) := by
 refine ctrM_of T.k_Yard T.m_Yard_carry_away fun f fd F => F.okE sc_Yard_carry_away (fun vs H Q E h => ?_) (fun cdv A outer s H vs Q E hr h => ?_)
 ·obtain ⟨b, H0, y, wA, lA, dA, tr, n, st, tk, m, i, j, rfl, _⟩ := h
  rfl
 ·obtain ⟨b, H0, y, wA, lA, dA, tr, n, st, tk, m, i, j, rfl, hY, hj, hm, hi, hT, kQ, kE⟩ := h
  refine' ⟨_, ?hterm, ?_⟩
  case hterm =>
   refine' pss_cons ?q1 ?q2
   case q1 =>
    refine' ps_if ?q3 ?q4 pss_nil
    case q3 =>
     refine' PW.pt ?q5
     case' q5 => refine' pw_or ?q6 ?q7
     case q6 =>
      refine' pt_cmp ?q8
      case' q8 => refine' pc_dnotin (hu_of hr) (pv 2) ?q9
      case q9 => exact pe_fldK (K := K) (by rfl) (pv 0) rfl
     case' q7 => refine' pw_or1 ?q10
     case' q10 => refine' pt_truK (K := K) (by rfl) ?q11 (fun _ => rfl)
     case' q11 => refine' pe_methC0 ?q12 (m_is_empty T) (hr.mono (by decide))
     case' q12 => refine' pe_dget (hu_of hr) ?q13 (pv 2) (fun _ _ => rfl)
     case q13 => exact pe_fldK (K := K) (by rfl) (pv 0) rfl
    case' q4 => refine' pss_one ?q14
    case' q14 => refine' ps_raiseC (X_Stuck T) (hr.mono (by decide)) rfl raisesE ?q15
    case q15 => exact pa_cons (pv 1) pa_nil
   case' q2 => refine' pss_one ?q16
   case' q16 => refine' ps_expr ?q17
   case' q17 => refine' pe_bmK (K := K) (by rfl) PySem.F.plainAttrs_list PySem.F.slot_list_append PySem.F.type_list_append mt_append ?q18 ?q19
   case q18 => exact pe_fldK (K := K) (by rfl) (pv 0) rfl
   case' q19 => refine' pa_cons ?q20 pa_nil
   case' q20 => refine' pe_methC0 ?q21 (m_let_out T) (hr.mono (by decide))
   case' q21 => refine' pe_dget (hu_of hr) ?q22 (pv 2) (fun _ _ => rfl)
   case q22 => exact pe_fldK (K := K) (by rfl) (pv 0) rfl
  obtain ⟨dy, hy⟩ := hY.ins
  obtain ⟨kvs, hd, hk, hv⟩ := hY.dct
  have htr := hY.tr j hj
  refine ⟨_, rfl, _, rfl, y, _, dy, _, _, rfl, hy, T.k_Yard, T.a_Yard_tracks, yfl_tracks _ _ _ _ _, dA, _, rfl, dget_of hd (hv j), _, rfl, ?_⟩
  have none_ : st.tr.getD j [] = [] -> Yd.step tr b st (false, j) = none := fun e => by
   unfold Yd.step
   rw [if_neg Bool.false_ne_true]
   show (if b = true then _ else _) = _
   simp only [e]
   split <;> rfl
  cases e : tk j with
  | none =>
   refine iteT (stuck_goes (D := { nx := fun _ _ => False, rt := Q }) (k := 1) rfl hi (kE (none_ ?_)))
   rw [htr, e]
   rfl
  | some k =>
   rw [e] at htr
   have htr : st.tr.getD j [] = k.st := htr
   obtain ⟨⟨⟨dx, z1⟩, z2⟩, z3, z4, z5, z6, z7⟩ := hY.at_ j k e
   have ky := hY.k_y e
   refine iteF ?_
   refine ⟨_, rfl, y, _, dy, _, _, rfl, hy, T.k_Yard, T.a_Yard_tracks, yfl_tracks _ _ _ _ _, _, rfl, dA, _, rfl, dget_of hd (by rw [hv, e]; rfl), ?_⟩
   refine ⟨k.p, dx, _, rfl, z1, (tfl_no _ _ _).1, k.p, k.l, b, k.c, k.g, rfl, ⟨⟨dx, z1⟩, z2⟩, _, rfl, ?_⟩
   by_cases hc : k.g = k.c.length
   ·refine iteDT hc (stuck_goes (D := { nx := fun _ _ => False, rt := Q }) (k := 1) rfl hi (kE (none_ ?_)))
    rw [htr]
    unfold Tk.st
    rw [hc, List.drop_length]
   ·refine iteDF hc ?_
    have hgl : k.g < k.c.length := by omega
    have hlm := hY.lm
    refine ⟨_, rfl, y, _, dy, _, _, rfl, hy, T.k_Yard, T.a_Yard_left, yfl_left _ _ _ _ _, .inl ⟨rfl, _, SqL.of hY.left⟩, ?_⟩
    refine ⟨_, rfl, y, _, dy, _, _, rfl, hy, T.k_Yard, T.a_Yard_tracks, yfl_tracks _ _ _ _ _, _, rfl, dA, _, rfl, dget_of hd (by rw [hv, e]; rfl), ?_⟩
    refine ⟨k.p, dx, _, rfl, z1, (tfl_no _ _ _).2.2.1, ?_⟩
    cases b with
    | true =>
     have hg0 := z4 rfl
     obtain ⟨x, ex⟩ : ∃ x, k.c[k.c.length - 1]? = some x := ⟨_, List.getElem?_eq_getElem (by omega)⟩
     refine ⟨k.p, k.l, true, k.c, k.g, x, rfl, ⟨⟨dx, z1⟩, z2⟩, .inl ⟨rfl, ex, ?_⟩⟩
     have hL6 : upd H k.l (.lst (k.c.dropLast.map V.int)) lA = some (.lst (st.left.map V.int)) := by rw [upd_ne ky.2.2.2.2.1.symm]; exact hY.left
     refine ⟨lA, _, _, rfl, rfl, hL6, by rw [List.length_map]; exact small1000' (by omega), ?_⟩
     have hs : Yd.step tr true st (false, j) = some ⟨st.tr.set j k.c.dropLast, st.left ++ [x], st.came⟩ := by
      unfold Yd.step
      rw [if_neg Bool.false_ne_true, if_pos rfl]
      have e0 : st.tr.getD j [] = k.c := by rw [htr]; unfold Tk.st; rw [hg0, List.drop_zero]
      simp only [e0]
      rw [List.getLast?_eq_getElem?, ex]
     have := hY.went (k' := { k with c := k.c.dropLast }) (x := x) (tr' := k.c.dropLast) (H1 := upd H k.l (.lst (k.c.dropLast.map V.int))) e hj rfl rfl
      ⟨⟨dx, by rw [upd_ne (hY.p_l e e)]; exact z1⟩, upd_same⟩ (by show k.g <= _; rw [hg0]; exact Nat.zero_le _) z4 (by rw [List.length_dropLast]; omega) (fun a o q _ c2 => by rw [upd_ne c2]; exact q) (by unfold Tk.st; show k.c.dropLast.drop k.g = _; rw [hg0, List.drop_zero])
     rw [List.map_append] at this
     exact kQ _ hs _ _ this
    | false =>
     obtain ⟨x, ex⟩ : ∃ x, k.c[k.g]? = some x := ⟨_, List.getElem?_eq_getElem hgl⟩
     refine ⟨k.p, k.l, false, k.c, k.g, x, rfl, ⟨⟨dx, z1⟩, z2⟩, .inr ⟨rfl, ex, fun dx' _ => ?_⟩⟩
     have hL6 : upd H k.p (.ins Z.cTrack dx' (tfl false k.l ((k.g + 1 : Nat) : Int))) lA = some (.lst (st.left.map V.int)) := by rw [upd_ne ky.2.1.symm]; exact hY.left
     refine ⟨lA, _, _, rfl, rfl, hL6, by rw [List.length_map]; exact small1000' (by omega), ?_⟩
     have hs : Yd.step tr false st (false, j) = some ⟨st.tr.set j (k.c.drop (k.g + 1)), st.left ++ [x], st.came⟩ := by
      unfold Yd.step
      rw [if_neg Bool.false_ne_true, if_neg Bool.false_ne_true]
      have e0 : st.tr.getD j [] = x :: k.c.drop (k.g + 1) := by
       rw [htr]
       unfold Tk.st
       rw [List.drop_eq_getElem_cons hgl]
       rw [List.getElem?_eq_getElem hgl] at ex
       rw [Option.some.inj ex]
      simp only [e0]
     have := hY.went (k' := { k with g := k.g + 1 }) (x := x) (tr' := k.c.drop (k.g + 1)) (H1 := upd H k.p (.ins Z.cTrack dx' (tfl false k.l ((k.g + 1 : Nat) : Int)))) e hj rfl rfl
      ⟨⟨dx', upd_same⟩, by rw [upd_ne (hY.p_l e e).symm]; exact z2⟩ hgl (fun z => by cases z) (Nat.le_refl _) (fun a o q c1 _ => by rw [upd_ne c1]; exact q) rfl
     rw [List.map_append] at this
     exact kQ _ hs _ _ this
def sp_carry_out (Z : Adr) : Sp := fun vs H Q E => ∃ (b : Bool) (y wA lA dA sA dy : Addr) (T : List Int) (n : Nat) (ms : List Yd.Mv), vs = [.ref y, .ref sA] /\ H y = some (.ins Z.cYard dy (yfl wA b 0 lA dA)) /\ H wA = some (.lst (T.map V.int)) /\ H lA = some (.lst []) /\ H dA = some (.dK []) /\ wA ≠ lA /\ sA ≠ lA /\
 MovesAt H sA ms /\ ms.length <= 1000 /\ (∀ m ∈ ms, m.2 < n) /\ T.length <= 200 /\
 (∀ st, Yd.steps T b (Yd.init n) ms = some st -> ∀ H' tk m, m <= ms.length -> Yk Z b H H' y wA lA dA T n st tk m -> Q .non H') /\
 (∀ (i : Nat) st m, Yd.steps T b (Yd.init n) (ms.take i) = some st -> ms[i]? = some m -> Yd.step T b st m = none -> ∀ d H', (∀ a o, H a = some o -> a ≠ y -> a ≠ lA -> a ≠ dA -> H' a = some o) -> (∀ a, H' a = none -> H a = none) -> H d = none -> H' d = some (.xd [("at", .int i)]) -> E (.ref Z.cStuck) (some d) H')
theorem sc_Yard_carry_out : FnScope ["self", "steps", "at", "step"] ["self", "steps"] (defScope s_Yard_carry_out) := ⟨rfl, rfl, rfl, by decide +kernel, rfl, by decide +kernel, by decide +kernel⟩
theorem m_carry_out (T : Tx K mg Z) : CtrM P w K mg base (CXe P w) 4 Z.cYard "carry_out" ["self", "steps"] (sp_carry_out Z) := by
 refine ctrM_of T.k_Yard T.m_Yard_carry_out fun f fd F => F.okE sc_Yard_carry_out (fun vs H Q E h => ?_) (fun cdv A outer s H vs Q E hr h => ?_)
 ·obtain ⟨b, y, wA, lA, dA, sA, dy, tr, n, ms, rfl, _⟩ := h
  rfl
 ·obtain ⟨b, y, wA, lA, dA, sA, dy, tr, n, ms, rfl, h1, h2, h3, h4, hwl, hsl, ⟨rs, hrs, hpr⟩, hz, hmn, hT, kQ, kE⟩ := h
  refine' ⟨_, ?hterm, ?_⟩
  case hterm =>
   refine' pss_one ?q1
   case' q1 => refine' ps_for PassesOwn.leaving rfl ?q2 ?q3 ?q4
   case q2 =>
    refine' pi_enumK (K := K) (by rfl) rfl T.n_enumerate ?q5
    case q5 => exact pa_cons (pv 1) pa_nil
   case q3 =>
    refine' pg_tupK (K := K) (n := 2) (by rfl) rfl ?q6
    case' q6 => refine' pgs_cons ?q7 ?q8
    case q7 => exact pg_name (i := 2) sc_Yard_carry_out.nd (by rfl) (by exact Or.inl rfl)
    case' q8 => refine' pgs_cons ?q9 pgs_nil
    case q9 => exact pg_name (i := 3) sc_Yard_carry_out.nd (by rfl) (by exact Or.inl rfl)
   case' q4 => refine' pss_one ?q10
   case' q10 => refine' ps_if ?q11 ?q12 ?q13
   case q11 =>
    refine' pt_cmpR (op_eqK (K := K) (by rfl) (by exact hr.units)) ?q14 pe_str (nomark _)
    case q14 => exact pe_ix (ix_K (K := K) (by rfl)) (pv 3) pe_int (fun _ _ => rfl)
   case q12 =>
    refine' pss_one ?q15
    case' q15 => refine' ps_expr ?q16
    case' q16 => refine' pe_methCE (pv 0) (m_carry_in T) (hr.mono (by decide)) ?q17 (passE fun _ _ _ z => z)
    case' q17 => refine' pa_cons (pv 2) ?q18
    case' q18 => refine' pa_cons ?q19 pa_nil
    case q19 => exact pe_ix (ix_K (K := K) (by rfl)) (pv 3) pe_int (fun _ _ => rfl)
   case' q13 => refine' pss_one ?q20
   case' q20 => refine' ps_expr ?q21
   case' q21 => refine' pe_methCE (pv 0) (m_carry_away T) (hr.mono (by decide)) ?q22 (passE fun _ _ _ z => z)
   case' q22 => refine' pa_cons (pv 2) ?q23
   case' q23 => refine' pa_cons ?q24 pa_nil
   case q24 => exact pe_ix (ix_K (K := K) (by rfl)) (pv 3) pe_int (fun _ _ => rfl)
  have hsy : sA ≠ y := ne_of hrs h1 fun z => by cases z
  have hsd : sA ≠ dA := ne_of hrs h4 fun z => by cases z
  refine ⟨_, rfl, sA, rfl, ⟨_, SqL.of hrs⟩, ?_⟩
  refine for_enum (K := K) (a := sA) (xs := rs.map V.ref) (fun i σ H2 => ∃ v1 v2 st tk m, σ = [some (.ref y), some (.ref sA), v1, v2] /\ m <= i /\ Yd.steps tr b (Yd.init n) (ms.take i) = some st /\ Yk Z b H H2 y wA lA dA tr n st tk m) ?_ (fun i σ H2 _ h => ?_) ?_ ?_
  ·exact ⟨none, none, Yd.init n, fun _ => none, 0, rfl, Nat.le_refl _, rfl, Yk.fresh h1 h2 h3 h4 hwl⟩
  ·obtain ⟨_, _, st, tk, m, _, _, _, hY⟩ := h
   exact SqL.of (hY.oth _ _ hrs hsy hsl hsd)
  ·rintro i x t σ H2 hx ⟨v1, v2, st, tk, m, rfl, hm, hst, hY⟩ ht
   obtain ⟨r, er, rfl⟩ := getMap hx
   obtain ⟨mv, em, hmv⟩ := Paired.get hpr er
   have hmv' := hmn mv (List.mem_of_getElem? em)
   have hi : i < ms.length := (List.getElem?_eq_some_iff.mp em).1
   have hr0 : H2 r = some (.tup [.str (deed mv.1), .int (mv.2 : Int)]) := by
    refine hY.oth _ _ hmv ?_ ?_ ?_
    ·exact ne_of hmv h1 fun z => by cases z
    ·exact ne_of hmv h3 fun z => by cases z
    ·exact ne_of hmv h4 fun z => by cases z
   have s5 : Same H2 (upd H2 t (.tup [.int i, .ref r])) := Same.upd ht
   have hY5 := hY.same s5
   obtain ⟨dy5, hy5⟩ := hY5.ins
   have hr5 := s5 _ _ hr0
   refine ⟨t, _, rfl, SqT.of upd_same, rfl, _, _, rfl, _, _, rfl, rfl, ?_⟩
   refine ⟨_, rfl, .inr ⟨r, _, 0, _, rfl, rfl, SqT.of hr5, rfl, .inl ⟨rfl, _, rfl, ?_⟩⟩⟩
   have stuck : Yd.step tr b st mv = none -> ∀ d H', Same (upd H2 t (.tup [.int i, .ref r])) H' -> upd H2 t (.tup [.int i, .ref r]) d = none -> H' d = some (.xd [("at", .int i)]) -> E (.ref Z.cStuck) (some d) H' := by
    intro hs d H' sH hd hd'
    have back : ∀ a, upd H2 t (.tup [.int i, .ref r]) a = none -> H a = none := fun a ha => by
     cases q : H a with
     | none => rfl
     | some o =>
      exfalso
      by_cases c1 : a = y
      ·rw [c1, hy5] at ha; cases ha
      ·by_cases c2 : a = lA
       ·rw [c2, hY5.left] at ha; cases ha
       ·by_cases c3 : a = dA
        ·obtain ⟨_, e, _⟩ := hY5.dct; rw [c3, e] at ha; cases ha
        ·rw [hY5.oth a o q c1 c2 c3] at ha; cases ha
    exact kE i st mv hst em hs d H' (fun a o q c1 c2 c3 => sH _ _ (hY5.oth a o q c1 c2 c3)) (fun a ha => back a (sH.free ha)) (back d hd) hd'
   obtain ⟨m1, m2⟩ := mv
   cases m1 with
   | true =>
    refine iteDT rfl ?_
    refine ⟨_, rfl, y, dy5, _, rfl, hy5, (yfl_no _ _ _ _ _).1, _, rfl, _, rfl, .inr ⟨r, _, 1, _, rfl, rfl, SqT.of hr5, rfl, ?_⟩⟩
    refine ⟨b, H, y, wA, lA, dA, tr, n, st, tk, m, i, m2, rfl, hY5, hmv', by omega, by omega, hT, fun st' hs H' tk' hY' => ?_, stuck⟩
    exact ⟨_, _, st', tk', m + 1, rfl, Nat.succ_le_succ hm, steps_next hst em hs, hY'⟩
   | false =>
    refine iteDF (show ¬ V.str (Str.ofString "out") = V.str (Str.ofString "in") from by decide +kernel) ?_
    refine ⟨_, rfl, y, dy5, _, rfl, hy5, (yfl_no _ _ _ _ _).2.1, _, rfl, _, rfl, .inr ⟨r, _, 1, _, rfl, rfl, SqT.of hr5, rfl, ?_⟩⟩
    refine ⟨b, H, y, wA, lA, dA, tr, n, st, tk, m, i, m2, rfl, hY5, hmv', by omega, by omega, hT, fun st' hs H' tk' hY' => ?_, stuck⟩
    exact ⟨_, _, st', tk', m + 1, rfl, Nat.succ_le_succ hm, steps_next hst em hs, hY'⟩
  ·rintro σ H2 ⟨v1, v2, st, tk, m, rfl, hm, hst, hY⟩
   have hrl : (rs.map V.ref).length = ms.length := by rw [List.length_map]; exact Paired.length hpr
   rw [hrl, List.take_length] at hst
   rw [hrl] at hm
   exact kQ st hst H2 tk m hm hY
def leftB (T : List Int) (b : Bool) (n : Nat) (ms : List Yd.Mv) (W : List Int) : Bool := match Yd.steps T b (Yd.init n) ms with
 | some st => decide (st.left = W)
 | none => false
def sp_leave_so : Sp := fun vs H Q _ => ∃ (wA mA sA : Addr) (b : Bool) (n : Nat) (T W : List Int) (ms : List Yd.Mv), vs = [.ref wA, .bl b, .int n, .ref mA, .ref sA] /\ H wA = some (.lst (T.map V.int)) /\ T.length <= 200 /\ MovesAt H mA ms /\ ms.length <= 1000 /\ (∀ m ∈ ms, m.2 < n) /\ H sA = some (.lst (W.map V.int)) /\
 ∀ H', Same H H' -> Q (.bl (leftB T b n ms W)) H'
theorem sc_leave_so : FnScope ["coming", "blind", "many", "moves", "wanted", "yard"] ["coming", "blind", "many", "moves", "wanted"] (defScope s_leave_so) := ⟨rfl, rfl, rfl, by decide +kernel, rfl, by decide +kernel, by decide +kernel⟩
theorem C_leave_so (T : Tx K mg Z) : Ctr P w K mg base CX0 6 "leave_so" ["coming", "blind", "many", "moves", "wanted"] sp_leave_so := by
 refine ctr_of T.leave_so fun f fd F => F.ok sc_leave_so (fun vs H Q E h => ?_) (fun cdv A outer s H vs Q E hr h => ?_)
 ·obtain ⟨wA, mA, sA, b, n, T, W, ms, rfl, _⟩ := h
  rfl
 ·obtain ⟨wA, mA, sA, b, n, tr, W, ms, rfl, hw, hTz, hM, hMz, hmn, hW, kQ⟩ := h
  refine' ⟨_, ?hterm, ?_⟩
  case hterm =>
   refine' pss_cons ?q1 ?q2
   case q1 =>
    refine' ps_set (i := 5) sc_leave_so.nd rfl (Or.inl rfl) ?q3
    case' q3 => refine' pe_makeC (M_Yard T) (hr.mono (by decide)) rfl ?q4
    case' q4 => refine' pa_cons (pv 0) ?q5
    case q5 => exact pa_cons (pv 1) pa_nil
   case' q2 => refine' pss_cons ?q6 ?q7
   case q6 =>
    refine' ps_try2 (K := K) (by rfl) rfl rfl ?q8 rfl T.c_BadMoves T.xc_BadMoves T.xty_BadMoves rfl T.c_Stuck T.xc_Stuck T.xty_Stuck (fun ea => ?q9) (fun ea => ?q10)
    case q8 =>
     refine' psx_expr ?q11
     case' q11 => refine' px_meth (pv 5) (m_carry_out T) (hr.mono (by decide)) ?q12
     case' q12 => refine' px_quiet ?q13
     case' q13 => refine' pe_callC (C_checked_moves T) (hr.mono (by decide)) rfl ?q14
     case' q14 => refine' pa_cons (pv 3) ?q15
     case q15 => exact pa_cons (pv 2) pa_nil
    case q9 =>
     refine' pss_one ?q16
     case q16 => exact ps_ret pe_bl
    case q10 =>
     refine' pss_one ?q17
     case q17 => exact ps_ret pe_bl
   case' q7 => refine' pss_one ?q18
   case' q18 => refine' ps_ret ?q19
   case' q19 => refine' pe_cmpR (op_eqK (K := K) (by rfl) (by exact hr.units)) ?q20 (pv 4) (nomark _)
   case q20 => exact pe_fldK (K := K) (by rfl) (pv 5) rfl
  refine ⟨_, rfl, _, rfl, fun y dy hy hdy hne => ⟨y, dy, wA, b, tr, rfl, upd_same, ?_, fun lA dA H3 hl hd k1 k2 k3 k4 => ⟨rfl, ?_⟩⟩⟩
  ·rw [upd_ne (ne_of_none hw hy), upd_ne (ne_of_none hw hdy)]
   exact hw
  have s3 : Same H H3 := fun c o e => k1 c o (by rw [upd_ne (ne_of_none e hy), upd_ne (ne_of_none e hdy)]; exact e) (ne_of_none e hy)
  have nlA : lA ≠ y := fun z => by rw [z, upd_same] at hl; cases hl
  have ndA : dA ≠ y := fun z => by rw [z, upd_same] at hd; cases hd
  have hl2 : H lA = none := by
   rw [upd_ne nlA] at hl
   have : lA ≠ dy := fun z => by rw [z, upd_same] at hl; cases hl
   rw [upd_ne this] at hl
   exact hl
  have hd2 : H dA = none := by
   rw [upd_ne ndA] at hd
   have : dA ≠ dy := fun z => by rw [z, upd_same] at hd; cases hd
   rw [upd_ne this] at hd
   exact hd
  refine ⟨_, rfl, y, dy, _, rfl, k4, (yfl_no _ _ _ _ _).2.2.1, ?_⟩
  refine ⟨_, rfl, _, rfl, mA, ms, n, rfl, hM.same s3, hMz, hmn, fun cA H4 s4 f4 h4 => ?_⟩
  have back : ∀ {H' : Hp}, (∀ a o, H4 a = some o -> a ≠ y -> a ≠ lA -> a ≠ dA -> H' a = some o) -> Same H H' := fun {H'} z a o e =>
   z a o (s4 _ _ (s3 a o e)) (ne_of_none e hy) (ne_of_none e hl2) (ne_of_none e hd2)
  have hcl : cA ≠ lA := (ne_of_none k2 f4).symm
  refine ⟨b, y, wA, lA, dA, cA, dy, tr, n, ms, rfl, s4 _ _ k4, s4 _ _ (s3 _ _ hw), s4 _ _ k2, s4 _ _ k3, ne_of_none hw hl2, hcl, h4, hMz, hmn, hTz, fun st hst H5 tk m hm hY => ?_, fun i st m hst em hs d H5 k5 k6 hd5 hd6 => ?_⟩
  ·obtain ⟨dy5, hy5⟩ := hY.ins
   have s5 : Same H H5 := back hY.oth
   refine ⟨_, rfl, y, _, dy5, _, _, rfl, hy5, T.k_Yard, T.a_Yard_left, yfl_left _ _ _ _ _, _, rfl, .inr ⟨dI st.left, dI W, .ints (SqL.of hY.left), .ints (SqL.of (s5 _ _ hW)), ok_ints _ _, ok_ints _ _, ?_⟩⟩
   have := kQ H5 s5
   unfold leftB at this
   rw [hst] at this
   have this : Q (.bl (decide (st.left = W))) H5 := this
   by_cases hq : st.left = W
   ·rw [decide_eq_true hq] at this
    exact bl_yes (by rw [hq]) this
   ·rw [decide_eq_false hq] at this
    exact bl_no (fun z => hq (dI_inj z)) this
  ·refine ⟨Z.cStuck, rfl, fun d' e => ⟨_, by cases e; exact hd6⟩, .inr ⟨T.mro_Stuck_BadMoves, T.mro_Stuck_Stuck, fun ea hea => ?_⟩⟩
   have := kQ (upd H5 ea (XH ea Z.cStuck (some d))) ((back k5).trans (Same.upd hea))
   have hn : Yd.steps tr b (Yd.init n) ms = none := steps_stuck hst em hs
   unfold leftB at this
   rw [hn] at this
   exact this
theorem leftB_shunt {T ns : List Int} {b : Bool} {n : Nat} {ms : List Yd.Mv} (hT : T.Nodup) (hm : ∀ m ∈ ms, m.2 < n) (hp : ns.Perm T) (hs : ns.Pairwise (· <= ·)) : leftB T b n ms ns = shuntB T b n (ms.map gOf) := by
 unfold leftB
 cases e : Yd.steps T b (Yd.init n) ms with
 | none => exact (left_none (by rw [gsteps_of hm]; exact e)).symm
 | some st =>
  have := left_sorted hT (by rw [gsteps_of hm]; exact e) hp hs
  show decide (st.left = ns) = _
  rw [Bool.eq_iff_iff, decide_eq_true_iff]
  exact this
def sp_are_falling (K : PySem.W.Frag) : Sp := fun vs H Q _ => ∃ (pA tA : Addr) (ps T : List Int), vs = [.ref pA, .ref tA] /\ H pA = some (.lst (ps.map V.int)) /\ ps.length <= 1000 /\ H tA = some (.lst (T.map V.int)) /\ ∀ H', Same H H' -> Q (.bl (fallsB T ps)) H'
theorem sc_are_falling_wagons : FnScope ["places", "train"] ["places", "train"] (defScope s_are_falling_wagons) := ⟨rfl, rfl, rfl, by decide +kernel, rfl, by decide +kernel, by decide +kernel⟩
theorem C_are_falling_wagons (T : Tx K mg Z) : Ctr P w K mg base CX0 4 "are_falling_wagons" ["places", "train"] (sp_are_falling K) := by
 refine ctr_of T.are_falling_wagons fun f fd F => F.ok sc_are_falling_wagons (fun vs H Q E h => ?_) (fun cdv A outer s H vs Q E hr h => ?_)
 ·obtain ⟨pA, tA, ps, T, rfl, _⟩ := h
  rfl
 ·obtain ⟨pA, tA, ps, tr, rfl, hp, hz, ht, kQ⟩ := h
  refine' ⟨_, ?hterm, ?_⟩
  case hterm =>
   refine' pss_cons ?q1 ?q2
   case q1 =>
    refine' ps_if ?q3 ?q4 pss_nil
    case q3 =>
     refine' pt_not ?q5
     case' q5 => refine' pt_truK (K := K) (by rfl) ?q6 (fun _ => rfl)
     case' q6 => refine' pe_callC (C_are_rising_places T) (hr.mono (by decide)) rfl ?q7
     case' q7 => refine' pa_cons (pv 0) ?q8
     case q8 => exact pa_cons (pv 1) pa_nil
    case' q4 => refine' pss_one ?q9
    case q9 => exact ps_ret pe_bl
   case' q2 => refine' pss_one ?q10
   case q10 =>
    refine' ps_ret ?q11
    case' q11 => refine' pe_callB (callK_all (K := K) (by rfl) (by rfl)) (by rfl) T.n_all b_all ?q12
    case' q12 => refine' pa_cons ?q13 pa_nil
    case' q13 => refine' pe_comp rfl (csc_of (sc := defScope s_are_falling_wagons) (N := ["places", "train"]) (cap := [none, none, some 1]) (N' := ["ahead", "place", "train"]) rfl rfl ⟨ rfl, by decide +kernel, by decide +kernel, by decide +kernel, rfl, by decide +kernel ⟩) ?q14 (fun _ _ _ _ => ?q15) (fun _ _ _ _ => pif_nil) (fun _ _ _ _ => ?q16)
    case q14 =>
     refine' pi_zipK (K := K) (by rfl) rfl T.n_zip ?q17
     case' q17 => refine' pa_cons (pv 0) ?q18
     case' q18 => refine' pa_cons ?q19 pa_nil
     case' q19 => refine' pe_slice (sl_K (K := K) (by rfl)) (pv 0) ?q20 po_none
     case q20 => exact po_some pe_int
    case q15 =>
     refine' pg_tupK (K := K) (n := 2) (by rfl) rfl ?q21
     case' q21 => refine' pgs_cons ?q22 ?q23
     case q22 => exact pg_name (i := 0) (show List.Nodup (["ahead", "place", "train"] : List Str) from by decide +kernel) (by rfl) (by exact Or.inl rfl)
     case' q23 => refine' pgs_cons ?q24 pgs_nil
     case q24 => exact pg_name (i := 1) (show List.Nodup (["ahead", "place", "train"] : List Str) from by decide +kernel) (by rfl) (by exact Or.inl rfl)
    case q16 =>
     refine' pe_cmpR op_lt ?q25 ?q26 (nomark _)
     case q25 => exact pe_ix (ix_K (K := K) (by rfl)) (pv 2) (pv 1) (fun _ _ => rfl)
     case q26 => exact pe_ix (ix_K (K := K) (by rfl)) (pv 2) (pv 0) (fun _ _ => rfl)
  refine ⟨_, rfl, _, rfl, pA, tA, ps, _, rfl, hp, hz, ht, fun H1 s1 => ⟨_, rfl, ?_⟩⟩
  rw [List.length_map]
  cases hri : rises (tr.length : Int) (-1) ps with
  | false =>
   refine iteT ?_
   have := kQ H1 s1
   unfold fallsB at this
   rw [hri, Bool.false_and] at this
   exact this
  | true =>
   refine iteF ?_
   have nn := (falls_rising hri).2.2
   have hp1 := s1 _ _ hp
   refine ⟨_, rfl, _, rfl, _, rfl, pA, _, rfl, SqL.of hp1, fun q hq => ?_⟩
   have ecut : cutV (ps.map V.int) (some 1) none = (ps.drop 1).map V.int := by rw [show (1 : Int) = ((1 : Nat) : Int) from rfl, cutV_from, List.map_drop]
   rw [ecut]
   refine ⟨pA, q, rfl, ⟨_, SqL.of (upd_get hp1 hq)⟩, ⟨_, SqL.of upd_same⟩, fun l hl => ?_⟩
   have s2 : Same H (upd H1 q (.lst ((ps.drop 1).map V.int))) := s1.trans (Same.upd hq)
   have hlH : H l = none := s2.free hl
   have eql : q ≠ l := ne_of_none upd_same hl
   refine turns_zip (K := K) (xs := ps.map V.int) (ys := (ps.drop 1).map V.int)
    (fun i σ H2 => (∃ a b, σ = [a, b, some (.ref tA)]) /\ Same H H2 /\ H2 q = some (.lst ((ps.drop 1).map V.int)) /\ H2 l = some (.lst (((List.range i).map (fallAt tr ps)).map V.bl)))
    ⟨⟨_, _, rfl⟩, s2.trans (Same.upd hl), by rw [upd_ne eql, upd_same], upd_same⟩ (fun i σ H2 h => ⟨SqL.of (h.2.1 _ _ hp), SqL.of h.2.2.1⟩) ?_ ?_
   ·rintro i x y t σ H2 hx hy ⟨⟨a1, b1, rfl⟩, s3, h2, h3⟩ ht'
    obtain ⟨z, ez, rfl⟩ := getMap hx
    obtain ⟨z', ez', rfl⟩ := getMap hy
    have hil : i < ps.length := (List.getElem?_eq_some_iff.mp ez).1
    obtain ⟨n1, n2⟩ := nn z (List.mem_of_getElem? ez)
    obtain ⟨n3, n4⟩ := nn z' (List.mem_of_mem_drop (List.mem_of_getElem? ez'))
    obtain ⟨k, rfl⟩ : ∃ k : Nat, z = (k : Int) := ⟨z.toNat, by omega⟩
    obtain ⟨k', rfl⟩ : ∃ k' : Nat, z' = (k' : Int) := ⟨z'.toNat, by omega⟩
    have gT : ∀ j : Nat, j < tr.length -> atI (tr.map V.int) (j : Int) = some (.int (tr.getD j 0)) := fun j hj => by
     refine atI_nat ?_
     rw [List.getElem?_map, List.getD_eq_getElem?_getD, List.getElem?_eq_getElem hj]
     rfl
    have htH : upd H2 t (.tup [.int (k : Int), .int (k' : Int)]) tA = some (.lst (tr.map V.int)) := upd_get (s3 _ _ ht) ht'
    refine ⟨t, _, rfl, SqT.of upd_same, rfl, _, _, rfl, _, _, rfl, rfl, ?_⟩
    refine ⟨_, rfl, _, rfl, .inl ⟨tA, _, (k' : Int), _, rfl, rfl, SqL.of htH, gT k' (by omega), ?_⟩⟩
    refine ⟨_, rfl, _, rfl, .inl ⟨tA, _, (k : Int), _, rfl, rfl, SqL.of htH, gT k (by omega), _, _, rfl, rfl, ?_⟩⟩
    have e3 : upd H2 t (.tup [.int (k : Int), .int (k' : Int)]) l = some (.lst (((List.range i).map (fallAt tr ps)).map V.bl)) := upd_get h3 ht'
    refine ⟨_, e3, ?_, ⟨_, _, rfl⟩, Same.updN (s3.trans (Same.upd ht')) hlH, ?_, ?_⟩
    ·rw [List.length_map, List.length_map, List.length_range]
     exact small1000 (by omega)
    ·rw [upd_ne eql]; exact upd_get h2 ht'
    ·rw [upd_same, List.range_succ, List.map_append, List.map_append]
     have ef : fallAt tr ps i = decide (tr.getD k' 0 < tr.getD k 0) := by
      unfold fallAt
      rw [List.getElem?_drop, Nat.add_comm] at ez'
      rw [List.getD_eq_getElem?_getD (l := ps), List.getD_eq_getElem?_getD (l := ps), ez, ez']
      rfl
     show _ = some (HO.lst (_ ++ [V.bl (fallAt tr ps i)]))
     rw [ef]
   ·rintro σ H2 ⟨_, s3, _, h3⟩
    refine ⟨l, (List.range (ps.length - 1)).map (fallAt tr ps), rfl, SqL.of ?_, ?_⟩
    ·rw [h3, List.length_map, List.length_map, List.length_drop, show min ps.length (ps.length - 1) = ps.length - 1 from by omega]
    ·have := kQ H2 s3
     unfold fallsB at this
     rw [hri, Bool.true_and] at this
     rw [List.all_map]
     exact this
theorem dn_falls {T : List Int} {s : Thr.S} {n : Nat} {ps : List Nat} {wd : Int} (h : Thr.Dn T s.tr n 0 ps wd) (kk : Thr.K T s) : fallsB T (ps.reverse.map fun (p : Nat) => (p : Int)) = true := by
 have lt : ∀ p ∈ ps, p < T.length := fun p hp => by
  obtain ⟨i, hi, e⟩ := List.getElem_of_mem hp
  obtain ⟨_, t, _, et⟩ := h.at_ i p (by rw [List.getElem?_eq_getElem hi, e])
  rw [<- kk.len]
  exact (List.getElem?_eq_some_iff.mp et).1
 have adj : ∀ (k a b : Nat), ps.reverse[k]? = some a -> ps.reverse[k + 1]? = some b -> a < b /\ T.getD b 0 < T.getD a 0 := fun k a b h1 h2 => by
  have hk : k + 1 < ps.length := by have := (List.getElem?_eq_some_iff.mp h2).1; rwa [List.length_reverse] at this
  rw [List.getElem?_reverse (by omega)] at h1 h2
  have e : ps.length - 1 - k = (ps.length - 1 - (k + 1)) + 1 := by omega
  rw [e] at h1
  obtain ⟨q1, x, y, q2, q3, q4⟩ := h.adj _ b a h2 h1
  refine ⟨q1, ?_⟩
  rw [List.getD_eq_getElem?_getD, List.getD_eq_getElem?_getD, q2, q3]
  exact q4
 unfold fallsB
 rw [Bool.and_eq_true]
 refine ⟨?_, List.all_eq_true.mpr fun k hk => ?_⟩
 ·rw [rises_split]
  refine ⟨?_, fun p hp => ?_⟩
  ·rw [List.pairwise_cons]
   refine ⟨fun p hp => ?_, ?_⟩
   ·obtain ⟨z, _, rfl⟩ := List.mem_map.mp hp
    omega
   ·rw [List.pairwise_map]
    exact (pairwise_up fun k a b h1 h2 => (adj k a b h1 h2).1).imp fun {a b} z => by omega
  ·obtain ⟨z, hz, rfl⟩ := List.mem_map.mp hp
   have := lt z (List.mem_reverse.mp hz)
   omega
 ·have hk := List.mem_range.mp hk
  rw [List.length_map, List.length_reverse] at hk
  have e : ∀ j, j < ps.length -> ((ps.reverse.map fun (p : Nat) => (p : Int)).getD j 0).toNat = ps.reverse.getD j 0 := fun j hj => by
   rw [List.getD_eq_getElem?_getD, List.getD_eq_getElem?_getD, List.getElem?_map, List.getElem?_eq_getElem (by rw [List.length_reverse]; exact hj)]
   rfl
  unfold fallAt
  rw [e k (by omega), e (k + 1) (by omega)]
  refine decide_eq_true (adj k _ _ ?_ ?_).2
  ·rw [List.getD_eq_getElem?_getD, List.getElem?_eq_getElem (by rw [List.length_reverse]; omega)]; rfl
  ·rw [List.getD_eq_getElem?_getD, List.getElem?_eq_getElem (by rw [List.length_reverse]; omega)]; rfl
theorem mvs_lt {T : List Int} {s : Thr.S} {ord : List Nat} {n : Nat} (hR : Rank T ord) (kk : Thr.K T s) (hn : ∀ (p t : Nat), s.tr[p]? = some t -> t < n) : ∀ m ∈ mvsT s.tr ord, m.2 < n := by
 intro m hm
 unfold mvsT at hm
 rcases List.mem_append.mp hm with z | z
 ·obtain ⟨t, ht, rfl⟩ := List.mem_map.mp z
  obtain ⟨i, hi, e⟩ := List.getElem_of_mem ht
  exact hn i t (by rw [List.getElem?_eq_getElem hi, e])
 ·obtain ⟨p, hp, rfl⟩ := List.mem_map.mp z
  have hl : p < s.tr.length := by rw [kk.len]; exact (hR.ord.mem p).mp hp
  refine hn p _ ?_
  rw [List.getD_eq_getElem?_getD, List.getElem?_eq_getElem hl]
  rfl
theorem mvs_len {T : List Int} {s : Thr.S} {ord : List Nat} (hR : Rank T ord) (kk : Thr.K T s) : (mvsT s.tr ord).length = T.length + T.length := by
 unfold mvsT
 rw [List.length_append, List.length_map, List.length_map, kk.len, hR.perm.length_eq, List.length_range]
theorem rank_perm {T : List Int} {ord : List Nat} (hr : Rank T ord) : (ord.map fun p => T.getD p 0).Perm T := by
 have h1 := hr.perm.map fun p => T.getD p 0
 have h2 : (List.range T.length).map (fun p => T.getD p 0) = T := by
  refine List.ext_getElem? fun i => ?_
  rw [List.getElem?_map]
  by_cases hi : i < T.length
  ·rw [List.getElem?_range hi, List.getElem?_eq_getElem hi]
   show some (T.getD i 0) = _
   rw [List.getD_eq_getElem?_getD, List.getElem?_eq_getElem hi]
   rfl
  ·rw [List.getElem?_eq_none_iff.mpr (by rw [List.length_range]; omega), List.getElem?_eq_none_iff.mpr (by omega)]
   rfl
 rw [h2] at h1
 exact h1
theorem mvs_brings {T : List Int} {s : Thr.S} {ord : List Nat} {n : Nat} (hT : T.Nodup) (hR : Rank T ord) (kk : Thr.K T s) (hn : ∀ (p t : Nat), s.tr[p]? = some t -> t < n) : shuntB T false n ((mvsT s.tr ord).map gOf) = true := by
 rw [<- leftB_shunt (ns := (ord.map fun p => T.getD p 0)) hT (mvs_lt hR kk hn) (rank_perm hR) (by rw [List.pairwise_map]; exact hR.up)]
 unfold leftB mvsT
 rw [Thr.brings (la := s.la) (kk : Thr.K T ⟨s.tr, s.la⟩) hR.ord (fun i j p q => hR.lt hT i j p q) hn]
 show decide ((Thr.Y T s.tr ord n T.length ord.length).left = _) = true
 refine decide_eq_true ?_
 show (ord.take ord.length).map _ = _
 rw [List.take_length]
end
end My
namespace My.Bad
open PySem L2
section
variable {P : Program} {w : World} {K : PySem.W.Frag} {mg : Str -> Option Value} {base : Heap} {Z : Adr}
def sp_track (Z : Adr) : Sp := fun vs H _ E => ∃ t n : Int, vs = [.int t, .int n] /\ 0 <= t /\ n <= t /\ E (.ref Z.cBadMoves) none H
theorem C_checked_track (T : Tx K mg Z) : Ctr P w K mg base (CXe P w) 2 "checked_track" ["track", "many"] (sp_track Z) := by
 refine ctr_of T.checked_track fun f fd F => F.okE sc_checked_track (fun vs H Q E h => ?_) (fun cdv A outer s H vs Q E hr h => ?_)
 ·obtain ⟨t, n, rfl, _⟩ := h
  rfl
 ·obtain ⟨t, n, rfl, h1, h2, q⟩ := h
  refine' ⟨_, ?hterm, ?_⟩
  case hterm =>
   refine' pss_cons ?q1 ?q2
   case q1 =>
    refine' ps_if ?q3 ?q4 pss_nil
    case q3 =>
     refine' pt_not ?q5
     case' q5 => refine' pt_truK (K := K) (by rfl) ?q6 (fun _ => rfl)
     case' q6 => refine' pe_callC (C_is_number T) (hr.mono (by decide)) rfl ?q7
     case q7 => exact pa_cons (pv 0) pa_nil
    case' q4 => refine' pss_one ?q8
    case' q8 => refine' ps_raise0 (k := 0) T.x0_BadMoves (hr.mono (by decide)) T.c_BadMoves rfl raisesE ?q9
    case q9 => exact pa_cons pe_str pa_nil
   case' q2 => refine' pss_cons ?q10 ?q11
   case q10 =>
    refine' ps_set (i := 2) sc_checked_track.nd rfl (Or.inl rfl) ?q12
    case' q12 => refine' pe_callTy call_int1 (by rfl) T.n_int b_int ?q13
    case q13 => exact pa_cons (pv 0) pa_nil
   case' q11 => refine' pss_cons ?q14 ?q15
   case q14 =>
    refine' ps_if ?q16 ?q17 pss_nil
    case q16 =>
     refine' PW.pt ?q18
     case' q18 => refine' pw_or ?q19 ?q20
     case q19 => exact pt_cmpR op_lt (pv 2) pe_int (nomark _)
     case' q20 => refine' pw_or1 ?q21
     case q21 => exact pt_cmpR op_ge (pv 2) (pv 1) (nomark _)
    case' q17 => refine' pss_one ?q22
    case' q22 => refine' ps_raise0 (k := 0) T.x0_BadMoves (hr.mono (by decide)) T.c_BadMoves rfl raisesE ?q23
    case q23 => exact pa_cons pe_str pa_nil
   case q15 =>
    refine' pss_one ?q24
    case q24 => exact ps_ret (pv 2)
  refine ⟨_, rfl, t, rfl, _, rfl, iteF ?_⟩
  refine ⟨_, rfl, .inl ⟨t, rfl, ?_⟩⟩
  refine ⟨_, rfl, t, 0, rfl, rfl, _, rfl, ?_⟩
  rw [decide_eq_false (show ¬ t < 0 by omega)]
  refine iteF ⟨_, rfl, _, rfl, t, n, rfl, rfl, _, rfl, ?_⟩
  rw [decide_eq_true h2]
  exact iteT ⟨(by show 1 <= 1000; decide), q⟩
def sp_move (Z : Adr) : Sp := fun vs H _ E => ∃ (m : Addr) (b : Bool) (t n : Int), vs = [.ref m, .int n] /\ H m = some (.tup [.str (deed b), .int t]) /\ 0 <= t /\ n <= t /\ ∀ H', Same H H' -> E (.ref Z.cBadMoves) none H'
theorem C_checked_move (T : Tx K mg Z) : Ctr P w K mg base (CXe P w) 3 "checked_move" ["move", "many"] (sp_move Z) := by
 refine ctr_of T.checked_move fun f fd F => F.okE sc_checked_move (fun vs H Q E h => ?_) (fun cdv A outer s H vs Q E hr h => ?_)
 ·obtain ⟨m, b, t, n, rfl, _⟩ := h
  rfl
 ·obtain ⟨m, b, t, n, rfl, hm, h1, h2, k⟩ := h
  refine' ⟨_, ?hterm, ?_⟩
  case hterm =>
   refine' pss_cons ?q1 ?q2
   case q1 =>
    refine' ps_if ?q3 ?q4 pss_nil
    case q3 =>
     refine' pt_not ?q5
     case' q5 => refine' pt_truK (K := K) (by rfl) ?q6 (fun _ => rfl)
     case' q6 => refine' pe_callB (callK_isinstance (K := K) (by rfl)) (by rfl) T.n_isinstance b_isinstance ?q7
     case' q7 => refine' pa_cons (pv 0) ?q8
     case' q8 => refine' pa_cons ?q9 pa_nil
     case q9 => exact pe_tyN rfl T.n_tuple b_tuple
    case' q4 => refine' pss_one ?q10
    case q10 =>
     refine' ps_raise0 (k := 0) T.x0_BadMoves (hr.mono (by decide)) T.c_BadMoves rfl raisesE ?q11
     case q11 => exact pa_cons pe_str pa_nil
   case' q2 => refine' pss_cons ?q12 ?q13
   case q12 =>
    refine' ps_set (i := 2) sc_checked_move.nd rfl (Or.inl rfl) ?q14
    case' q14 => refine' pe_op (op_addK (K := K) (by rfl)) ?q15 (pv 0)
    case q15 => exact pe_tup pa_nil
   case' q13 => refine' pss_cons ?q16 ?q17
   case q16 =>
    refine' ps_if ?q18 ?q19 pss_nil
    case q18 =>
     refine' pt_cmpR (op_neK (K := K) (by rfl) (by exact hr.units)) ?q20 pe_int (nomark _)
     case' q20 => refine' pe_callB (callK_len (K := K) (by rfl)) (by rfl) T.n_len b_len ?q21
     case q21 => exact pa_cons (pv 2) pa_nil
    case' q19 => refine' pss_one ?q22
    case' q22 => refine' ps_raise0 (k := 0) T.x0_BadMoves (hr.mono (by decide)) T.c_BadMoves rfl raisesE ?q23
    case q23 => exact pa_cons pe_str pa_nil
   case' q17 => refine' pss_one ?q24
   case' q24 => refine' ps_ret ?q25
   case' q25 => refine' pe_tup ?q26
   case' q26 => refine' pa_cons ?q27 ?q28
   case q27 =>
    refine' pe_callC (C_checked_word T) (hr.mono (by decide)) rfl ?q29
    case' q29 => refine' pa_cons ?q30 pa_nil
    case q30 => exact pe_ix (ix_K (K := K) (by rfl)) (pv 2) pe_int (fun _ _ => rfl)
   case' q28 => refine' pa_cons ?q31 pa_nil
   case' q31 => refine' pe_callCE (C_checked_track T) (hr.mono (by decide)) rfl ?q32 (passE (fun _ _ _ z => z))
   case' q32 => refine' pa_cons ?q33 ?q34
   case q33 => exact pe_ix (ix_K (K := K) (by rfl)) (pv 2) pe_int (fun _ _ => rfl)
   case q34 => exact pa_cons (pv 1) pa_nil
  refine ⟨_, rfl, _, _, _, _, _, rfl, rfl, ty_inj, .tup hm, kit_same, _, rfl, iteF ?_⟩
  refine ⟨Nat.zero_le _, fun e he => ⟨_, rfl, .inr (.inr (.inl ⟨e, m, [], _, rfl, rfl, SqT.of upd_same, SqT.of (upd_get hm he), (by show 0 + 2 <= sizeLine; decide), fun _ => ?_, fun z => absurd rfl z, fun z => absurd rfl z⟩))⟩⟩
  have hm1 : upd H e (.tup []) m = some (.tup [.str (deed b), .int t]) := upd_get hm he
  refine ⟨_, rfl, _, 2, rfl, .inr ⟨_, SqT.of hm1, rfl⟩, .inl ⟨rfl, _, rfl, iteNS rfl ?_⟩⟩
  refine ⟨_, rfl, .inr ⟨m, _, 0, _, rfl, rfl, SqT.of hm1, rfl, b, rfl, fun H2 s2 => ?_⟩⟩
  exact ⟨_, rfl, .inr ⟨m, _, 1, _, rfl, rfl, SqT.of (s2 _ _ hm1), rfl, _, rfl, t, n, rfl, h1, h2, k _ ((Same.upd he).trans s2)⟩⟩
def sp_moves (Z : Adr) : Sp := fun vs H _ E => ∃ (mA m : Addr) (b : Bool) (t n : Int), vs = [.ref mA, .int n] /\ H mA = some (.lst [.ref m]) /\ H m = some (.tup [.str (deed b), .int t]) /\ 0 <= t /\ n <= t /\ ∀ H', Same H H' -> E (.ref Z.cBadMoves) none H'
theorem C_checked_moves (T : Tx K mg Z) : Ctr P w K mg base (CXe P w) 4 "checked_moves" ["moves", "many"] (sp_moves Z) := by
 refine ctr_of T.checked_moves fun f fd F => F.okE sc_checked_moves (fun vs H Q E h => ?_) (fun cdv A outer s H vs Q E hr h => ?_)
 ·obtain ⟨mA, m, b, t, n, rfl, _⟩ := h
  rfl
 ·obtain ⟨mA, m, b, t, n, rfl, hl, hm, h1, h2, k⟩ := h
  refine' ⟨_, ?hterm, ?_⟩
  case hterm =>
   refine' pss_cons ?q1 ?q2
   case q1 =>
    refine' ps_if ?q3 ?q4 pss_nil
    case q3 =>
     refine' pt_not ?q5
     case' q5 => refine' pt_truK (K := K) (by rfl) ?q6 (fun _ => rfl)
     case' q6 => refine' pe_callB (callK_isinstance (K := K) (by rfl)) (by rfl) T.n_isinstance b_isinstance ?q7
     case' q7 => refine' pa_cons (pv 0) ?q8
     case' q8 => refine' pa_cons ?q9 pa_nil
     case q9 => exact pe_tyN rfl T.n_list b_list
    case' q4 => refine' pss_one ?q10
    case' q10 => refine' ps_raise0 (k := 0) T.x0_BadMoves (hr.mono (by decide)) T.c_BadMoves rfl raisesE ?q11
    case q11 => exact pa_cons pe_str pa_nil
   case' q2 => refine' pss_one ?q12
   case' q12 => refine' ps_ret ?q13
   case' q13 => refine' pe_compE rfl rfl rfl raisesF (csc_of (sc := defScope s_checked_moves) (N := ["moves", "many"]) (cap := [none, some 1]) (N' := ["move", "many"]) rfl rfl ⟨ rfl, by decide +kernel, by decide +kernel, by decide +kernel, rfl, by decide +kernel ⟩) ?q14 (fun _ _ _ _ => ?q15) (fun _ _ _ _ => pif_nil) (fun _ _ _ _ => ?q16)
   case q14 =>
    refine' pi_listK (K := K) (by rfl) ?q17
    case' q17 => refine' pe_op (op_addK (K := K) (by rfl)) ?q18 (pv 0)
    case q18 => exact pe_lst pa_nil
   case q15 => exact pg_name (i := 0) (show List.Nodup (["move", "many"] : List Str) from by decide +kernel) (by rfl) (by exact Or.inl rfl)
   case q16 =>
    refine' pe_callCE (C_checked_move T) (hr.mono (by decide)) rfl ?q19 passC
    case' q19 => refine' pa_cons (pv 0) ?q20
    case q20 => exact pa_cons (pv 1) pa_nil
  refine ⟨_, rfl, _, _, _, _, _, rfl, rfl, ty_inj, .lst hl, kit_same, _, rfl, iteF ?_⟩
  refine ⟨Nat.zero_le _, fun e he => ⟨_, rfl, .inr (.inl ⟨e, mA, [], [.ref m], rfl, rfl, upd_same, upd_get hl he, (by show 0 + 1 <= sizeLine; decide), fun u hu => ?_⟩)⟩⟩
  have s1 : Same H (upd (upd H e (.lst [])) u (.lst [.ref m])) := (Same.upd he).trans (Same.upd hu)
  refine ⟨u, rfl, ⟨_, SqL.of upd_same⟩, fun p hp => ?_⟩
  have hup : u ≠ p := ne_of_none upd_same hp
  refine turns_list (K := K) (a := u) (xs := [.ref m]) (fun i σ H2 => (∃ v, σ = [v, some (.int n)]) /\ Same H H2 /\ H2 u = some (.lst [.ref m]) /\ i = 0)
   ⟨⟨_, rfl⟩, s1.trans (Same.upd hp), upd_get upd_same hp, rfl⟩ (fun i σ H2 _ h => SqL.of h.2.2.1) ?_ ?_
  ·rintro i x σ H2 hx ⟨⟨v, rfl⟩, s2, h3, rfl⟩
   cases hx
   exact ⟨_, rfl, _, rfl, m, b, t, n, rfl, s2 _ _ hm, h1, h2, fun H' s' => k H' (s2.trans s')⟩
  ·rintro σ H2 ⟨_, _, _, z⟩
   cases z
def sp_leave (Z : Adr) : Sp := fun vs H Q _ => ∃ (wA mA sA m : Addr) (b c : Bool) (t n : Int) (T : List Int), vs = [.ref wA, .bl b, .int n, .ref mA, .ref sA] /\ H wA = some (.lst (T.map V.int)) /\ H mA = some (.lst [.ref m]) /\ H m = some (.tup [.str (deed c), .int t]) /\ 0 <= t /\ n <= t /\ ∀ H', Same H H' -> Q (.bl false) H'
theorem C_leave_so (T : Tx K mg Z) : Ctr P w K mg base CX0 6 "leave_so" ["coming", "blind", "many", "moves", "wanted"] (sp_leave Z) := by
 refine ctr_of T.leave_so fun f fd F => F.ok sc_leave_so (fun vs H Q E h => ?_) (fun cdv A outer s H vs Q E hr h => ?_)
 ·obtain ⟨wA, mA, sA, m, b, c, t, n, T, rfl, _⟩ := h
  rfl
 ·obtain ⟨wA, mA, sA, m, b, c, t, n, tr, rfl, hw, hl, hm, h1, h2, kQ⟩ := h
  refine' ⟨_, ?hterm, ?_⟩
  case hterm =>
   refine' pss_cons ?q1 ?q2
   case q1 =>
    refine' ps_set (i := 5) sc_leave_so.nd rfl (Or.inl rfl) ?q3
    case' q3 => refine' pe_makeC (M_Yard T) (hr.mono (by decide)) rfl ?q4
    case' q4 => refine' pa_cons (pv 0) ?q5
    case q5 => exact pa_cons (pv 1) pa_nil
   case' q2 => refine' pss_cons ?q6 ?q7
   case q6 =>
    refine' ps_try2 (K := K) (by rfl) rfl rfl ?q8 rfl T.c_BadMoves T.xc_BadMoves T.xty_BadMoves rfl T.c_Stuck T.xc_Stuck T.xty_Stuck (fun ea => ?q9) (fun ea => ?q10)
    case q8 =>
     refine' psx_expr ?q11
     case' q11 => refine' px_meth (pv 5) (m_carry_out T) (hr.mono (by decide)) ?q12
     case' q12 => refine' px_call (C_checked_moves T) (hr.mono (by decide)) rfl ?q13
     case' q13 => refine' pa_cons (pv 3) ?q14
     case q14 => exact pa_cons (pv 2) pa_nil
    case q9 =>
     refine' pss_one ?q15
     case q15 => exact ps_ret pe_bl
    case q10 =>
     refine' pss_one ?q16
     case q16 => exact ps_ret pe_bl
   case' q7 => refine' pss_one ?q17
   case' q17 => refine' ps_ret ?q18
   case' q18 => refine' pe_cmpR (op_eqK (K := K) (by rfl) (by exact hr.units)) ?q19 (pv 4) (nomark _)
   case q19 => exact pe_fldK (K := K) (by rfl) (pv 5) rfl
  refine ⟨_, rfl, _, rfl, fun y dy hy hdy hne => ⟨y, dy, wA, b, tr, rfl, upd_same, ?_, fun lA dA H3 hl' hd k1 k2 k3 k4 => ⟨rfl, ?_⟩⟩⟩
  ·rw [upd_ne (ne_of_none hw hy), upd_ne (ne_of_none hw hdy)]
   exact hw
  have s3 : Same H H3 := fun c o e => k1 c o (by rw [upd_ne (ne_of_none e hy), upd_ne (ne_of_none e hdy)]; exact e) (ne_of_none e hy)
  refine ⟨_, rfl, y, dy, _, rfl, k4, (yfl_no _ _ _ _ _).2.2.1, ?_⟩
  refine ⟨_, rfl, _, rfl, mA, m, c, t, n, rfl, s3 _ _ hl, s3 _ _ hm, h1, h2, fun H4 s4 => ?_⟩
  exact ⟨Z.cBadMoves, rfl, fun d e => (by cases e), .inl ⟨T.mro_BadMoves_BadMoves, fun ea hea => kQ _ ((s3.trans s4).trans (Same.upd hea))⟩⟩
end
end My.Bad
namespace My
open PySem L2
section
variable {P : Program} {w : World} {K : PySem.W.Frag} {mg : Str -> Option Value} {base : Heap} {Z : Adr}
def sp_brought (K : PySem.W.Frag) : Sp := fun vs H Q _ => ∃ (tA mA : Addr) (b : Bool) (n : Nat) (T : List Int) (gs : List Gm), vs = [.ref tA, .bl b, .int n, .ref mA] /\ SqL K H tA (T.map V.int) /\ T.length < 300 /\ GMovesAt H mA gs /\ gs.length <= 1000 /\ n <= 500 /\
 (gsteps T b n (Yd.init n) gs = none -> ∀ H', Same H H' -> Q .non H') /\ (∀ st, gsteps T b n (Yd.init n) gs = some st -> ∀ lA H', Same H H' -> H lA = none -> H' lA = some (.lst (st.left.map V.int)) -> Q (.ref lA) H')
theorem in_words (x : Str) : inV (.str x) [.str (Str.ofString "in"), .str (Str.ofString "out")] = (decide (x = Str.ofString "in") || decide (x = Str.ofString "out")) := by
 unfold inV
 simp only [List.any_cons, List.any_nil, Bool.or_false]
 show ((Str.ofString "in" == x) || (Str.ofString "out" == x)) = _
 congr 1
 ·rw [Bool.eq_iff_iff, beq_iff_eq, decide_eq_true_iff]; exact ⟨fun h => h.symm, fun h => h.symm⟩
 ·rw [Bool.eq_iff_iff, beq_iff_eq, decide_eq_true_iff]; exact ⟨fun h => h.symm, fun h => h.symm⟩
theorem sc__law_brought : FnScope ["_law_train", "_law_blind", "_law_many", "_law_moves", "_law_tracks", "_law_left", "_law_came", "_law_move"] ["_law_train", "_law_blind", "_law_many", "_law_moves"] (defScope s__law_brought) := ⟨rfl, rfl, rfl, by decide +kernel, rfl, by decide +kernel, by decide +kernel⟩
theorem C__law_brought (T : Tx K mg Z) : Ctr P w K mg base CX0 1 "_law_brought" ["_law_train", "_law_blind", "_law_many", "_law_moves"] (sp_brought K) := by
 refine ctr_of T._law_brought fun f fd F => F.ok sc__law_brought (fun vs H Q E h => ?_) (fun cdv A outer s H vs Q E hr h => ?_)
 ·obtain ⟨tA, mA, b, n, T, gs, rfl, _⟩ := h
  rfl
 ·obtain ⟨tA, mA, b, n, tr, gs, rfl, hT, hTz, ⟨rs, hrs, hprs⟩, hMz, hn2, kN, kS⟩ := h
  refine' ⟨_, ?hterm, ?_⟩
  case hterm =>
   refine' pss_cons ?q1 ?q2
   case q1 =>
    refine' ps_par3 (i := 4) (j := 5) (k := 6) rfl sc__law_brought.nd rfl rfl rfl (by decide) (by decide) (by decide) rfl rfl rfl ?q3 (by kernel_rfl) (hs := by kernel_rfl)
    case' q3 => refine' pa_cons ?q4 ?q5
    case q4 =>
     refine' pe_comp rfl (csc_of (sc := defScope s__law_brought) (N := ["_law_train", "_law_blind", "_law_many", "_law_moves", "_law_tracks", "_law_left", "_law_came", "_law_move"]) (cap := [none]) (N' := ["_law_track"]) rfl rfl ⟨ rfl, by decide +kernel, by decide +kernel, by decide +kernel, rfl, by decide +kernel ⟩) ?q6 (fun _ _ _ _ => ?q7) (fun _ _ _ _ => pif_nil) (fun _ _ _ _ => ?q8)
     case q6 =>
      refine' pi_range1 rfl T.n_range ?q9
      case q9 => exact pa_cons (pv 2) pa_nil
     case q7 => exact pg_name (i := 0) (show List.Nodup (["_law_track"] : List Str) from by decide +kernel) (by rfl) (by exact Or.inl rfl)
     case q8 => exact pe_lst pa_nil
    case' q5 => refine' pa_cons ?q10 ?q11
    case q10 => exact pe_lst pa_nil
    case q11 => exact pa_cons pe_int pa_nil
   case' q2 => refine' pss_cons ?q12 ?q13
   case q12 =>
    refine' ps_for HP rfl ?q14 ?q15 ?q16
    case q14 => exact pi_listK (K := K) (by rfl) (pv 3)
    case q15 => exact pg_name (i := 7) sc__law_brought.nd (by rfl) (by exact Or.inl rfl)
    case q16 =>
     refine' pss_cons ?q17 ?q18
     case q17 =>
      refine' ps_if ?q19 ?q20 pss_nil
      case q19 =>
       refine' PW.pt ?q21
       case' q21 => refine' pw_or ?q22 ?q23
       case q22 =>
        refine' pt_not ?q24
        case' q24 => refine' pt_truK (K := K) (by rfl) ?q25 (fun _ => rfl)
        case' q25 => refine' pe_callB (callK_isinstance (K := K) (by rfl)) (by rfl) T.n_isinstance b_isinstance ?q26
        case' q26 => refine' pa_cons (pv 7) ?q27
        case' q27 => refine' pa_cons ?q28 pa_nil
        case q28 => exact pe_tyN rfl T.n_tuple b_tuple
       case' q23 => refine' pw_or ?q29 ?q30
       case q29 =>
        refine' pt_cmpR (op_neK (K := K) (by rfl) (by exact hr.units)) ?q31 pe_int (nomark _)
        case' q31 => refine' pe_callB (callK_len (K := K) (by rfl)) (by rfl) T.n_len b_len ?q32
        case q32 => exact pa_cons (pv 7) pa_nil
       case' q30 => refine' pw_or1 ?q33
       case' q33 => refine' pt_cmpR (op_notInK (K := K) (by rfl)) ?q34 ?q35 (by with_unfolding_all rfl)
       case q34 => exact pe_ix (ix_K (K := K) (by rfl)) (pv 7) pe_int (fun _ _ => rfl)
       case' q35 => refine' pe_lst ?q36
       case' q36 => refine' pa_cons pe_str ?q37
       case q37 => exact pa_cons pe_str pa_nil
      case' q20 => refine' pss_one ?q38
      case q38 => exact ps_ret pe_non
     case' q18 => refine' pss_cons ?q39 ?q40
     case q39 =>
      refine' ps_if ?q41 ?q42 pss_nil
      case q41 =>
       refine' PW.pt ?q43
       case' q43 => refine' pw_or ?q44 ?q45
       case q44 =>
        refine' pt_truK (K := K) (by rfl) ?q46 (fun _ => rfl)
        case' q46 => refine' pe_callB (callK_isinstance (K := K) (by rfl)) (by rfl) T.n_isinstance b_isinstance ?q47
        case' q47 => refine' pa_cons ?q48 ?q49
        case q48 => exact pe_ix (ix_K (K := K) (by rfl)) (pv 7) pe_int (fun _ _ => rfl)
        case' q49 => refine' pa_cons ?q50 pa_nil
        case q50 => exact pe_tyN rfl T.n_bool b_bool
       case' q45 => refine' pw_or ?q51 ?q52
       case q51 =>
        refine' pt_not ?q53
        case' q53 => refine' pt_truK (K := K) (by rfl) ?q54 (fun _ => rfl)
        case' q54 => refine' pe_callB (callK_isinstance (K := K) (by rfl)) (by rfl) T.n_isinstance b_isinstance ?q55
        case' q55 => refine' pa_cons ?q56 ?q57
        case q56 => exact pe_ix (ix_K (K := K) (by rfl)) (pv 7) pe_int (fun _ _ => rfl)
        case' q57 => refine' pa_cons ?q58 pa_nil
        case q58 => exact pe_tyN rfl T.n_int b_int
       case' q52 => refine' pw_or1 ?q59
       case' q59 => refine' pt_not ?q60
       case' q60 => refine' pt_chain op_le op_lt pe_int ?q61 (pv 2)
       case q61 => exact pe_ix (ix_K (K := K) (by rfl)) (pv 7) pe_int (fun _ _ => rfl)
      case' q42 => refine' pss_one ?q62
      case q62 => exact ps_ret pe_non
     case' q40 => refine' pss_one ?q63
     case' q63 => refine' ps_if ?q64 ?q65 ?q66
     case q64 =>
      refine' PW.pt ?q67
      case' q67 => refine' pw_and ?q68 ?q69
      case q68 =>
       refine' pt_cmpR (op_eqK (K := K) (by rfl) (by exact hr.units)) ?q70 pe_str (nomark _)
       case q70 => exact pe_ix (ix_K (K := K) (by rfl)) (pv 7) pe_int (fun _ _ => rfl)
      case' q69 => refine' pw_and1 ?q71
      case' q71 => refine' pt_cmpR op_lt (pv 6) ?q72 (nomark _)
      case' q72 => refine' pe_callB (callK_len (K := K) (by rfl)) (by rfl) T.n_len b_len ?q73
      case q73 => exact pa_cons (pv 0) pa_nil
     case q65 =>
      refine' pss_cons ?q74 ?q75
      case q74 =>
       refine' ps_expr ?q76
       case' q76 => refine' pe_bmK (K := K) (by rfl) PySem.F.plainAttrs_list PySem.F.slot_list_append PySem.F.type_list_append mt_append ?q77 ?q78
       case q77 =>
        refine' pe_ix (ix_K (K := K) (by rfl)) (pv 4) ?q79 (fun _ _ => rfl)
        case q79 => exact pe_ix (ix_K (K := K) (by rfl)) (pv 7) pe_int (fun _ _ => rfl)
       case' q78 => refine' pa_cons ?q80 pa_nil
       case q80 => exact pe_ix (ix_K (K := K) (by rfl)) (pv 0) (pv 6) (fun _ _ => rfl)
      case' q75 => refine' pss_one ?q81
      case' q81 => refine' ps_set (i := 6) sc__law_brought.nd rfl (Or.inl rfl) ?q82
      case q82 => exact pe_op (op_addK (K := K) (by rfl)) (pv 6) pe_int
     case' q66 => refine' pss_one ?q83
     case' q83 => refine' ps_if ?q84 ?q85 ?q86
     case q84 =>
      refine' PW.pt ?q87
      case' q87 => refine' pw_and ?q88 ?q89
      case q88 =>
       refine' pt_cmpR (op_eqK (K := K) (by rfl) (by exact hr.units)) ?q90 pe_str (nomark _)
       case q90 => exact pe_ix (ix_K (K := K) (by rfl)) (pv 7) pe_int (fun _ _ => rfl)
      case' q89 => refine' pw_and1 ?q91
      case' q91 => refine' pt_cmpR (op_neK (K := K) (by rfl) (by exact hr.units)) ?q92 ?q93 (nomark _)
      case q92 =>
       refine' pe_ix (ix_K (K := K) (by rfl)) (pv 4) ?q94 (fun _ _ => rfl)
       case q94 => exact pe_ix (ix_K (K := K) (by rfl)) (pv 7) pe_int (fun _ _ => rfl)
      case q93 => exact pe_lst pa_nil
     case q85 =>
      refine' pss_one ?q95
      case' q95 => refine' ps_expr ?q96
      case' q96 => refine' pe_bmK (K := K) (by rfl) PySem.F.plainAttrs_list PySem.F.slot_list_append PySem.F.type_list_append mt_append (pv 5) ?q97
      case' q97 => refine' pa_cons ?q98 pa_nil
      case' q98 => refine' pe_ifExp ?q99 ?q100 ?q101
      case q99 => exact pt_truK (K := K) (by rfl) (pv 1) (fun _ => rfl)
      case q100 =>
       refine' pe_bmK0 (K := K) (by rfl) PySem.F.plainAttrs_list PySem.F.slot_list_pop PySem.F.type_list_pop mt_popU ?q102
       case' q102 => refine' pe_ix (ix_K (K := K) (by rfl)) (pv 4) ?q103 (fun _ _ => rfl)
       case q103 => exact pe_ix (ix_K (K := K) (by rfl)) (pv 7) pe_int (fun _ _ => rfl)
      case' q101 => refine' pe_bmK (K := K) (by rfl) PySem.F.plainAttrs_list PySem.F.slot_list_pop PySem.F.type_list_pop mt_popU ?q104 ?q105
      case q104 =>
       refine' pe_ix (ix_K (K := K) (by rfl)) (pv 4) ?q106 (fun _ _ => rfl)
       case q106 => exact pe_ix (ix_K (K := K) (by rfl)) (pv 7) pe_int (fun _ _ => rfl)
      case q105 => exact pa_cons pe_int pa_nil
     case' q86 => refine' pss_one ?q107
     case q107 => exact ps_ret pe_non
   case' q13 => refine' pss_one ?q108
   case q108 => exact ps_ret (pv 5)
  have hrl : rs.length = gs.length := Paired.length hprs
  refine ⟨_, rfl, (n : Int), rfl, by omega, by omega, fun kA hkA => ?_⟩
  rw [Int.toNat_natCast]
  refine turns_range (lo := 0) (n := n) (fun i σ H3 => (∃ v, σ = [v]) /\ Same H H3 /\ ∃ ls : List Addr, Yds H H3 kA ls (List.replicate i []))
   ⟨⟨_, rfl⟩, Same.upd hkA, [], upd_same, rfl, fun j l e => by simp at e, fun i j l e => by simp at e⟩ ?_ ?_
  ·rintro i σ H3 hi ⟨⟨v, rfl⟩, s3, ls, hy⟩
   refine ⟨Nat.zero_le _, fun l hl => ⟨_, (hy.same (Same.upd hl)).lst, ?_, ⟨_, rfl⟩, ?_, ls ++ [l], ?_⟩⟩
   ·rw [List.length_map, hy.len, List.length_replicate]
    exact small1000 (by omega)
   ·exact Same.updN (s3.trans (Same.upd hl)) hkA
   ·have := hy.push s3 hl
    rw [List.replicate_succ']
    exact this
  rintro σ H3 ⟨_, s3, ls, hy⟩
  refine ⟨Nat.zero_le _, fun lA hlA => ⟨_, _, _, rfl, ?_⟩⟩
  have s4 : Same H3 (upd H3 lA (.lst [])) := Same.upd hlA
  have hlH : H lA = none := s3.free hlA
  have ekl : kA ≠ lA := ne_of_none hy.lst hlA
  have ell : ∀ (j : Nat) l, ls[j]? = some l -> l ≠ lA := fun j l e => by
   obtain ⟨c, _, a, _⟩ := hy.each j l e
   exact ne_of_none a hlA
  have hmS : ∀ {H4 : Hp}, Same H H4 -> H4 mA = some (.lst (rs.map V.ref)) := fun s => s _ _ hrs
  refine ⟨_, rfl, mA, rfl, ⟨_, SqL.of (hmS (s3.trans s4))⟩, ?_⟩
  refine for_list (K := K) (a := mA) (xs := rs.map V.ref) (fun i σ H5 => ∃ (st : Yd.St) (v7 : Option V) (c6 : Int), c6 = (st.came : Int) /\ σ = [some (.ref tA), some (.bl b), some (.int n), some (.ref mA), some (.ref kA), some (.ref lA), some (.int c6), v7] /\
    Same H H5 /\ gsteps tr b n (Yd.init n) (gs.take i) = some st /\ Yds H H5 kA ls st.tr /\ H5 lA = some (.lst (st.left.map V.int)) /\ st.left.length <= i /\ st.came <= tr.length /\ ∀ (j : Nat) c, st.tr[j]? = some c -> c.length <= st.came)
   ⟨Yd.init n, none, _, rfl, rfl, s3.trans s4, rfl, hy.same s4, upd_same, Nat.le_refl _, Nat.zero_le _, fun j c e => by
    have e' : (List.replicate n ([] : List Int))[j]? = some c := e
    rw [List.getElem?_replicate] at e'
    split at e'
    ·cases e'; exact Nat.le_refl _
    ·cases e'⟩ (fun i σ H5 _ h => ?_) ?_ ?_
  ·obtain ⟨_, _, _, _, _, sm, _⟩ := h
   exact SqL.of (hmS sm)
  ·rintro i x σ H5 hx ⟨st, v7, _, rfl, rfl, sm, hst, hys, hL, hll, hcl, hsz⟩
   obtain ⟨r, er, rfl⟩ := getMap hx
   obtain ⟨g, eg, hg⟩ := Paired.get hprs er
   obtain ⟨gx, gt⟩ := g
   have hi : i < gs.length := (List.getElem?_eq_some_iff.mp eg).1
   have hg5 : H5 r = some (.tup [.str gx, .int gt]) := sm _ _ hg
   have htl : st.tr.length = n := by rw [gsteps_len hst]; show (List.replicate n ([] : List Int)).length = n; rw [List.length_replicate]
   have bad : ∀ {H6 : Hp}, Same H5 H6 -> gstep tr b n st (gx, gt) = none -> Q .non H6 := fun s6 hs => kN (gsteps_stuck hst eg hs) _ (sm.trans s6)
   refine ⟨_, rfl, _, _, _, _, _, rfl, rfl, ty_inj, .tup hg5, kit_same, _, rfl, iteF ?_⟩
   refine ⟨_, rfl, _, 2, rfl, .inr ⟨_, SqT.of hg5, rfl⟩, .inl ⟨rfl, _, rfl, iteNS rfl ?_⟩⟩
   refine ⟨_, rfl, .inr ⟨r, _, 0, _, rfl, rfl, SqT.of hg5, rfl, (by show 2 <= sizeLine; decide), fun wA hwA => ?_⟩⟩
   have s6 := Same.upd (o := .lst [.str (Str.ofString "in"), .str (Str.ofString "out")]) hwA
   refine ⟨wA, _, rfl, .inl (SqL.of upd_same), rfl, rfl, _, rfl, ?_⟩
   show if (if true = true then !inV (.str gx) [.str (Str.ofString "in"), .str (Str.ofString "out")] else _) = true then _ else _
   rw [if_pos rfl, in_words]
   by_cases hword : gx = Str.ofString "in" \/ gx = Str.ofString "out"
   rotate_left
   ·have h1 : ¬ gx = Str.ofString "in" := fun z => hword (.inl z)
    have h2 : ¬ gx = Str.ofString "out" := fun z => hword (.inr z)
    rw [decide_eq_false h1, decide_eq_false h2]
    refine iteT (bad s6 ?_)
    unfold gstep gmv
    dsimp only
    rw [if_neg h1, if_neg h2]
    split <;> rfl
   rw [show (decide (gx = Str.ofString "in") || decide (gx = Str.ofString "out")) = true from by rcases hword with z | z <;> simp [z]]
   refine iteF ?_
   have hg6 := s6 _ _ hg5
   refine ⟨_, rfl, .inr ⟨r, _, 1, _, rfl, rfl, SqT.of hg6, rfl, _, _, _, _, _, rfl, rfl, ty_inj, .int gt, kit_int_bool, _, rfl, iteF ?_⟩⟩
   refine ⟨_, rfl, .inr ⟨r, _, 1, _, rfl, rfl, SqT.of hg6, rfl, _, _, _, _, _, rfl, rfl, ty_inj, .int gt, kit_same, _, rfl, iteF ?_⟩⟩
   refine ⟨_, rfl, .inr ⟨r, _, 1, _, rfl, rfl, SqT.of hg6, rfl, 0, gt, rfl, rfl, _, rfl, ?_⟩⟩
   by_cases hlo : 0 <= gt
   rotate_left
   ·rw [decide_eq_false hlo]
    refine iteF ⟨_, rfl, iteT (bad s6 ?_)⟩
    unfold gstep gmv
    dsimp only
    rw [if_neg (fun z => hlo z.1)]
    rfl
   rw [decide_eq_true hlo]
   refine iteT ⟨_, rfl, gt, (n : Int), rfl, rfl, _, rfl, ?_⟩
   by_cases hhi : gt < (n : Int)
   rotate_left
   ·rw [decide_eq_false hhi]
    refine iteT (bad s6 ?_)
    unfold gstep gmv
    dsimp only
    rw [if_neg (fun z => hhi z.2)]
    rfl
   rw [decide_eq_true hhi]
   refine iteF ?_
   obtain ⟨t, rfl⟩ : ∃ t : Nat, gt = (t : Int) := ⟨gt.toNat, by omega⟩
   have ht : t < n := by omega
   have hgm : gmv n (gx, (t : Int)) = if gx = Str.ofString "in" then some (true, t) else if gx = Str.ofString "out" then some (false, t) else none := by
    unfold gmv
    dsimp only
    rw [if_pos ⟨hlo, hhi⟩, Int.toNat_natCast]
   obtain ⟨l, el⟩ : ∃ l, ls[t]? = some l := ⟨_, List.getElem?_eq_getElem (by rw [hys.len, htl]; exact ht)⟩
   obtain ⟨c, ec, hl, hl0, hlk⟩ := hys.each _ _ el
   have eD : st.tr.getD t [] = c := by rw [List.getD_eq_getElem?_getD, ec]; rfl
   have elV : (ls.map V.ref)[t]? = some (.ref l) := by rw [List.getElem?_map, el]; rfl
   have y6 := hys.same s6
   have hl6 := s6 _ _ hl
   have hT6 := (sm.trans s6).seq hT
   have llA := ell _ _ el
   have hcsz := hsz _ _ ec
   refine ⟨_, rfl, .inr ⟨r, _, 0, _, rfl, rfl, SqT.of hg6, rfl, .inl ⟨rfl, _, rfl, ?_⟩⟩⟩
   rw [decS]
   by_cases hin : gx = Str.ofString "in"
   ·refine iteDT hin ?_
    refine ⟨_, rfl, _, rfl, _, _, rfl, .inl ⟨_, hT6, rfl⟩, _, _, rfl, rfl, _, rfl, ?_⟩
    refine iteDB (fun hlt => ?_) (fun hlt => ?_)
    ·rw [List.length_map] at hlt
     obtain ⟨x, ex⟩ : ∃ x, tr[st.came]? = some x := ⟨_, List.getElem?_eq_getElem (by omega)⟩
     refine ⟨_, rfl, _, rfl, .inr ⟨r, _, 1, _, rfl, rfl, SqT.of hg6, rfl, .inl ⟨kA, _, _, .ref l, rfl, rfl, SqL.of y6.lst, atI_nat elV, .inl ⟨rfl, _, SqL.of hl6⟩, ?_⟩⟩⟩
     refine ⟨_, rfl, _, rfl, .inl ⟨tA, _, _, .int x, rfl, rfl, hT6, atI_nat (by rw [List.getElem?_map, ex]; rfl), l, _, _, rfl, rfl, hl6, ?_, ?_⟩⟩
     ·rw [List.length_map]
      exact small1000 (by omega)
     refine ⟨_, rfl, .inl ⟨_, 1, rfl, rfl, ?_⟩⟩
     have hs : Yd.step tr b st (true, t) = some ⟨st.tr.set t (c ++ [x]), st.left, st.came + 1⟩ := by
      unfold Yd.step
      rw [if_pos rfl, ex]
      show some (Yd.St.mk (st.tr.set t (st.tr.getD t [] ++ [x])) st.left (st.came + 1)) = _
      rw [eD]
     have e1 : (st.came : Int) + 1 = ((st.came + 1 : Nat) : Int) := by omega
     have y7 := y6.set el (c ++ [x])
     rw [List.map_append] at y7
     exact ⟨⟨st.tr.set t (c ++ [x]), st.left, st.came + 1⟩, _, _, e1, rfl, Same.updN (sm.trans s6) hl0, gsteps_next hst eg (by unfold gstep; rw [hgm, if_pos hin]; exact hs), y7, by rw [upd_ne llA.symm]; exact s6 _ _ hL, Nat.le_succ_of_le hll, by show st.came + 1 <= _; omega, Yd.step_size hs hsz⟩
    ·rw [List.length_map] at hlt
     refine ⟨_, rfl, .inr ⟨r, _, 0, _, rfl, rfl, SqT.of hg6, rfl, .inl ⟨rfl, _, rfl, ?_⟩⟩⟩
     rw [decS]
     refine iteDF (by rw [hin]; decide +kernel) ?_
     refine iteF (bad s6 ?_)
     unfold gstep
     rw [hgm, if_pos hin]
     show Yd.step tr b st (true, t) = none
     unfold Yd.step
     rw [if_pos rfl, List.getElem?_eq_none_iff.mpr (by omega)]
   ·have hout : gx = Str.ofString "out" := hword.resolve_left hin
    refine iteDF hin (iteF ?_)
    refine ⟨_, rfl, .inr ⟨r, _, 0, _, rfl, rfl, SqT.of hg6, rfl, .inl ⟨rfl, _, rfl, ?_⟩⟩⟩
    rw [decS]
    refine iteDT hout ?_
    refine ⟨_, rfl, _, rfl, .inr ⟨r, _, 1, _, rfl, rfl, SqT.of hg6, rfl, .inl ⟨kA, _, _, .ref l, rfl, rfl, SqL.of y6.lst, atI_nat elV, ?_⟩⟩⟩
    refine ⟨Nat.zero_le _, fun eL heL => .inr ⟨dI c, dI [], .ints (SqL.of (upd_get hl6 heL)), .ints (SqL.of upd_same), ok_ints _ _, ok_ints _ _, _, rfl, ?_⟩⟩
    have sE := s6.trans (Same.upd (o := .lst []) heL)
    have yE := hys.same sE
    have hlE := sE _ _ hl
    have hgE := sE _ _ hg5
    have gst : gstep tr b n st (gx, (t : Int)) = Yd.step tr b st (false, t) := by
     unfold gstep
     rw [hgm, if_neg hin, if_pos hout]
     rfl
    refine iteNB (fun hc => ?_) (fun hc => ?_)
    ·have hne : c ≠ [] := fun z => hc (by rw [z])
     have hpos : 0 < c.length := List.length_pos_iff.mpr hne
     refine ⟨_, rfl, .inl ⟨rfl, _, SqL.of (sE _ _ hL)⟩, ?_⟩
     refine ⟨_, rfl, b, rfl, ?_⟩
     cases b with
     | true =>
      obtain ⟨x, ex⟩ : ∃ x, c[c.length - 1]? = some x := ⟨_, List.getElem?_eq_getElem (by omega)⟩
      refine iteT ⟨_, rfl, _, rfl, .inr ⟨r, _, 1, _, rfl, rfl, SqT.of hgE, rfl, .inl ⟨kA, _, _, .ref l, rfl, rfl, SqL.of yE.lst, atI_nat elV, .inl ⟨rfl, _, SqL.of hlE⟩, .inl ⟨l, _, .int x, rfl, rfl, hlE, ?_, ?_⟩⟩⟩⟩
      ·rw [List.length_map, List.getElem?_map, ex]; rfl
      have hL6 : (upd (upd (upd H5 wA (.lst [.str (Str.ofString "in"), .str (Str.ofString "out")])) eL (.lst [])) l (.lst ((c.map V.int).dropLast))) lA = some (.lst (st.left.map V.int)) := by rw [upd_ne llA.symm]; exact sE _ _ hL
      refine ⟨lA, _, _, rfl, rfl, hL6, by rw [List.length_map]; exact small1000 (by omega), ?_⟩
      have hs : Yd.step tr true st (false, t) = some ⟨st.tr.set t c.dropLast, st.left ++ [x], st.came⟩ := by
       unfold Yd.step
       rw [if_neg Bool.false_ne_true, if_pos rfl]
       simp only [eD]
       rw [List.getLast?_eq_getElem?, ex]
      have y7 := yE.set el c.dropLast
      rw [List.map_dropLast] at y7
      refine ⟨⟨st.tr.set t c.dropLast, st.left ++ [x], st.came⟩, _, _, rfl, rfl, Same.updN (Same.updN (sm.trans sE) hl0) hlH, gsteps_next hst eg (gst.trans hs), y7.other ekl ell, ?_, ?_, hcl, Yd.step_size hs hsz⟩
      ·rw [upd_same, List.map_append]; rfl
      ·rw [List.length_append]; exact Nat.succ_le_succ hll
     | false =>
      obtain ⟨x, c', rfl⟩ : ∃ x c', c = x :: c' := by
       cases c with
       | nil => exact absurd rfl hne
       | cons x c' => exact ⟨x, c', rfl⟩
      refine iteF ⟨_, rfl, _, rfl, .inr ⟨r, _, 1, _, rfl, rfl, SqT.of hgE, rfl, .inl ⟨kA, _, _, .ref l, rfl, rfl, SqL.of yE.lst, atI_nat elV, .inl ⟨rfl, _, SqL.of hlE⟩, .inr ⟨l, _, 0, 0, .int x, rfl, rfl, hlE, by decide, by decide, ?_, rfl, ?_⟩⟩⟩⟩
      ·unfold seqIndex?
       simp
      have hL6 : (upd (upd (upd H5 wA (.lst [.str (Str.ofString "in"), .str (Str.ofString "out")])) eL (.lst [])) l (.lst (((x :: c').map V.int).eraseIdx 0))) lA = some (.lst (st.left.map V.int)) := by rw [upd_ne llA.symm]; exact sE _ _ hL
      refine ⟨lA, _, _, rfl, rfl, hL6, by rw [List.length_map]; exact small1000 (by omega), ?_⟩
      have hs : Yd.step tr false st (false, t) = some ⟨st.tr.set t c', st.left ++ [x], st.came⟩ := by
       unfold Yd.step
       rw [if_neg Bool.false_ne_true, if_neg Bool.false_ne_true]
       simp only [eD]
      refine ⟨⟨st.tr.set t c', st.left ++ [x], st.came⟩, _, _, rfl, rfl, Same.updN (Same.updN (sm.trans sE) hl0) hlH, gsteps_next hst eg (gst.trans hs), (yE.set el c').other ekl ell, ?_, ?_, hcl, Yd.step_size hs hsz⟩
      ·rw [upd_same, List.map_append]; rfl
      ·rw [List.length_append]; exact Nat.succ_le_succ hll
    ·have hce : c = [] := dI_inj hc
     refine bad sE ?_
     rw [gst]
     unfold Yd.step
     rw [if_neg Bool.false_ne_true]
     simp only [eD, hce]
     split <;> rfl
  ·rintro σ H5 ⟨st, v7, _, rfl, rfl, sm, hst, hys, hL, hll, hcl, hsz⟩
   rw [List.length_map, hrl, List.take_length] at hst
   exact ⟨_, rfl, kS st hst lA H5 sm hlH hL⟩
def sp_rising (K : PySem.W.Frag) : Sp := fun vs H Q _ => ∃ (pA : Addr) (ps : List Int) (m : Int), vs = [.ref pA, .int m] /\ SqL K H pA (ps.map V.int) /\ Q (.bl (rises m (-1) ps)) H
theorem sc__law_rising : FnScope ["_law_places", "_law_many", "_law_last", "_law_place"] ["_law_places", "_law_many"] (defScope s__law_rising) := ⟨rfl, rfl, rfl, by decide +kernel, rfl, by decide +kernel, by decide +kernel⟩
theorem C__law_rising (T : Tx K mg Z) : Ctr P w K mg base CX0 1 "_law_rising" ["_law_places", "_law_many"] (sp_rising K) := by
 refine ctr_of T._law_rising fun f fd F => F.ok sc__law_rising (fun vs H Q E h => ?_) (fun cdv A outer s H vs Q E hr h => ?_)
 ·obtain ⟨pA, ps, m, rfl, _⟩ := h
  rfl
 ·obtain ⟨pA, ps, m, rfl, hp, kQ⟩ := h
  refine' ⟨_, ?hterm, ?_⟩
  case hterm =>
   refine' pss_cons ?q1 ?q2
   case q1 =>
    refine' ps_set (i := 2) sc__law_rising.nd rfl (Or.inl rfl) ?q3
    case q3 => exact pe_un un_neg pe_int
   case' q2 => refine' pss_cons ?q4 ?q5
   case q4 =>
    refine' ps_for HP rfl ?q6 ?q7 ?q8
    case q6 => exact pi_listK (K := K) (by rfl) (pv 0)
    case q7 => exact pg_name (i := 3) sc__law_rising.nd (by rfl) (by exact Or.inl rfl)
    case q8 =>
     refine' pss_cons ?q9 ?q10
     case q9 =>
      refine' ps_if ?q11 ?q12 pss_nil
      case q11 =>
       refine' PW.pt ?q13
       case' q13 => refine' pw_or ?q14 ?q15
       case q14 =>
        refine' pt_truK (K := K) (by rfl) ?q16 (fun _ => rfl)
        case' q16 => refine' pe_callB (callK_isinstance (K := K) (by rfl)) (by rfl) T.n_isinstance b_isinstance ?q17
        case' q17 => refine' pa_cons (pv 3) ?q18
        case' q18 => refine' pa_cons ?q19 pa_nil
        case q19 => exact pe_tyN rfl T.n_bool b_bool
       case' q15 => refine' pw_or ?q20 ?q21
       case q20 =>
        refine' pt_not ?q22
        case' q22 => refine' pt_truK (K := K) (by rfl) ?q23 (fun _ => rfl)
        case' q23 => refine' pe_callB (callK_isinstance (K := K) (by rfl)) (by rfl) T.n_isinstance b_isinstance ?q24
        case' q24 => refine' pa_cons (pv 3) ?q25
        case' q25 => refine' pa_cons ?q26 pa_nil
        case q26 => exact pe_tyN rfl T.n_int b_int
       case' q21 => refine' pw_or1 ?q27
       case' q27 => refine' pt_not ?q28
       case q28 => exact pt_chain op_lt op_lt (pv 2) (pv 3) (pv 1)
      case' q12 => refine' pss_one ?q29
      case q29 => exact ps_ret pe_bl
     case' q10 => refine' pss_one ?q30
     case q30 => exact ps_set (i := 2) sc__law_rising.nd rfl (Or.inl rfl) (pv 3)
   case' q5 => refine' pss_one ?q31
   case q31 => exact ps_ret pe_bl
  refine ⟨1, rfl, ?_⟩
  refine ⟨_, rfl, pA, rfl, ⟨_, hp⟩, ?_⟩
  refine for_list (K := K) (a := pA) (xs := ps.map V.int) (fun i σ H5 => H5 = H /\ rises m (-1) (ps.take i) = true /\ ∃ v3 : Option V, σ = [some (.ref pA), some (.int m), some (.int ((ps.take i).getLast?.getD (-1))), v3])
   ⟨rfl, rfl, _, rfl⟩ (fun i σ H5 _ h => by rw [h.1]; exact hp) ?_ ?_
  ·rintro i x σ H5 hx ⟨rfl, hri, v3, rfl⟩
   obtain ⟨p, ep, rfl⟩ := getMap hx
   have hsp := rises_take hri ep
   refine ⟨_, rfl, _, _, _, _, _, rfl, rfl, ty_inj, .int p, kit_int_bool, _, rfl, iteF ?_⟩
   refine ⟨_, rfl, _, _, _, _, _, rfl, rfl, ty_inj, .int p, kit_same, _, rfl, iteF ?_⟩
   refine ⟨_, rfl, _, rfl, _, _, rfl, rfl, _, rfl, ?_⟩
   by_cases h1 : (ps.take i).getLast?.getD (-1) < p
   rotate_left
   ·rw [decide_eq_false h1]
    refine iteF ⟨_, rfl, iteT ?_⟩
    rw [decide_eq_false h1] at hsp
    rw [hsp] at kQ
    exact kQ
   rw [decide_eq_true h1]
   refine iteT ⟨_, rfl, _, _, rfl, rfl, _, rfl, ?_⟩
   by_cases h2 : p < m
   rotate_left
   ·rw [decide_eq_false h2]
    refine iteT ?_
    rw [decide_eq_false h2, Bool.and_false, Bool.false_and] at hsp
    rw [hsp] at kQ
    exact kQ
   rw [decide_eq_true h2]
   refine iteF ⟨_, rfl, rfl, ?_, some (.int p), ?_⟩
   ·rw [take_snoc ep]
    have := rises_take (ps := ps.take i ++ [p]) (i := i) (p := p) (m := m) (last := -1) (by rw [List.take_append_of_le_length (by rw [List.length_take]; have := (List.getElem?_eq_some_iff.mp ep).1; omega), List.take_take, Nat.min_self]; exact hri)
     (by rw [List.getElem?_append_right (by rw [List.length_take]; omega), List.length_take]; have := (List.getElem?_eq_some_iff.mp ep).1; rw [Nat.min_eq_left (by omega), Nat.sub_self]; rfl)
    rw [this, List.take_append_of_le_length (by rw [List.length_take]; have := (List.getElem?_eq_some_iff.mp ep).1; omega), List.take_take, Nat.min_self, decide_eq_true h1, decide_eq_true h2]
    rw [List.drop_of_length_le (by rw [List.length_append, List.length_take]; simp only [List.length_cons, List.length_nil]; omega)]
    rfl
   ·rw [take_snoc ep, List.getLast?_append]
    rfl
  ·rintro σ H5 ⟨rfl, hri, v3, rfl⟩
   rw [List.length_map, List.take_length] at hri
   rw [hri] at kQ
   exact kQ
def sp_made (K : PySem.W.Frag) : Sp := fun vs H Q _ => ∃ (a : Addr) (ns : List Int) (b : Bool) (n : Nat), vs = [.ref a, .bl b, .int n] /\ SqL K H a (ns.map V.int) /\ ns.length < 64 /\ 1 <= n /\ n <= 100 /\
 ∀ (p : Addr) (T : List Int) (ms : List Yd.Mv) (H' : Hp), Same H H' -> H p = none -> H' p = some (.lst (T.map V.int)) -> T.Perm (Yd.R ns.length) -> Yd.Brings T b n ms -> Q (.ref p) H'
structure MdAt (H H2 : Hp) (kA lA : Addr) (ls : List Addr) (len n : Nat) (b : Bool) (i : Nat) (st : Yd.St) (ms : List Yd.Mv) : Prop where
 same : Same H H2
 go : Yd.steps (Yd.R len) b (Yd.init n) ms = some st
 val : ∀ m ∈ ms, m.2 < n
 came : st.came = i
 yds : Yds H H2 kA ls st.tr
 left : H2 lA = some (.lst (st.left.map V.int))
theorem MdAt.len {H H2 : Hp} {kA lA : Addr} {ls : List Addr} {len n : Nat} {b : Bool} {i : Nat} {st : Yd.St} {ms : List Yd.Mv} (m : MdAt H H2 kA lA ls len n b i st ms) : st.tr.length = n /\ ls.length = n := by
 have h := Yd.steps_len m.go
 have e : (Yd.init n).tr.length = n := by show (List.replicate n ([] : List Int)).length = n; rw [List.length_replicate]
 rw [e] at h
 exact ⟨h, by rw [m.yds.len, h]⟩
theorem MdAt.count {H H2 : Hp} {kA lA : Addr} {ls : List Addr} {len n : Nat} {b : Bool} {i : Nat} {st : Yd.St} {ms : List Yd.Mv} (m : MdAt H H2 kA lA ls len n b i st ms) : st.left.length + (st.tr.map List.length).sum = i := by
 rw [<- m.came]
 exact Yd.steps_count m.go (fun x hx => by show x.2 < (List.replicate n ([] : List Int)).length; rw [List.length_replicate]; exact m.val x hx) (Yd.init_count n)
def MdB (H5 : Hp) (a kA : Addr) (b : Bool) (n len : Nat) (tr : List (List Int)) (v5 v6 : Option V) (j : Nat) (σ : St) (H6 : Hp) : Prop :=
 ∃ (qA : Addr) (st' : Yd.St) (ms' : List Yd.Mv) (v7 : Option V), σ = [some (.ref a), some (.bl b), some (.int n), some (.ref kA), some (.ref qA), v5, v6, v7, none, none] /\ Same H5 H6 /\
  Yd.steps (Yd.R len) b (Yd.init n) ms' = some st' /\ (∀ m ∈ ms', m.2 < n) /\ st'.came = len /\ st'.tr = List.replicate j [] ++ tr.drop j /\ H6 qA = some (.lst (st'.left.map V.int))
theorem sc__law_made : FnScope ["_law_script", "_law_blind", "_law_many", "_law_tracks", "_law_left", "_law_n", "_law_turn", "_law_track", "_law_train", "_law_at"] ["_law_script", "_law_blind", "_law_many"] (defScope s__law_made) := ⟨rfl, rfl, rfl, by decide +kernel, rfl, by decide +kernel, by decide +kernel⟩
theorem C__law_made (T : Tx K mg Z) : Ctr P w K mg base CX0 1 "_law_made" ["_law_script", "_law_blind", "_law_many"] (sp_made K) := by
 refine ctr_of T._law_made fun f fd F => F.ok sc__law_made (fun vs H Q E h => ?_) (fun cdv A outer s H vs Q E hr h => ?_)
 ·obtain ⟨a, ns, b, n, rfl, _⟩ := h
  rfl
 ·obtain ⟨a, ns, b, n, rfl, hS, hz, hn1, hn2, kQ⟩ := h
  refine' ⟨_, ?hterm, ?_⟩
  case hterm =>
   refine' pss_cons ?q1 ?q2
   case q1 =>
    refine' ps_par (i := 3) (j := 4) rfl sc__law_made.nd rfl rfl (by decide) rfl rfl ?q3 (by kernel_rfl) (hs := by kernel_rfl)
    case' q3 => refine' pa_cons ?q4 ?q5
    case q4 =>
     refine' pe_comp rfl (csc_of (sc := defScope s__law_made) (N := ["_law_script", "_law_blind", "_law_many", "_law_tracks", "_law_left", "_law_n", "_law_turn", "_law_track", "_law_train", "_law_at"]) (cap := [none]) (N' := ["_law_track"]) rfl rfl ⟨ rfl, by decide +kernel, by decide +kernel, by decide +kernel, rfl, by decide +kernel ⟩) ?q6 (fun _ _ _ _ => ?q7) (fun _ _ _ _ => pif_nil) (fun _ _ _ _ => ?q8)
     case q6 =>
      refine' pi_range1 rfl T.n_range ?q9
      case q9 => exact pa_cons (pv 2) pa_nil
     case q7 => exact pg_name (i := 0) (show List.Nodup (["_law_track"] : List Str) from by decide +kernel) (by rfl) (by exact Or.inl rfl)
     case q8 => exact pe_lst pa_nil
    case' q5 => refine' pa_cons ?q10 pa_nil
    case q10 => exact pe_lst pa_nil
   case' q2 => refine' pss_cons ?q11 ?q12
   case q11 =>
    refine' ps_for HP rfl ?q13 ?q14 ?q15
    case q13 =>
     refine' pi_range1 rfl T.n_range ?q16
     case' q16 => refine' pa_cons ?q17 pa_nil
     case' q17 => refine' pe_callB (callK_len (K := K) (by rfl)) (by rfl) T.n_len b_len ?q18
     case q18 => exact pa_cons (pv 0) pa_nil
    case q14 => exact pg_name (i := 5) sc__law_made.nd (by rfl) (by exact Or.inl rfl)
    case' q15 => refine' pss_cons ?q19 ?q20
    case q19 =>
     refine' ps_expr ?q21
     case' q21 => refine' pe_bmK (K := K) (by rfl) PySem.F.plainAttrs_list PySem.F.slot_list_append PySem.F.type_list_append mt_append ?q22 ?q23
     case q22 =>
      refine' pe_ix (ix_K (K := K) (by rfl)) (pv 3) ?q24 (fun _ _ => rfl)
      case' q24 => refine' pe_op op_mod ?q25 (pv 2)
      case q25 => exact pe_ix (ix_K (K := K) (by rfl)) (pv 0) (pv 5) (fun _ _ => rfl)
     case q23 => exact pa_cons (pv 5) pa_nil
    case' q20 => refine' pss_one ?q26
    case' q26 => refine' ps_for HP rfl ?q27 ?q28 ?q29
    case q27 =>
     refine' pi_range1 rfl T.n_range ?q30
     case' q30 => refine' pa_cons ?q31 pa_nil
     case' q31 => refine' pe_op op_mod ?q32 pe_int
     case' q32 => refine' pe_op op_fdiv ?q33 (pv 2)
     case q33 => exact pe_ix (ix_K (K := K) (by rfl)) (pv 0) (pv 5) (fun _ _ => rfl)
    case q28 => exact pg_name (i := 6) sc__law_made.nd (by rfl) (by exact Or.inl rfl)
    case' q29 => refine' pss_cons ?q34 ?q35
    case q34 =>
     refine' ps_set (i := 7) sc__law_made.nd rfl (Or.inl rfl) ?q36
     case' q36 => refine' pe_op op_mod ?q37 (pv 2)
     case' q37 => refine' pe_op (op_addK (K := K) (by rfl)) ?q38 (pv 6)
     case' q38 => refine' pe_op op_fdiv ?q39 pe_int
     case' q39 => refine' pe_op op_fdiv ?q40 (pv 2)
     case q40 => exact pe_ix (ix_K (K := K) (by rfl)) (pv 0) (pv 5) (fun _ _ => rfl)
    case' q35 => refine' pss_one ?q41
    case' q41 => refine' ps_if ?q42 ?q43 pss_nil
    case q42 =>
     refine' pt_cmpR (op_neK (K := K) (by rfl) (by exact hr.units)) ?q44 ?q45 (nomark _)
     case q44 => exact pe_ix (ix_K (K := K) (by rfl)) (pv 3) (pv 7) (fun _ _ => rfl)
     case q45 => exact pe_lst pa_nil
    case' q43 => refine' pss_one ?q46
    case' q46 => refine' ps_expr ?q47
    case' q47 => refine' pe_bmK (K := K) (by rfl) PySem.F.plainAttrs_list PySem.F.slot_list_append PySem.F.type_list_append mt_append (pv 4) ?q48
    case' q48 => refine' pa_cons ?q49 pa_nil
    case' q49 => refine' pe_ifExp ?q50 ?q51 ?q52
    case q50 => exact pt_truK (K := K) (by rfl) (pv 1) (fun _ => rfl)
    case q51 =>
     refine' pe_bmK0 (K := K) (by rfl) PySem.F.plainAttrs_list PySem.F.slot_list_pop PySem.F.type_list_pop mt_popU ?q53
     case q53 => exact pe_ix (ix_K (K := K) (by rfl)) (pv 3) (pv 7) (fun _ _ => rfl)
    case' q52 => refine' pe_bmK (K := K) (by rfl) PySem.F.plainAttrs_list PySem.F.slot_list_pop PySem.F.type_list_pop mt_popU ?q54 ?q55
    case q54 => exact pe_ix (ix_K (K := K) (by rfl)) (pv 3) (pv 7) (fun _ _ => rfl)
    case q55 => exact pa_cons pe_int pa_nil
   case' q12 => refine' pss_cons ?q56 ?q57
   case q56 =>
    refine' ps_for HP rfl ?q58 ?q59 ?q60
    case q58 => exact pi_listK (K := K) (by rfl) (pv 3)
    case q59 => exact pg_name (i := 7) sc__law_made.nd (by rfl) (by exact Or.inl rfl)
    case' q60 => refine' pss_one ?q61
    case' q61 => refine' ps_set (i := 4) sc__law_made.nd rfl (Or.inl rfl) ?q62
    case' q62 => refine' pe_op (op_addK (K := K) (by rfl)) (pv 4) ?q63
    case' q63 => refine' pe_ifExp ?q64 ?q65 (pv 7)
    case q64 => exact pt_truK (K := K) (by rfl) (pv 1) (fun _ => rfl)
    case' q65 => refine' pe_rev (K := K) (by rfl) (pv 7) po_none ?q66
    case' q66 => refine' po_some ?q67
    case q67 => exact pe_un un_neg pe_int
   case' q57 => refine' pss_cons ?q68 ?q69
   case q68 =>
    refine' ps_setComp (i := 8) sc__law_made.nd rfl rfl rfl (csc_of (sc := defScope s__law_made) (N := ["_law_script", "_law_blind", "_law_many", "_law_tracks", "_law_left", "_law_n", "_law_turn", "_law_track", "_law_train", "_law_at"]) (cap := [none]) (N' := ["_law_wagon"]) rfl rfl ⟨ rfl, by decide +kernel, by decide +kernel, by decide +kernel, rfl, by decide +kernel ⟩) ?q70 (fun _ _ _ _ => ?q71) (fun _ _ _ _ => pif_nil) (fun _ _ _ _ => pe_int)
    case q70 => exact pi_listK (K := K) (by rfl) (pv 4)
    case q71 => exact pg_name (i := 0) (show List.Nodup (["_law_wagon"] : List Str) from by decide +kernel) (by rfl) (by exact Or.inl rfl)
   case' q69 => refine' pss_cons ?q72 ?q73
   case q72 =>
    refine' ps_for HP rfl ?q74 ?q75 ?q76
    case q74 =>
     refine' pi_range1 rfl T.n_range ?q77
     case' q77 => refine' pa_cons ?q78 pa_nil
     case' q78 => refine' pe_callB (callK_len (K := K) (by rfl)) (by rfl) T.n_len b_len ?q79
     case q79 => exact pa_cons (pv 4) pa_nil
    case q75 => exact pg_name (i := 9) sc__law_made.nd (by rfl) (by exact Or.inl rfl)
    case' q76 => refine' pss_one ?q80
    case' q80 => refine' ps_asg (pv 9) ?q81
    case' q81 => refine' pg_sub (pv 8) ?q82 set_list
    case q82 => exact pe_ix (ix_K (K := K) (by rfl)) (pv 4) (pv 9) (fun _ _ => rfl)
   case' q73 => refine' pss_one ?q83
   case q83 => exact ps_ret (pv 8)
  refine ⟨_, rfl, (n : Int), rfl, by omega, by omega, fun kA hkA => ?_⟩
  rw [Int.toNat_natCast]
  refine turns_range (lo := 0) (n := n) (fun i σ H3 => (∃ v, σ = [v]) /\ Same H H3 /\ ∃ ls : List Addr, Yds H H3 kA ls (List.replicate i []))
   ⟨⟨_, rfl⟩, Same.upd hkA, [], upd_same, rfl, fun j l e => by simp at e, fun i j l e => by simp at e⟩ ?_ ?_
  ·rintro i σ H3 hi ⟨⟨v, rfl⟩, s3, ls, hy⟩
   refine ⟨Nat.zero_le _, fun l hl => ⟨_, (hy.same (Same.upd hl)).lst, ?_, ⟨_, rfl⟩, ?_, ls ++ [l], ?_⟩⟩
   ·rw [List.length_map, hy.len, List.length_replicate]
    exact small1000 (by omega)
   ·exact Same.updN (s3.trans (Same.upd hl)) hkA
   ·have := hy.push s3 hl
    rw [List.replicate_succ']
    exact this
  rintro σ H3 ⟨_, s3, ls, hy⟩
  refine ⟨Nat.zero_le _, fun lA hlA => ⟨_, _, rfl, ?_⟩⟩
  have s4 : Same H3 (upd H3 lA (.lst [])) := Same.upd hlA
  have hlH : H lA = none := s3.free hlA
  have ekl : kA ≠ lA := ne_of_none hy.lst hlA
  have ell : ∀ (j : Nat) l, ls[j]? = some l -> l ≠ lA := fun j l e => by
   obtain ⟨c, _, a, _⟩ := hy.each j l e
   exact ne_of_none a hlA
  have hS3 := (s3.trans s4).seq hS
  refine ⟨_, rfl, _, _, rfl, .inl ⟨_, hS3, rfl⟩, _, rfl, ?_, ?_, ?_⟩
  ·rw [List.length_map]; omega
  ·rw [List.length_map]; omega
  rw [Int.toNat_natCast, List.length_map]
  have leave : ∀ {H5 H6 : Hp} {i : Nat} {st : Yd.St} {ms : List Yd.Mv} {t : Nat} {l : Addr} {x : Int} {c c' : List Int}, MdAt H H5 kA lA ls ns.length n b i st ms -> Same H5 H6 -> ls[t]? = some l -> st.tr[t]? = some c -> (if b = true then c = c' ++ [x] else c = x :: c') ->
    MdAt H (upd (upd H6 l (.lst (c'.map V.int))) lA (.lst (st.left.map V.int ++ [.int x]))) kA lA ls ns.length n b i ⟨st.tr.set t c', st.left ++ [x], st.came⟩ (ms ++ [(false, t)]) := fun {H5 H6 i st ms t l x c c'} M s6 el ec hc => by
   have hl0 : H l = none := by
    obtain ⟨_, _, _, z, _⟩ := M.yds.each _ _ el
    exact z
   have hD : st.tr.getD t [] = c := by rw [List.getD_eq_getElem?_getD, ec]; rfl
   have hs : Yd.step (Yd.R ns.length) b st (false, t) = some ⟨st.tr.set t c', st.left ++ [x], st.came⟩ := by
    unfold Yd.step
    rw [if_neg Bool.false_ne_true]
    cases b with
    | true =>
     have hc' : c = c' ++ [x] := by simpa using hc
     rw [if_pos rfl]
     simp only [hD, hc']
     rw [List.getLast?_append]
     simp
    | false =>
     have hc' : c = x :: c' := by simpa using hc
     rw [if_neg Bool.false_ne_true]
     simp only [hD, hc']
   have tl := (List.getElem?_eq_some_iff.mp el).1
   refine ⟨Same.updN (Same.updN (M.same.trans s6) hl0) hlH, Yd.steps_trans M.go (by show (Yd.step _ _ _ _).bind _ = _; rw [hs]; rfl), fun m hm => ?_, M.came, ((M.yds.same s6).set el c').other ekl ell, ?_⟩
   ·rcases List.mem_append.mp hm with z | z
    ·exact M.val m z
    ·rw [show m = (false, t) by simpa using z]
     show t < n
     have := M.len.2
     omega
   ·rw [upd_same, List.map_append]
    rfl
  refine for_range (lo := 0) (n := ns.length) (fun i σ H5 => ∃ (st : Yd.St) (ms : List Yd.Mv) (v5 v6 v7 : Option V), σ = [some (.ref a), some (.bl b), some (.int n), some (.ref kA), some (.ref lA), v5, v6, v7, none, none] /\ MdAt H H5 kA lA ls ns.length n b i st ms)
   ⟨Yd.init n, [], none, none, none, rfl, ⟨s3.trans s4, rfl, fun m hm => by (cases hm), rfl, hy.same s4, upd_same⟩⟩ ?_ ?_
  ·rintro i σ H5 hi ⟨st, ms, v5, v6, v7, rfl, M⟩
   rw [show (0 : Int) + (i : Int) = (i : Int) from Int.zero_add _]
   obtain ⟨c, ec⟩ : ∃ c, ns[i]? = some c := ⟨_, List.getElem?_eq_getElem hi⟩
   have ecV : (ns.map V.int)[i]? = some (.int c) := by rw [List.getElem?_map, ec]; rfl
   have nz : (n : Int) ≠ 0 := by omega
   have t0 := Int.emod_nonneg c nz
   have t1 := Int.emod_lt_of_pos c (show (0 : Int) < n by omega)
   obtain ⟨t, et⟩ : ∃ t : Nat, c % (n : Int) = (t : Int) := ⟨(c % (n : Int)).toNat, by omega⟩
   obtain ⟨hl1, hl2⟩ := M.len
   obtain ⟨l, el⟩ : ∃ l, ls[t]? = some l := ⟨_, List.getElem?_eq_getElem (by omega)⟩
   obtain ⟨d, ed, hl, hl0, hlk⟩ := M.yds.each _ _ el
   have hcnt := M.count
   have hdl : d.length <= i := by
    have := Yd.le_sum (List.mem_map.mpr ⟨d, List.mem_of_getElem? ed, rfl⟩ : d.length ∈ st.tr.map List.length)
    omega
   refine ⟨_, rfl, _, rfl, _, rfl, .inl ⟨a, _, _, .int c, rfl, rfl, M.same.seq hS, atI_nat ecV, _, rfl, _, _, rfl, rfl, (by show (0 : Int) < n; omega), ?_⟩⟩
   refine .inl ⟨kA, _, _, .ref l, rfl, rfl, SqL.of M.yds.lst, (by rw [et]; exact atI_nat (by rw [List.getElem?_map, el]; rfl)), .inl ⟨rfl, _, SqL.of hl⟩, _, rfl, l, _, _, rfl, rfl, hl, (by rw [List.length_map]; exact small1000 (by omega)), ?_⟩
   have hs : Yd.step (Yd.R ns.length) b st (true, t) = some ⟨st.tr.set t (d ++ [(i : Int)]), st.left, st.came + 1⟩ := by
    unfold Yd.step
    rw [if_pos rfl, M.came, Yd.R_get hi]
    show some (Yd.St.mk (st.tr.set t (st.tr.getD t [] ++ [(i : Int)])) st.left (i + 1)) = _
    rw [List.getD_eq_getElem?_getD, ed]
    rfl
   have M1 : MdAt H (upd H5 l (.lst (d.map V.int ++ [.int i]))) kA lA ls ns.length n b (i + 1) ⟨st.tr.set t (d ++ [(i : Int)]), st.left, st.came + 1⟩ (ms ++ [(true, t)]) := by
    have y6 := M.yds.set el (d ++ [(i : Int)])
    rw [List.map_append] at y6
    refine ⟨Same.updN M.same hl0, Yd.steps_trans M.go (by show (Yd.step _ _ _ _).bind _ = _; rw [hs]; rfl), fun m hm => ?_, by show st.came + 1 = i + 1; rw [M.came], y6, by rw [upd_ne (ell _ _ el).symm]; exact M.left⟩
    rcases List.mem_append.mp hm with z | z
    ·exact M.val m z
    ·rw [show m = (true, t) by simpa using z]
     show t < n
     omega
   generalize upd H5 l (.lst (d.map V.int ++ [.int i])) = H6 at M1 ⊢
   refine ⟨_, rfl, _, rfl, .inl ⟨a, _, _, .int c, rfl, rfl, M1.same.seq hS, atI_nat ecV, _, rfl, _, _, rfl, rfl, ⟨by omega, by omega⟩, _, 3, rfl, rfl, (by show (0 : Int) < 3; decide), ?_⟩⟩
   have r0 := Int.emod_nonneg (c / (n : Int)) (show (3 : Int) ≠ 0 by decide)
   have r1 := Int.emod_lt_of_pos (c / (n : Int)) (show (0 : Int) < 3 by decide)
   refine ⟨_, rfl, by omega, by omega, ?_⟩
   refine for_range (lo := 0) (fun i' σ H5 => ∃ (st : Yd.St) (ms : List Yd.Mv) (v6 v7 : Option V), σ = [some (.ref a), some (.bl b), some (.int n), some (.ref kA), some (.ref lA), some (.int i), v6, v7, none, none] /\ MdAt H H5 kA lA ls ns.length n b (i + 1) st ms)
    ⟨_, _, _, _, rfl, M1⟩ ?_ ?_
   ·rintro i' σ H7 hi' ⟨st', ms', v6, v7, rfl, M⟩
    refine ⟨_, rfl, _, rfl, .inl ⟨a, _, _, .int c, rfl, rfl, M.same.seq hS, atI_nat ecV, _, rfl, _, _, rfl, rfl, ⟨by omega, by omega⟩, _, 3, rfl, rfl, ⟨by decide, by decide⟩, _, rfl, .inl ⟨_, _, rfl, rfl, _, rfl, _, _, rfl, rfl, (by show (0 : Int) < n; omega), ?_⟩⟩⟩
    dsimp only
    generalize hu : c / (n : Int) / 3 + (0 + (i' : Int)) = u
    have u0 := Int.emod_nonneg u nz
    have u1 := Int.emod_lt_of_pos u (show (0 : Int) < n by omega)
    obtain ⟨t', et'⟩ : ∃ t : Nat, u % (n : Int) = (t : Int) := ⟨(u % (n : Int)).toNat, by omega⟩
    rw [et']
    obtain ⟨hl1, hl2⟩ := M.len
    obtain ⟨l', el'⟩ : ∃ l, ls[t']? = some l := ⟨_, List.getElem?_eq_getElem (by omega)⟩
    obtain ⟨d', ed', hl', hl0', hlk'⟩ := M.yds.each _ _ el'
    have elV : (ls.map V.ref)[t']? = some (.ref l') := by rw [List.getElem?_map, el']; rfl
    have hcnt' := M.count
    refine ⟨_, rfl, _, rfl, .inl ⟨kA, _, _, .ref l', rfl, rfl, SqL.of M.yds.lst, atI_nat elV, ?_⟩⟩
    refine ⟨Nat.zero_le _, fun eL heL => .inr ⟨dI d', dI [], .ints (SqL.of (upd_get hl' heL)), .ints (SqL.of upd_same), ok_ints _ _, ok_ints _ _, _, rfl, ?_⟩⟩
    have sE : Same H7 (upd H7 eL (.lst [])) := Same.upd heL
    have yE := M.yds.same sE
    have hlE := sE _ _ hl'
    have ME : MdAt H (upd H7 eL (.lst [])) kA lA ls ns.length n b (i + 1) st' ms' := ⟨M.same.trans sE, M.go, M.val, M.came, yE, sE _ _ M.left⟩
    refine iteNB (fun hc => ?_) (fun hc => ⟨st', ms', _, _, rfl, ME⟩)
    have hne : d' ≠ [] := fun z => hc (by rw [z])
    refine ⟨_, rfl, .inl ⟨rfl, _, SqL.of ME.left⟩, _, rfl, b, rfl, ?_⟩
    have hsm : (st'.left.map V.int).length < sizeLine := by rw [List.length_map]; exact small1000 (by omega)
    cases b with
    | true =>
     have hx := List.dropLast_concat_getLast hne
     refine iteT ⟨_, rfl, _, rfl, .inl ⟨kA, _, _, .ref l', rfl, rfl, SqL.of yE.lst, atI_nat elV, .inl ⟨rfl, _, SqL.of hlE⟩, .inl ⟨l', _, .int (d'.getLast hne), rfl, rfl, hlE, ?_, ?_⟩⟩⟩
     ·rw [List.length_map, List.getElem?_map]
      have hp := List.length_pos_iff.mpr hne
      rw [List.getElem?_eq_getElem (by omega), List.getLast_eq_getElem hne]
      rfl
     have hL6 : upd (upd H7 eL (.lst [])) l' (.lst ((d'.map V.int).dropLast)) lA = some (.lst (st'.left.map V.int)) := by rw [upd_ne (ell _ _ el').symm]; exact ME.left
     refine ⟨lA, _, _, rfl, rfl, hL6, hsm, ?_⟩
     have M2 := leave M sE el' ed' (x := d'.getLast hne) (c' := d'.dropLast) (by rw [if_pos rfl]; exact hx.symm)
     rw [List.map_dropLast] at M2
     exact ⟨_, _, _, _, rfl, M2⟩
    | false =>
     obtain ⟨x, d2, rfl⟩ : ∃ x d2, d' = x :: d2 := by
      cases d' with
      | nil => exact absurd rfl hne
      | cons x d2 => exact ⟨x, d2, rfl⟩
     refine iteF ⟨_, rfl, _, rfl, .inl ⟨kA, _, _, .ref l', rfl, rfl, SqL.of yE.lst, atI_nat elV, .inl ⟨rfl, _, SqL.of hlE⟩, .inr ⟨l', _, 0, 0, .int x, rfl, rfl, hlE, by decide, by decide, ?_, rfl, ?_⟩⟩⟩
     ·unfold seqIndex?
      simp
     have hL6 : upd (upd H7 eL (.lst [])) l' (.lst (((x :: d2).map V.int).eraseIdx 0)) lA = some (.lst (st'.left.map V.int)) := by rw [upd_ne (ell _ _ el').symm]; exact ME.left
     refine ⟨lA, _, _, rfl, rfl, hL6, hsm, ?_⟩
     have M2 := leave M sE el' ed' (x := x) (c' := d2) (by rw [if_neg Bool.false_ne_true])
     exact ⟨_, _, _, _, rfl, M2⟩
   ·rintro σ H7 ⟨st', ms', v6, v7, rfl, M⟩
    exact ⟨st', ms', _, _, _, rfl, M⟩
  rintro σ H5 ⟨st, ms, v5, v6, v7, rfl, M⟩
  obtain ⟨hl1, hl2⟩ := M.len
  have hcnt := M.count
  refine ⟨_, rfl, kA, rfl, ⟨_, SqL.of M.yds.lst⟩, ?_⟩
  refine for_list (K := K) (a := kA) (xs := ls.map V.ref) (MdB H5 a kA b n ns.length st.tr v5 v6)
   ⟨lA, st, ms, v7, rfl, Same.refl _, M.go, M.val, M.came, rfl, M.left⟩ (fun j σ H6 _ h => ?_) ?_ ?_
  ·obtain ⟨_, _, _, _, _, s6, _⟩ := h
   exact SqL.of (s6 _ _ M.yds.lst)
  ·rintro j x σ H6 hx ⟨qA, st', ms', v7', rfl, s6, hgo, hval, hcame, htr, hq⟩
   obtain ⟨l, el, rfl⟩ := getMap hx
   obtain ⟨d, ed, hl, hl0, hlk⟩ := M.yds.each _ _ el
   have hj : j < n := by have := (List.getElem?_eq_some_iff.mp el).1; omega
   have ed' : st'.tr[j]? = some d := by
    rw [htr, List.getElem?_append_right (by rw [List.length_replicate]; exact Nat.le_refl _), List.length_replicate, Nat.sub_self, List.getElem?_drop, Nat.add_zero]
    exact ed
   have hcl := Yd.clear (T := Yd.R ns.length) (bl := b) ed'
   have hcnt2 : st'.left.length + (st'.tr.map List.length).sum = ns.length := by
    rw [<- hcame]
    exact Yd.steps_count hgo (fun x hx => by show x.2 < (List.replicate n ([] : List Int)).length; rw [List.length_replicate]; exact hval x hx) (Yd.init_count n)
   have hdl : d.length <= (st'.tr.map List.length).sum := Yd.le_sum (List.mem_map.mpr ⟨d, List.mem_of_getElem? ed', rfl⟩)
   have fin : ∀ (H7 : Hp) (e5 : List Int) (q2 : Addr), Same H6 H7 -> e5 = (if b = true then d.reverse else d) -> H7 q2 = none ->
     MdB H5 a kA b n ns.length st.tr v5 v6 (j + 1) [some (V.ref a), some (.bl b), some (.int n), some (.ref kA), some (.ref q2), v5, v6, some (.ref l), none, none] (upd H7 q2 (.lst (st'.left.map V.int ++ e5.map V.int))) := fun H7 e5 q2 s7 he hq2 => by
    refine ⟨q2, ⟨st'.tr.set j [], st'.left ++ e5, st'.came⟩, ms' ++ List.replicate d.length (false, j), _, rfl, (s6.trans s7).trans (Same.upd hq2), Yd.steps_trans hgo (by rw [hcl, he]), fun m hm => ?_, hcame, ?_, by rw [upd_same, List.map_append]⟩
    ·rcases List.mem_append.mp hm with z | z
     ·exact hval m z
     ·rw [(List.mem_replicate.mp z).2]; exact hj
    ·show st'.tr.set j [] = _
     rw [htr]
     exact Yd.cleared (by omega)
   have hlE := s6 _ _ hl
   refine ⟨_, rfl, _, rfl, b, rfl, ?_⟩
   cases b with
   | true =>
    refine iteT ⟨_, rfl, 1, rfl, _, rfl, rfl, l, _, rfl, SqL.of hlE, fun q1 hq1 => ?_⟩
    rw [revV_all, <- List.map_reverse]
    refine .inr (.inl ⟨qA, q1, _, _, rfl, rfl, upd_get hq hq1, upd_same, ?_, fun q2 hq2 => fin _ d.reverse q2 (Same.upd hq1) (by rw [if_pos rfl]) hq2⟩)
    rw [List.length_map, List.length_map, List.length_reverse]
    exact Nat.le_of_lt (small1000 (by omega))
   | false =>
    refine iteF ⟨_, rfl, .inr (.inl ⟨qA, l, _, _, rfl, rfl, hq, hlE, ?_, fun q2 hq2 => fin _ d q2 (Same.refl _) (by rw [if_neg Bool.false_ne_true]) hq2⟩)⟩
    rw [List.length_map, List.length_map]
    exact Nat.le_of_lt (small1000 (by omega))
  rintro σ H6 ⟨qA, st', ms', v7', rfl, s6, hgo, hval, hcame, htr, hq⟩
  rw [List.length_map, hl2] at htr
  have hll : st'.left.length = ns.length := by
   have h1 := Yd.steps_count hgo (fun x hx => by show x.2 < (List.replicate n ([] : List Int)).length; rw [List.length_replicate]; exact hval x hx) (Yd.init_count n)
   rw [htr, List.drop_of_length_le (by omega), List.append_nil, Yd.sum_nils, hcame] at h1
   omega
  have hperm := Yd.left_perm hgo hval hll
  have hnd : st'.left.Nodup := hperm.nodup_iff.mpr (Yd.R_nodup _)
  have hS6 := M.same.trans s6
  refine ⟨_, rfl, qA, rfl, ⟨_, SqL.of hq⟩, fun tA htA => ?_⟩
  refine turns_list (K := K) (a := qA) (xs := st'.left.map V.int) (fun i σ H7 => (∃ v, σ = [v]) /\ Same H6 H7 /\ H7 tA = some (.lst ((List.replicate i (0 : Int)).map V.int)))
   ⟨⟨_, rfl⟩, Same.upd htA, upd_same⟩ (fun i σ H7 _ h => SqL.of (h.2.1 _ _ hq)) ?_ ?_
  ·rintro i x σ H7 hx ⟨⟨v, rfl⟩, s7, h7⟩
   have hi := (List.getElem?_eq_some_iff.mp hx).1
   rw [List.length_map] at hi
   refine ⟨_, h7, ?_, ⟨_, rfl⟩, Same.updN s7 htA, ?_⟩
   ·rw [List.length_map, List.length_replicate]
    exact small1000 (by omega)
   ·rw [upd_same, List.replicate_succ', List.map_append]
    rfl
  rintro σ H7 ⟨_, s7, h7⟩
  rw [List.length_map] at h7
  have eqt : qA ≠ tA := ne_of_none hq htA
  refine ⟨_, rfl, _, _, rfl, .inl ⟨_, SqL.of (s7 _ _ hq), rfl⟩, _, rfl, ?_, ?_, ?_⟩
  ·rw [List.length_map]; omega
  ·rw [List.length_map]; omega
  rw [Int.toNat_natCast, List.length_map]
  refine for_range (lo := 0) (n := st'.left.length) (fun i σ H8 => ∃ (T : List Int) (v9 : Option V), σ = [some (.ref a), some (.bl b), some (.int n), some (.ref kA), some (.ref qA), v5, v6, v7', some (.ref tA), v9] /\ Same H6 H8 /\ H8 tA = some (.lst (T.map V.int)) /\ T.length = ns.length /\
    ∀ (j : Nat) (x : Int), j < i -> st'.left[j]? = some x -> T[x.toNat]? = some (j : Int))
   ⟨List.replicate st'.left.length 0, _, rfl, s7, h7, by rw [List.length_replicate, hll], fun j x hj => absurd hj (Nat.not_lt_zero _)⟩ ?_ ?_
  ·rintro i σ H8 hi ⟨T, v9, rfl, s8, h8, hTl, hTat⟩
   rw [show (0 : Int) + (i : Int) = (i : Int) from Int.zero_add _]
   obtain ⟨x, ex⟩ : ∃ x, st'.left[i]? = some x := ⟨_, List.getElem?_eq_getElem hi⟩
   have rng : ∀ {y : Int}, y ∈ st'.left -> 0 <= y /\ y < ns.length := fun hy => Yd.R_mem (hperm.mem_iff.mp hy)
   obtain ⟨x0, x1⟩ := rng (List.mem_of_getElem? ex)
   obtain ⟨k, ek⟩ : ∃ k : Nat, x = (k : Int) := ⟨x.toNat, by omega⟩
   refine ⟨_, rfl, _, rfl, _, rfl, _, rfl, .inl ⟨qA, _, _, .int x, rfl, rfl, SqL.of (s8 _ _ hq), atI_nat (by rw [List.getElem?_map, ex]; rfl), tA, _, _, k, rfl, rfl, h8, ?_, ?_⟩⟩
   ·rw [ek]
    exact ixN_nat (by rw [List.length_map]; omega)
   refine ⟨T.set k (i : Int), _, rfl, Same.updN s8 htA, by rw [upd_same, List.map_set], by rw [List.length_set]; exact hTl, fun j y hj ey => ?_⟩
   obtain ⟨y0, y1⟩ := rng (List.mem_of_getElem? ey)
   by_cases hji : j = i
   ·subst hji
    rw [ex] at ey
    cases ey
    rw [ek, Int.toNat_natCast, List.getElem?_set_self (by omega)]
   ·have hne : y.toNat ≠ k := fun z => by
     have : x = y := by omega
     subst this
     have h1 := (List.getElem?_eq_some_iff.mp ex)
     have h2 := (List.getElem?_eq_some_iff.mp ey)
     exact hji ((List.getElem_inj hnd).mp (h2.2.trans h1.2.symm))
    rw [List.getElem?_set_ne (Ne.symm hne)]
    exact hTat j y (by omega) ey
  ·rintro σ H8 ⟨T, v9, rfl, s8, h8, hTl, hTat⟩
   obtain ⟨B, hTp⟩ := Yd.made_brings hgo hval hll hTl fun j x e => hTat j x (List.getElem?_eq_some_iff.mp e).1 e
   exact ⟨_, rfl, kQ tA T ms' H8 (hS6.trans s8) (hS6.free htA) h8 hTp B⟩
theorem far_at (s : Int) : ∃ far : Int, 0 < far /\ far <= 10000000 /\ atI [V.int 1, V.int ((10 : Int) ^ (7 : Int).toNat), V.int 1] (s % 3) = some (.int far) := by
 have h1 := Int.emod_nonneg s (show (3 : Int) ≠ 0 by decide)
 have h2 := Int.emod_lt_of_pos s (show (0 : Int) < 3 by decide)
 rcases (show s % 3 = 0 \/ s % 3 = 1 \/ s % 3 = 2 by omega) with e | e | e <;> rw [e]
 ·exact ⟨1, by decide, by decide, rfl⟩
 ·exact ⟨10000000, by decide, by decide, rfl⟩
 ·exact ⟨1, by decide, by decide, rfl⟩
def spI_inserted (K : PySem.W.Frag) : Sp := fun vs H Q _ => ∃ (a : Addr) (ns : List Int), vs = [.ref a] /\ SqL K H a (ns.map V.int) /\ ns.length < 64 /\
 ∀ (p : Addr) (ps : List Nat) (far : Int) (H' : Hp), Same H H' -> H p = none -> H' p = some (.lst ((ps.map (Ins.wag ns far)).map V.int)) -> 0 < far -> far <= 10000000 -> ps.Perm (List.range ns.length) -> Q (.ref p) H'
theorem sc__law_inserted : FnScope ["_law_script", "_law_places", "_law_wagons", "_law_far", "_law_k", "_law_at"] ["_law_script"] (defScope s__law_inserted) := ⟨rfl, rfl, rfl, by decide +kernel, rfl, by decide +kernel, by decide +kernel⟩
theorem C__law_inserted (T : Tx K mg Z) : Ctr P w K mg base CX0 1 "_law_inserted" ["_law_script"] (spI_inserted K) := by
 refine ctr_of T._law_inserted fun f fd F => F.ok sc__law_inserted (fun vs H Q E h => ?_) (fun cdv A outer s H vs Q E hr h => ?_)
 ·obtain ⟨a, ns, rfl, _⟩ := h
  rfl
 ·obtain ⟨a, ns, rfl, hS, hz, k⟩ := h
  refine' ⟨_, ?hterm, ?_⟩
  case hterm =>
   refine' pss_cons ?q1 ?q2
   case q1 =>
    refine' ps_asg ?q3 ?q4 (hs := by kernel_rfl) (hw := by kernel_rfl)
    case q3 =>
     refine' pe_tup ?q5
     case' q5 => refine' pa_cons ?q6 ?q7
     case q6 => exact pe_lst pa_nil
     case' q7 => refine' pa_cons ?q8 ?q9
     case q8 => exact pe_lst pa_nil
     case' q9 => refine' pa_cons ?q10 pa_nil
     case' q10 => refine' pe_ix (ix_K (K := K) (by rfl)) ?q11 ?q12 (fun _ _ => rfl)
     case q11 =>
      refine' pe_tup ?q13
      case' q13 => refine' pa_cons pe_int ?q14
      case' q14 => refine' pa_cons ?q15 ?q16
      case q15 => exact pe_op op_pow pe_int pe_int
      case q16 => exact pa_cons pe_int pa_nil
     case' q12 => refine' pe_op op_mod ?q17 pe_int
     case' q17 => refine' pe_callB (callK_sum (K := K) (by rfl) (by rfl)) (by rfl) T.n_sum b_sum ?q18
     case q18 => exact pa_cons (pv 0) pa_nil
    case' q4 => refine' pg_tupK (K := K) (n := 3) (by rfl) rfl ?q19
    case' q19 => refine' pgs_cons ?q20 ?q21
    case q20 => exact pg_name (i := 1) sc__law_inserted.nd (by rfl) (by exact Or.inl rfl)
    case' q21 => refine' pgs_cons ?q22 ?q23
    case q22 => exact pg_name (i := 2) sc__law_inserted.nd (by rfl) (by exact Or.inr rfl)
    case' q23 => refine' pgs_cons ?q24 pgs_nil
    case q24 => exact pg_name (i := 3) sc__law_inserted.nd (by rfl) (by exact Or.inl rfl)
   case' q2 => refine' pss_cons ?q25 ?q26
   case q25 =>
    refine' ps_for HP rfl ?q27 ?q28 ?q29
    case q27 =>
     refine' pi_range1 rfl T.n_range ?q30
     case' q30 => refine' pa_cons ?q31 pa_nil
     case' q31 => refine' pe_callB (callK_len (K := K) (by rfl)) (by rfl) T.n_len b_len ?q32
     case q32 => exact pa_cons (pv 0) pa_nil
    case q28 => exact pg_name (i := 4) sc__law_inserted.nd (by rfl) (by exact Or.inl rfl)
    case' q29 => refine' pss_cons ?q33 ?q34
    case q33 =>
     refine' ps_set (i := 5) sc__law_inserted.nd rfl (Or.inl rfl) ?q35
     case' q35 => refine' pe_op op_mod ?q36 ?q37
     case q36 => exact pe_ix (ix_K (K := K) (by rfl)) (pv 0) (pv 4) (fun _ _ => rfl)
     case q37 => exact pe_op (op_addK (K := K) (by rfl)) (pv 4) pe_int
    case' q34 => refine' pss_cons ?q38 ?q39
    case q38 =>
     refine' ps_set (i := 1) sc__law_inserted.nd rfl (Or.inl rfl) ?q40
     case' q40 => refine' pe_op (op_addK (K := K) (by rfl)) ?q41 ?q42
     case q41 =>
      refine' pe_op (op_addK (K := K) (by rfl)) ?q43 ?q44
      case q43 =>
       refine' pe_slice (sl_K (K := K) (by rfl)) (pv 1) po_none ?q45
       case q45 => exact po_some (pv 5)
      case' q44 => refine' pe_lst ?q46
      case q46 => exact pa_cons (pv 4) pa_nil
     case' q42 => refine' pe_slice (sl_K (K := K) (by rfl)) (pv 1) ?q47 po_none
     case q47 => exact po_some (pv 5)
    case' q39 => refine' pss_one ?q48
    case' q48 => refine' ps_expr ?q49
    case' q49 => refine' pe_bmK (K := K) (by rfl) PySem.F.plainAttrs_list PySem.F.slot_list_append PySem.F.type_list_append mt_append (pv 2) ?q50
    case' q50 => refine' pa_cons ?q51 pa_nil
    case' q51 => refine' pe_op op_mulU ?q52 (pv 3)
    case' q52 => refine' pe_op op_sub ?q53 pe_int
    case' q53 => refine' pe_op (op_addK (K := K) (by rfl)) ?q54 ?q55
    case q54 => exact pe_op op_mulU pe_int (pv 4)
    case' q55 => refine' pe_op op_mod ?q56 pe_int
    case' q56 => refine' pe_op op_fdiv ?q57 pe_int
    case q57 => exact pe_ix (ix_K (K := K) (by rfl)) (pv 0) (pv 4) (fun _ _ => rfl)
   case' q26 => refine' pss_one ?q58
   case' q58 => refine' ps_ret ?q59
   case' q59 => refine' pe_comp rfl (csc_of (sc := defScope s__law_inserted) (N := ["_law_script", "_law_places", "_law_wagons", "_law_far", "_law_k", "_law_at"]) (cap := [none, some 2]) (N' := ["_law_k", "_law_wagons"]) rfl rfl ⟨ rfl, by decide +kernel, by decide +kernel, by decide +kernel, rfl, by decide +kernel ⟩) ?q60 (fun _ _ _ _ => ?q61) (fun _ _ _ _ => pif_nil) (fun _ _ _ _ => ?q62)
   case q60 => exact pi_listK (K := K) (by rfl) (pv 1)
   case q61 => exact pg_name (i := 0) (show List.Nodup (["_law_k", "_law_wagons"] : List Str) from by decide +kernel) (by rfl) (by exact Or.inl rfl)
   case q62 => exact pe_ix (ix_K (K := K) (by rfl)) (pv 1) (pv 0) (fun _ _ => rfl)
  obtain ⟨far, hf1, hf2, hat⟩ := far_at ns.sum
  refine ⟨Nat.zero_le _, fun pA hpA => ⟨Nat.zero_le _, fun wA hwA => ?_⟩⟩
  have s1 : Same H (upd (upd H pA (.lst [])) wA (.lst [])) := (Same.upd hpA).trans (Same.upd hwA)
  refine ⟨10, 7, rfl, rfl, ⟨by decide, by decide, by decide⟩, (by show 3 <= sizeLine; decide), fun tA htA => ?_⟩
  have s2 := s1.trans (Same.upd (o := .tup [.int 1, .int ((10 : Int) ^ (7 : Int).toNat), .int 1]) htA)
  refine ⟨_, rfl, a, ns, rfl, s2.seq hS, _, 3, rfl, rfl, (by show (0 : Int) < 3; decide), .inr ⟨tA, _, _, .int far, rfl, rfl, SqT.of upd_same, hat, ?_⟩⟩
  refine ⟨(by show 3 <= sizeLine; decide), fun uA huA => ⟨uA, _, rfl, SqT.of upd_same, rfl, _, _, rfl, _, _, rfl, _, _, rfl, rfl, ?_⟩⟩
  have s3 := s2.trans (Same.upd (o := .tup [.ref pA, .ref wA, .int far]) huA)
  have epw : pA ≠ wA := ne_of_none upd_same hwA
  refine ⟨_, rfl, _, _, rfl, .inl ⟨_, s3.seq hS, rfl⟩, _, rfl, ?_, ?_, ?_⟩
  ·rw [List.length_map]; omega
  ·rw [List.length_map]; omega
  rw [Int.toNat_natCast, List.length_map]
  have hp0 : upd (upd (upd (upd H pA (.lst [])) wA (.lst [])) tA (.tup [.int 1, .int ((10 : Int) ^ (7 : Int).toNat), .int 1])) uA (.tup [.ref pA, .ref wA, .int far]) pA = some (.lst []) := upd_get (upd_get (upd_get upd_same hwA) htA) huA
  have hw0 : upd (upd (upd (upd H pA (.lst [])) wA (.lst [])) tA (.tup [.int 1, .int ((10 : Int) ^ (7 : Int).toNat), .int 1])) uA (.tup [.ref pA, .ref wA, .int far]) wA = some (.lst []) := upd_get (upd_get upd_same htA) huA
  have hwH : H wA = none := (Same.upd hpA).free hwA
  refine for_range (lo := 0) (n := ns.length) (fun i σ H2 => ∃ (qA : Addr) (ps : List Nat) (v4 v5 : Option V), σ = [some (.ref a), some (.ref qA), some (.ref wA), some (.int far), v4, v5] /\ Same H H2 /\ ps.Perm (List.range i) /\
    H2 qA = some (.lst (ps.map fun (j : Nat) => V.int (j : Int))) /\ H2 wA = some (.lst ((List.range i).map fun j => V.int (Ins.wag ns far j))) /\ qA ≠ wA)
   ⟨pA, [], none, none, rfl, s3, .refl _, hp0, hw0, epw⟩ ?_ ?_
  ·rintro i σ H2 hi ⟨qA, ps, v4, v5, rfl, sm, hperm, hq, hw, eqw⟩
   obtain ⟨c, ec⟩ : ∃ c, ns[i]? = some c := ⟨_, List.getElem?_eq_getElem hi⟩
   have ecV : (ns.map V.int)[i]? = some (.int c) := by rw [List.getElem?_map, ec]; rfl
   have eD : ns.getD i 0 = c := by rw [List.getD_eq_getElem?_getD, ec]; rfl
   rw [show (0 : Int) + (i : Int) = (i : Int) from Int.zero_add _]
   have hpl : ps.length = i := by rw [hperm.length_eq, List.length_range]
   refine ⟨_, rfl, _, rfl, .inl ⟨a, _, _, .int c, rfl, rfl, sm.seq hS, atI_nat ecV, ?_⟩⟩
   refine ⟨_, rfl, .inl ⟨_, 1, rfl, rfl, _, _, rfl, rfl, (by omega), ?_⟩⟩
   have a0 := Int.emod_nonneg c (show (i : Int) + 1 ≠ 0 by omega)
   have a1 := Int.emod_lt_of_pos c (show (0 : Int) < (i : Int) + 1 by omega)
   obtain ⟨at_, hat⟩ : ∃ n : Nat, c % ((i : Int) + 1) = (n : Int) := ⟨(c % ((i : Int) + 1)).toNat, by omega⟩
   dsimp only
   rw [hat]
   refine ⟨_, rfl, _, rfl, _, rfl, qA, _, rfl, SqL.of hq, fun b1 hb1 => ?_⟩
   rw [cutV_to, <- List.map_take]
   refine ⟨_, rfl, (by show 1 <= sizeLine; decide), fun b2 hb2 => ?_⟩
   refine .inr (.inl ⟨b1, b2, _, _, rfl, rfl, upd_get upd_same hb2, upd_same, ?_, fun b3 hb3 => ?_⟩)
   ·simp only [List.length_map, List.length_take, List.length_cons, List.length_nil]
    exact Nat.le_of_lt (small1000 (by omega))
   have t1 : Same H2 (upd (upd (upd H2 b1 (.lst ((ps.take at_).map fun (j : Nat) => V.int (j : Int)))) b2 (.lst [.int i])) b3 (.lst ((ps.take at_).map (fun (j : Nat) => V.int (j : Int)) ++ [.int i]))) := ((Same.upd hb1).trans (Same.upd hb2)).trans (Same.upd hb3)
   refine ⟨_, rfl, _, rfl, _, rfl, qA, _, rfl, SqL.of (t1 _ _ hq), fun b4 hb4 => ?_⟩
   rw [cutV_from, <- List.map_drop]
   refine .inr (.inl ⟨b3, b4, _, _, rfl, rfl, upd_get upd_same hb4, upd_same, ?_, fun b5 hb5 => ?_⟩)
   ·simp only [List.length_append, List.length_map, List.length_take, List.length_drop, List.length_cons, List.length_nil]
    exact Nat.le_of_lt (small1000 (by omega))
   have t2 := (t1.trans (Same.upd (o := .lst ((ps.drop at_).map fun (j : Nat) => V.int (j : Int))) hb4)).trans (Same.upd (o := .lst ((ps.take at_).map (fun (j : Nat) => V.int (j : Int)) ++ [.int i] ++ (ps.drop at_).map (fun (j : Nat) => V.int (j : Int)))) hb5)
   have hw5 := t2 _ _ hw
   have e5w : b5 ≠ wA := fun z => by
    rw [z] at hb5
    have := t1.trans (Same.upd (o := .lst ((ps.drop at_).map fun (j : Nat) => V.int (j : Int))) hb4) _ _ hw
    rw [this] at hb5
    cases hb5
   refine ⟨_, rfl, .inl ⟨rfl, _, SqL.of hw5⟩, ?_⟩
   refine ⟨_, rfl, .inl ⟨7, _, rfl, rfl, .inl ⟨by decide, by decide⟩, ?_⟩⟩
   refine ⟨_, rfl, _, rfl, .inl ⟨a, _, _, .int c, rfl, rfl, (sm.trans t2).seq hS, atI_nat ecV, ?_⟩⟩
   refine ⟨_, 3, rfl, rfl, ⟨by decide, by decide⟩, _, 7, rfl, rfl, (by show (0 : Int) < 7; decide), .inl ⟨_, _, rfl, rfl, _, 90, rfl, rfl, _, rfl, .inl ⟨_, far, rfl, rfl, .inr ⟨by omega, by omega⟩, ?_⟩⟩⟩
   refine ⟨wA, _, _, rfl, rfl, hw5, ?_, ?_⟩
   ·rw [List.length_map, List.length_range]
    exact small1000 (by omega)
   refine ⟨b5, ps.take at_ ++ [i] ++ ps.drop at_, _, _, rfl, Same.updN (sm.trans t2) hwH, Ins.perm_ins hperm, ?_, ?_, e5w⟩
   ·rw [upd_ne e5w, upd_same, List.map_append, List.map_append]
    rfl
   ·rw [upd_same, List.range_succ, List.map_append]
    show some (HO.lst (_ ++ [V.int ((7 * (i : Int) + c / 3 % 7 - 90) * far)])) = some (HO.lst (_ ++ [V.int (Ins.wag ns far i)]))
    unfold Ins.wag
    rw [eD]
  ·rintro σ H2 ⟨qA, ps, v4, v5, rfl, sm, hperm, hq, hw, eqw⟩
   refine ⟨_, rfl, qA, rfl, ⟨_, SqL.of hq⟩, fun p hp => ?_⟩
   refine turns_list (K := K) (a := qA) (xs := ps.map fun (j : Nat) => V.int (j : Int)) (fun i σ H3 => (∃ v, σ = [v, some (.ref wA)]) /\ Same H2 H3 /\ H3 p = some (.lst (((ps.take i).map (Ins.wag ns far)).map V.int)))
    ⟨⟨_, rfl⟩, Same.upd hp, upd_same⟩ (fun i σ H3 _ h => SqL.of (h.2.1 _ _ hq)) ?_ ?_
   ·rintro i x σ H3 hx ⟨⟨v, rfl⟩, s4, h4⟩
    obtain ⟨j, ej, rfl⟩ := getMap hx
    have hj : j < ns.length := Ins.perm_lt hperm (List.mem_of_getElem? ej)
    refine ⟨_, rfl, _, rfl, .inl ⟨wA, _, _, .int (Ins.wag ns far j), rfl, rfl, SqL.of (s4 _ _ hw), atI_nat ?_, _, h4, ?_, ⟨_, rfl⟩, Same.updN s4 hp, ?_⟩⟩
    ·rw [List.getElem?_map, List.getElem?_range hj]
     rfl
    ·rw [List.length_map, List.length_map, List.length_take]
     have : ps.length = ns.length := by rw [hperm.length_eq, List.length_range]
     exact small1000 (by omega)
    ·rw [upd_same, take_snoc ej, List.map_append, List.map_append]
     rfl
   ·rintro σ H3 ⟨_, s4, h4⟩
    rw [List.length_map, List.take_length] at h4
    exact k p ps far H3 (sm.trans s4) (sm.free hp) h4 hf1 hf2 hperm
def sp_fall : Sp := fun vs H Q _ => ∃ (tA pA : Addr) (T ps : List Int), vs = [.ref tA, .ref pA] /\ H tA = some (.lst (T.map V.int)) /\ H pA = some (.lst (ps.map V.int)) /\ ps.length <= 900 /\ ∀ H', Same H H' -> Q (.bl (fallsB T ps)) H'
theorem sc__law_falling : FnScope ["_law_train", "_law_places"] ["_law_train", "_law_places"] (defScope s__law_falling) := ⟨rfl, rfl, rfl, by decide +kernel, rfl, by decide +kernel, by decide +kernel⟩
theorem C__law_falling (T : Tx K mg Z) : Ctr P w K mg base CX0 2 "_law_falling" ["_law_train", "_law_places"] sp_fall := by
 refine ctr_of T._law_falling fun f fd F => F.ok sc__law_falling (fun vs H Q E h => ?_) (fun cdv A outer s H vs Q E hr h => ?_)
 ·obtain ⟨tA, pA, T, ps, rfl, _⟩ := h
  rfl
 ·obtain ⟨tA, pA, tr, ps, rfl, hT, hP, hpl, kQ⟩ := h
  refine' ⟨_, ?hterm, ?_⟩
  case hterm =>
   refine' pss_cons ?q1 ?q2
   case q1 =>
    refine' ps_if ?q3 ?q4 pss_nil
    case q3 =>
     refine' pt_not ?q5
     case' q5 => refine' pt_truK (K := K) (by rfl) ?q6 (fun _ => rfl)
     case' q6 => refine' pe_callC (C__law_rising T) (hr.mono (by decide)) rfl ?q7
     case' q7 => refine' pa_cons (pv 1) ?q8
     case' q8 => refine' pa_cons ?q9 pa_nil
     case' q9 => refine' pe_callB (callK_len (K := K) (by rfl)) (by rfl) T.n_len b_len ?q10
     case q10 => exact pa_cons (pv 0) pa_nil
    case' q4 => refine' pss_one ?q11
    case q11 => exact ps_ret pe_bl
   case' q2 => refine' pss_one ?q12
   case' q12 => refine' ps_ret ?q13
   case' q13 => refine' pe_callB (callK_all (K := K) (by rfl) (by rfl)) (by rfl) T.n_all b_all ?q14
   case' q14 => refine' pa_cons ?q15 pa_nil
   case' q15 => refine' pe_comp rfl (csc_of (sc := defScope s__law_falling) (N := ["_law_train", "_law_places"]) (cap := [none, some 0, some 1]) (N' := ["_law_k", "_law_train", "_law_places"]) rfl rfl ⟨ rfl, by decide +kernel, by decide +kernel, by decide +kernel, rfl, by decide +kernel ⟩) ?q16 (fun _ _ _ _ => ?q17) (fun _ _ _ _ => pif_nil) (fun _ _ _ _ => ?q18)
   case q16 =>
    refine' pi_range2 rfl T.n_range ?q19
    case' q19 => refine' pa_cons pe_int ?q20
    case' q20 => refine' pa_cons ?q21 pa_nil
    case' q21 => refine' pe_callB (callK_len (K := K) (by rfl)) (by rfl) T.n_len b_len ?q22
    case q22 => exact pa_cons (pv 1) pa_nil
   case q17 => exact pg_name (i := 0) (show List.Nodup (["_law_k", "_law_train", "_law_places"] : List Str) from by decide +kernel) (by rfl) (by exact Or.inl rfl)
   case q18 =>
    refine' pe_cmpR op_gt ?q23 ?q24 (nomark _)
    case q23 =>
     refine' pe_ix (ix_K (K := K) (by rfl)) (pv 1) ?q25 (fun _ _ => rfl)
     case' q25 => refine' pe_ix (ix_K (K := K) (by rfl)) (pv 2) ?q26 (fun _ _ => rfl)
     case q26 => exact pe_op op_sub (pv 0) pe_int
    case' q24 => refine' pe_ix (ix_K (K := K) (by rfl)) (pv 1) ?q27 (fun _ _ => rfl)
    case q27 => exact pe_ix (ix_K (K := K) (by rfl)) (pv 2) (pv 0) (fun _ _ => rfl)
  refine ⟨_, rfl, _, rfl, _, _, rfl, .inl ⟨_, SqL.of hT, rfl⟩, pA, ps, _, rfl, SqL.of hP, _, rfl, ?_⟩
  rw [List.length_map]
  cases hr' : rises (tr.length : Int) (-1) ps with
  | false =>
   have := kQ H (Same.refl _)
   unfold fallsB at this
   rw [hr', Bool.false_and] at this
   exact iteT this
  | true =>
   refine iteF ?_
   have nn := (falls_rising hr').2.2
   refine ⟨_, rfl, _, _, rfl, .inl ⟨_, SqL.of hP, rfl⟩, 1, _, rfl, ⟨by decide, by decide, ?_, ?_⟩, fun p hp => ?_⟩
   ·rw [List.length_map]; omega
   ·rw [List.length_map]; omega
   have en : (((ps.map V.int).length : Int) - 1).toNat = ps.length - 1 := by rw [List.length_map]; omega
   rw [en]
   refine turns_range (lo := 1) (n := ps.length - 1) (fun i σ H3 => (∃ v, σ = [v, some (.ref tA), some (.ref pA)]) /\ Same H H3 /\ H3 p = some (.lst (((List.range i).map (fallAt tr ps)).map V.bl)))
    ⟨⟨_, rfl⟩, Same.upd hp, upd_same⟩ ?_ ?_
   ·rintro i σ H3 hi ⟨⟨v, rfl⟩, s3, h3⟩
    have hTv := s3 _ _ hT
    have hPv := s3 _ _ hP
    have gP : ∀ j, j < ps.length -> atI (ps.map V.int) (j : Int) = some (.int (ps.getD j 0)) := fun j hj => by
     refine atI_nat ?_
     rw [List.getElem?_map, List.getD_eq_getElem?_getD, List.getElem?_eq_getElem hj]
     rfl
    have gT : ∀ j, j < ps.length -> atI (tr.map V.int) (ps.getD j 0) = some (.int (tr.getD (ps.getD j 0).toNat 0)) := fun j hj => by
     have hm : ps.getD j 0 ∈ ps := by rw [List.getD_eq_getElem?_getD, List.getElem?_eq_getElem hj]; exact List.getElem_mem hj
     obtain ⟨a, b⟩ := nn _ hm
     obtain ⟨k, ek⟩ : ∃ k : Nat, ps.getD j 0 = (k : Int) := ⟨(ps.getD j 0).toNat, by omega⟩
     rw [ek, Int.toNat_natCast]
     rw [ek] at b
     refine atI_nat ?_
     rw [List.getElem?_map, List.getD_eq_getElem?_getD, List.getElem?_eq_getElem (by omega)]
     rfl
    have e0 : (1 : Int) + (i : Int) - 1 = (i : Int) := by omega
    have e1 : (1 : Int) + (i : Int) = ((i + 1 : Nat) : Int) := by omega
    refine ⟨_, rfl, _, rfl, _, rfl, _, 1, rfl, rfl, ?_⟩
    dsimp only
    rw [e0]
    refine .inl ⟨pA, _, _, _, rfl, rfl, SqL.of hPv, gP i (by omega), .inl ⟨tA, _, _, _, rfl, rfl, SqL.of hTv, gT i (by omega), ?_⟩⟩
    rw [e1]
    refine ⟨_, rfl, _, rfl, _, rfl, .inl ⟨pA, _, _, _, rfl, rfl, SqL.of hPv, gP (i + 1) (by omega), .inl ⟨tA, _, _, _, rfl, rfl, SqL.of hTv, gT (i + 1) (by omega), _, _, rfl, rfl, ?_⟩⟩⟩
    refine ⟨_, h3, ?_, ⟨_, rfl⟩, Same.updN s3 hp, ?_⟩
    ·rw [List.length_map, List.length_map, List.length_range]
     exact small1000 (by omega)
    ·rw [upd_same, List.range_succ, List.map_append, List.map_append]
     rfl
   ·rintro σ H3 ⟨_, s3, h3⟩
    refine ⟨p, _, rfl, SqL.of h3, ?_⟩
    have := kQ H3 s3
    unfold fallsB at this
    rw [hr', Bool.true_and] at this
    rw [List.all_map]
    exact this
theorem GOk.mono {n n' : Nat} {gs : List Gm} (h : GOk n gs) (hn : n <= n') : GOk n' gs := by
 obtain ⟨ms, e, h⟩ := h
 exact ⟨ms, e, fun m hm => Nat.lt_of_lt_of_le (h m hm) hn⟩
theorem GOk.zero {gs : List Gm} (h : GOk 0 gs) : gs = [] := by
 obtain ⟨ms, rfl, h⟩ := h
 cases ms with
 | nil => rfl
 | cons m r => exact absurd (h m List.mem_cons_self) (Nat.not_lt_zero _)
def FwOk (gs : List Gm) (ps : List Int) : Prop := GOk ps.length gs \/ (ps = [] /\ gs = [(Str.ofString "out", 0)])
def sp_Fewest_init (C : Addr) : Sp := fun vs H Q _ => ∃ (p dx mA pA : Addr) (xs ys : List V), vs = [.ref p, .ref mA, .ref pA] /\ H p = some (.ins C dx []) /\ H mA = some (.lst xs) /\ H pA = some (.lst ys) /\
 ∀ (u v : Addr) (fs : List (Str × V)) (H' : Hp), H u = none -> H v = none -> u ≠ v -> H' p = some (.ins C dx fs) -> fs.lookup (Str.ofString "moves") = some (.ref u) -> fs.lookup (Str.ofString "places") = some (.ref v) -> fs.lookup (Str.ofString "shows") = none ->
  H' u = some (.lst xs) -> H' v = some (.lst ys) -> (∀ c o, H c = some o -> c ≠ p -> H' c = some o) -> Q .non H'
theorem sc_Fewest_init : FnScope ["self", "moves", "places"] ["self", "moves", "places"] (defScope s_Fewest_init) := ⟨rfl, rfl, rfl, by decide +kernel, rfl, by decide +kernel, by decide +kernel⟩
theorem M_Fewest (T : Tx K mg Z) : CtrC P w K mg base CX0 1 "Fewest" Z.cFewest ["self", "moves", "places"] (sp_Fewest_init Z.cFewest) := by
 refine ctrC_of T.c_Fewest T.i_Fewest fun f fd F => F.ok sc_Fewest_init (fun vs H Q E h => ?_) (fun cdv A outer s H vs Q E hr h => ?_)
 ·obtain ⟨p, dx, mA, pA, xs, ys, rfl, _⟩ := h
  rfl
 ·obtain ⟨p, dx, mA, pA, xs, ys, rfl, hp, hm, hq, k⟩ := h
  refine' ⟨_, ?hterm, ?_⟩
  case hterm =>
   refine' pss_cons ?q1 ?q2
   case q1 =>
    refine' ps_fldK (K := K) (by rfl) (pv 0) ?q3 rfl
    case' q3 => refine' pe_callTy (callK_list (K := K) (by rfl)) (by rfl) T.n_list b_list ?q4
    case q4 => exact pa_cons (pv 1) pa_nil
   case' q2 => refine' pss_one ?q5
   case' q5 => refine' ps_fldK (K := K) (by rfl) (pv 0) ?q6 rfl
   case' q6 => refine' pe_callTy (callK_list (K := K) (by rfl)) (by rfl) T.n_list b_list ?q7
   case q7 => exact pa_cons (pv 2) pa_nil
  refine ⟨_, rfl, mA, xs, rfl, .inl (SqL.of hm), fun u hu => ?_⟩
  have hup : u ≠ p := (ne_of_none hp hu).symm
  refine ⟨_, rfl, p, _, dx, _, rfl, upd_get hp hu, T.k_Fewest, T.a_Fewest_moves, (by show 0 < 1000; decide), ?_⟩
  have npp : pA ≠ p := fun z => by rw [z, hp] at hq; cases hq
  refine ⟨_, rfl, pA, ys, rfl, .inl (SqL.of (by rw [upd_ne npp]; exact upd_get hq hu)), fun v hv => ?_⟩
  have hvp : v ≠ p := fun z => by rw [z, upd_same] at hv; cases hv
  have hv1 : upd H u (.lst xs) v = none := by rw [upd_ne hvp] at hv; exact hv
  have hvu : v ≠ u := fun z => by rw [z, upd_same] at hv1; cases hv1
  have hv2 : H v = none := by rw [upd_ne hvu] at hv1; exact hv1
  refine ⟨_, rfl, p, _, dx, _, rfl, (by rw [upd_ne hvp.symm]; exact upd_same), T.k_Fewest, T.a_Fewest_places, (by show 1 < 1000; decide), ?_⟩
  refine k u v _ _ hu hv2 hvu.symm upd_same rfl rfl rfl ?_ ?_ fun c o e hc => ?_
  ·rw [upd_ne hup, upd_ne hvu.symm, upd_ne hup, upd_same]
  ·rw [upd_ne hvp, upd_same]
  ·rw [upd_ne hc, upd_ne (ne_of_none e hv2), upd_ne hc, upd_ne (ne_of_none e hu)]
   exact e
def sp_Fewest_shows (C : Addr) : Sp := fun vs H Q _ => ∃ (p mA pA tA : Addr) (gs : List Gm) (ps : List Int) (T : List Int), vs = [.ref p, .ref tA] /\ FwAt C H p mA pA gs ps /\ FwOk gs ps /\ gs.length <= 1000 /\ ps.length <= 900 /\ H tA = some (.lst (T.map V.int)) /\ T.Nodup /\ T.length < 64 /\ ∀ H', Same H H' -> Q (.bl (fewB T gs ps)) H'
theorem sc_Fewest_shows : FnScope ["self", "train"] ["self", "train"] (defScope s_Fewest_shows) := ⟨rfl, rfl, rfl, by decide +kernel, rfl, by decide +kernel, by decide +kernel⟩
theorem m_Fewest_shows (T : Tx K mg Z) : CtrM P w K mg base CX0 7 Z.cFewest "shows" ["self", "train"] (sp_Fewest_shows Z.cFewest) := by
 refine ctrM_of T.k_Fewest T.m_Fewest_shows fun f fd F => F.ok sc_Fewest_shows (fun vs H Q E h => ?_) (fun cdv A outer s H vs Q E hr h => ?_)
 ·obtain ⟨p, mA, pA, tA, gs, ps, T, rfl, _⟩ := h
  rfl
 ·obtain ⟨p, mA, pA, tA, gs, ps, tr, rfl, ⟨dx, fs, h1, h2, h3, h4, h5, h6, h7⟩, hok, hgl, hpl, hT, hnd, hz, kQ⟩ := h
  refine' ⟨_, ?hterm, ?_⟩
  case hterm =>
   refine' pss_cons ?q1 ?q2
   case q1 =>
    refine' ps_if ?q3 ?q4 pss_nil
    case q3 =>
     refine' pt_not ?q5
     case' q5 => refine' pt_truK (K := K) (by rfl) ?q6 (fun _ => rfl)
     case' q6 => refine' pe_callC (C_are_falling_wagons T) (hr.mono (by decide)) rfl ?q7
     case' q7 => refine' pa_cons ?q8 ?q9
     case q8 => exact pe_fldK (K := K) (by rfl) (pv 0) rfl
     case q9 => exact pa_cons (pv 1) pa_nil
    case' q4 => refine' pss_one ?q10
    case q10 => exact ps_ret pe_bl
   case' q2 => refine' pss_one ?q11
   case' q11 => refine' ps_ret ?q12
   case' q12 => refine' PE.or ?q13 ?q14
   case q13 =>
    refine' pe_callC (C_leave_so T) (hr.mono (by decide)) rfl ?q15
    case' q15 => refine' pa_cons (pv 1) ?q16
    case' q16 => refine' pa_cons pe_bl ?q17
    case q17 =>
     refine' pa_cons ?q18 ?q19
     case q18 =>
      refine' pe_callB (callK_len (K := K) (by rfl)) (by rfl) T.n_len b_len ?q20
      case' q20 => refine' pa_cons ?q21 pa_nil
      case q21 => exact pe_fldK (K := K) (by rfl) (pv 0) rfl
     case' q19 => refine' pa_cons ?q22 ?q23
     case q22 => exact pe_fldK (K := K) (by rfl) (pv 0) rfl
     case' q23 => refine' pa_cons ?q24 pa_nil
     case' q24 => refine' pe_callB (callK_sorted (K := K) (by rfl)) (by rfl) T.n_sorted b_sorted ?q25
     case q25 => exact pa_cons (pv 1) pa_nil
   case' q14 => refine' pe_callC (Bad.C_leave_so T) (hr.mono (by decide)) rfl ?q26
   case' q26 => refine' pa_cons (pv 1) ?q27
   case' q27 => refine' pa_cons pe_bl ?q28
   case' q28 => refine' pa_cons ?q29 ?q30
   case q29 =>
    refine' pe_callB (callK_len (K := K) (by rfl)) (by rfl) T.n_len b_len ?q31
    case' q31 => refine' pa_cons ?q32 pa_nil
    case q32 => exact pe_fldK (K := K) (by rfl) (pv 0) rfl
   case' q30 => refine' pa_cons ?q33 ?q34
   case q33 => exact pe_fldK (K := K) (by rfl) (pv 0) rfl
   case' q34 => refine' pa_cons ?q35 pa_nil
   case' q35 => refine' pe_callB (callK_sorted (K := K) (by rfl)) (by rfl) T.n_sorted b_sorted ?q36
   case q36 => exact pa_cons (pv 1) pa_nil
  refine ⟨_, rfl, p, _, dx, _, _, rfl, h1, T.k_Fewest, T.a_Fewest_places, h3, _, rfl, pA, tA, ps, tr, rfl, h6, by omega, hT, fun H1 s1 => ⟨_, rfl, ?_⟩⟩
  cases hfa : fallsB tr ps with
  | false =>
   refine iteT ?_
   have := kQ H1 s1
   unfold fewB at this
   rw [hfa, Bool.false_and, Bool.false_and] at this
   exact this
  | true =>
   refine iteF ?_
   have h11 := s1 _ _ h1
   have h61 := s1 _ _ h6
   rcases hok with ⟨ms, rfl, hmn⟩ | ⟨rfl, rfl⟩
   ·refine .inl ⟨_, rfl, _, rfl, p, _, dx, _, _, rfl, h11, T.k_Fewest, T.a_Fewest_places, h3, _, _, rfl, .inl ⟨_, SqL.of h61, rfl⟩, _, rfl, p, _, dx, _, _, rfl, h11, T.k_Fewest, T.a_Fewest_moves, h2, _, rfl, tA, tr, rfl, SqL.of (s1 _ _ hT), hz, fun l ns hl hp hs => ?_⟩
    have s2 := s1.trans (Same.upd (o := .lst (ns.map V.int)) hl)
    rw [List.length_map]
    refine ⟨tA, mA, l, false, ps.length, tr, ns, ms, rfl, s2 _ _ hT, by omega, (GMovesAt.m h5).same s2, by rw [List.length_map] at hgl; exact hgl, hmn, upd_same, fun H' s3 => ?_⟩
    rw [leftB_shunt hnd hmn hp hs]
    have := kQ H' (s2.trans s3)
    unfold fewB at this
    rw [hfa, Bool.true_and] at this
    cases ps with
    | nil =>
     have e0 : ms = [] := by
      cases ms with
      | nil => rfl
      | cons m r => exact absurd (hmn m List.mem_cons_self) (Nat.not_lt_zero _)
     subst e0
     have e1 : shuntB tr false ([] : List Int).length (([] : List Yd.Mv).map gOf) = ((decide (([] : List Int) ≠ []) || decide (tr = [])) && shuntB tr false (max 1 ([] : List Int).length) (([] : List Yd.Mv).map gOf)) := by
      show (decide ((0 : Nat) = tr.length) && decide (List.Pairwise (· < ·) ([] : List Int))) = ((decide (([] : List Int) ≠ []) || decide (tr = [])) && (decide ((0 : Nat) = tr.length) && decide (List.Pairwise (· < ·) ([] : List Int))))
      cases tr with
      | nil => simp
      | cons a r => simp
     rw [e1]
     exact this
    | cons a r =>
     rw [decide_eq_true (show a :: r ≠ [] by simp), Bool.true_or, Bool.true_and, show max 1 (a :: r).length = (a :: r).length from by simp only [List.length_cons]; omega] at this
     exact this
   ·obtain ⟨rs, em, pm⟩ := id h5
    match rs, pm with
    | [r], .cons hr' .nil =>
     refine .inr ⟨_, rfl, _, rfl, p, _, dx, _, _, rfl, h11, T.k_Fewest, T.a_Fewest_places, h3, _, _, rfl, .inl ⟨_, SqL.of h61, rfl⟩, _, rfl, p, _, dx, _, _, rfl, h11, T.k_Fewest, T.a_Fewest_moves, h2, _, rfl, tA, tr, rfl, SqL.of (s1 _ _ hT), hz, fun l ns hl hp hs => ?_⟩
     have s2 := s1.trans (Same.upd (o := .lst (ns.map V.int)) hl)
     refine ⟨tA, mA, l, r, false, false, 0, 0, tr, rfl, s2 _ _ hT, s2 _ _ em, s2 _ _ hr', Int.le_refl _, Int.le_refl _, fun H' s3 => ?_⟩
     have := kQ H' (s2.trans s3)
     have e : fewB tr [(Str.ofString "out", 0)] [] = false := by
      unfold fewB
      rw [show shuntB tr false (max 1 ([] : List Int).length) [(Str.ofString "out", 0)] = false from rfl, Bool.and_false]
     rw [e] at this
     exact this
def sp_fewest (Z : Adr) : Sp := fun vs H Q _ => ∃ (a : Addr) (T : List Int), vs = [.ref a] /\ H a = some (.lst (T.map V.int)) /\ T.Nodup /\ T.length < 64 /\ TabH Z H /\
 ∀ (p mA pA : Addr) (gs : List Gm) (ps : List Int) (H' : Hp), Same H H' -> H p = none -> H mA = none -> H pA = none -> FwAt Z.cFewest H' p mA pA gs ps -> GOk ps.length gs -> gs.length <= 999 -> fewB T gs ps = true -> Q (.ref p) H'
theorem sc_fewest : FnScope ["train", "wagons", "tracks"] ["train"] (defScope s_fewest) := ⟨rfl, rfl, rfl, by decide +kernel, rfl, by decide +kernel, by decide +kernel⟩
theorem C_fewest (T : Tx K mg Z) : Ctr P w K mg base CX0 7 "fewest" ["train"] (sp_fewest Z) := by
 refine ctr_of T.fewest fun f fd F => F.ok sc_fewest (fun vs H Q E h => ?_) (fun cdv A outer s H vs Q E hr h => ?_)
 ·obtain ⟨a, T, rfl, _⟩ := h
  rfl
 ·obtain ⟨a, tr, rfl, ha, hnd, hz, hTab, k⟩ := h
  refine' ⟨_, ?hterm, ?_⟩
  case hterm =>
   refine' pss_cons ?q1 ?q2
   case q1 =>
    refine' ps_set (i := 1) sc_fewest.nd rfl (Or.inl rfl) ?q3
    case' q3 => refine' pe_callC (C_checked_train T) (hr.mono (by decide)) rfl ?q4
    case q4 => exact pa_cons (pv 0) pa_nil
   case' q2 => refine' pss_cons ?q5 ?q6
   case q5 =>
    refine' ps_set (i := 2) sc_fewest.nd rfl (Or.inl rfl) ?q7
    case' q7 => refine' pe_callC (C_tracks_through T) (hr.mono (by decide)) rfl ?q8
    case q8 => exact pa_cons (pv 1) pa_nil
   case' q6 => refine' pss_one ?q9
   case' q9 => refine' ps_ret ?q10
   case' q10 => refine' pe_makeC (M_Fewest T) (hr.mono (by decide)) rfl ?q11
   case' q11 => refine' pa_cons ?q12 ?q13
   case q12 =>
    refine' pe_callC (C_moves_through T) (hr.mono (by decide)) rfl ?q14
    case' q14 => refine' pa_cons (pv 1) ?q15
    case q15 => exact pa_cons (pv 2) pa_nil
   case' q13 => refine' pa_cons ?q16 pa_nil
   case' q16 => refine' pe_callC (C_falling_to T) (hr.mono (by decide)) rfl ?q17
   case q17 =>
    refine' pa_cons (pv 2) ?q18
    case q18 =>
     refine' pa_cons ?q19 pa_nil
     case' q19 => refine' pe_maxD (K := K) (by rfl) (by rfl) (by rfl) T.n_max (pv 2) ?q20
     case q20 => exact pe_un un_neg pe_int
  refine ⟨_, rfl, a, tr, rfl, ha, hz, hnd, fun wA H1 s1 f1 h1 => ?_⟩
  refine ⟨_, rfl, wA, tr, rfl, h1, hz, hnd, fun t H2 s2 f2 h2 => ?_⟩
  have kk := Thr.K.run hnd
  have s12 := s1.trans s2
  refine ⟨_, rfl, _, rfl, wA, t, tr, _, rfl, s2 _ _ h1, h2, kk.len, hz, hTab.same s12, fun m H3 ord s3 f3 hR hM => ?_⟩
  have s13 := s12.trans s3
  have h23 := s3 _ _ h2
  obtain ⟨rs, em, pm⟩ := hM
  have fin : ∀ (q : Addr) (H4 : Hp) (ps : List Nat), Same H3 H4 -> H4 q = some (.lst (ordV ps.reverse)) -> fallsB tr (ps.reverse.map fun (p : Nat) => (p : Int)) = true -> (ps = [] -> tr = []) -> (∀ (p t : Nat), (Thr.run tr).tr[p]? = some t -> t < ps.length) ->
    ∀ x dx, H4 x = none -> H4 dx = none -> sp_Fewest_init Z.cFewest [.ref x, .ref m, .ref q] (upd (upd H4 dx (.own x)) x (.ins Z.cFewest dx [])) (fun v H5 => v = .non /\ Q (.ref x) H5) E0 := by
   intro q H4 ps s4 hq hfa hnil hlt x dx hx hdx
   have sH := s13.trans s4
   have em4 := s4 _ _ em
   have back : ∀ {c : Addr}, upd (upd H4 dx (.own x)) x (.ins Z.cFewest dx []) c = none -> H4 c = none := fun {c} hc => by
    have n1 : c ≠ x := fun z => by rw [z, upd_same] at hc; cases hc
    rw [upd_ne n1] at hc
    have n2 : c ≠ dx := fun z => by rw [z, upd_same] at hc; cases hc
    rw [upd_ne n2] at hc
    exact hc
   refine ⟨x, dx, m, q, rs.map V.ref, ordV ps.reverse, rfl, upd_same, by rw [upd_ne (ne_of_none em4 hx), upd_ne (ne_of_none em4 hdx)]; exact em4, by rw [upd_ne (ne_of_none hq hx), upd_ne (ne_of_none hq hdx)]; exact hq, fun u v fs H' hu hv huv e1 e2 e3 e4 e5 e6 kept => ⟨rfl, ?_⟩⟩
   have s5 : Same H4 H' := fun c o e => kept c o (by rw [upd_ne (ne_of_none e hx), upd_ne (ne_of_none e hdx)]; exact e) (ne_of_none e hx)
   have hlen : (ps.reverse.map fun (p : Nat) => (p : Int)).length = ps.length := by rw [List.length_map, List.length_reverse]
   refine k x u v ((mvsT (Thr.run tr).tr ord).map gOf) (ps.reverse.map fun (p : Nat) => (p : Int)) H' (sH.trans s5) (sH.free hx) (sH.free (back hu)) (sH.free (back hv)) ⟨dx, fs, e1, e2, e3, e4, ?_, ?_, huv⟩ ⟨_, rfl, ?_⟩ ?_ ?_
   ·exact MovesAt.g ⟨rs, e5, Paired.imp (fun r m z => s5 _ _ (s4 _ _ z)) pm⟩
   ·rw [e6, nats_ints]
   ·rw [hlen]
    exact mvs_lt hR kk hlt
   ·rw [List.length_map, mvs_len hR kk]; omega
   ·unfold fewB
    rw [hfa, Bool.true_and, hlen, mvs_brings hnd hR kk (fun p t e => Nat.lt_of_lt_of_le (hlt p t e) (Nat.le_max_right _ _)), Bool.and_true, Bool.or_eq_true, decide_eq_true_iff, decide_eq_true_iff]
    cases ps with
    | nil => exact .inr (hnil rfl)
    | cons b r => exact .inl (by simp)
  refine ⟨_, rfl, _, rfl, 1, rfl, t, (Thr.run tr).tr.map (fun (p : Nat) => (p : Int)), -1, rfl, rfl, SqL.of (by rw [<- nats_ints]; exact h23), fun hn => ?_, fun z hz' hmx => ?_⟩
  ·have e0 : (Thr.run tr).tr = [] := List.map_eq_nil_iff.mp hn
   have e1 : tr = [] := List.length_eq_zero_iff.mp (by rw [<- kk.len, e0]; rfl)
   refine ⟨t, -1, tr, Thr.run tr, rfl, h23, kk, hz, .inr ⟨e0, fun q H4 s4 fq hq => ?_⟩⟩
   exact fun x dx hx hdx hne => fin q H4 [] s4 hq rfl (fun _ => e1) (fun p t e => by rw [e0] at e; cases e) x dx hx hdx
  ·obtain ⟨n, hn, rfl⟩ := List.mem_map.mp hz'
   obtain ⟨i, hi, ei⟩ := List.getElem_of_mem hn
   have hni : (Thr.run tr).tr[i]? = some n := by rw [List.getElem?_eq_getElem hi, ei]
   refine ⟨t, (n : Int), tr, Thr.run tr, rfl, h23, kk, hz, .inl ⟨n, rfl, fun q H4 ps wd s4 fq hq dn => ?_⟩⟩
   have hpl := dn.end_ kk ⟨i, hni⟩
   refine fun x dx hx hdx hne => fin q H4 ps s4 hq (dn_falls dn kk) (fun z => by rw [z] at hpl; cases hpl) (fun p' t' e => ?_) x dx hx hdx
   have := hmx (t' : Int) (List.mem_map.mpr ⟨t', List.mem_of_getElem? e, rfl⟩)
   omega
end
end My
namespace My
open PySem L2
open PySem.W (Dat)
section
variable {P : Program} {w : World} {K : PySem.W.Frag} {mg : Str -> Option Value} {base : Heap} {Z : Adr}
def sp_right5 (Z : Adr) : Sp := fun vs H Q _ => ∃ (tA : Addr) (T : List Int) (m : Nat), vs = [.ref tA, .int m] /\ H tA = some (.lst (T.map V.int)) /\ T.Nodup /\ T.length < 64 /\ (∀ ps, fallsB T ps = true -> ps.length <= m) /\ TabH Z H /\ ∀ H', Same H H' -> Q (.bl true) H'
theorem sc__law_right : FnScope ["_law_train", "_law_most", "_law_handed", "_law_found"] ["_law_train", "_law_most"] (defScope s__law_right) := ⟨rfl, rfl, rfl, by decide +kernel, rfl, by decide +kernel, by decide +kernel⟩
theorem C__law_right (T : Tx K mg Z) : Ctr P w K mg base CX0 9 "_law_right" ["_law_train", "_law_most"] (sp_right5 Z) := by
 refine ctr_of T._law_right fun f fd F => F.ok sc__law_right (fun vs H Q E h => ?_) (fun cdv A outer s H vs Q E hr h => ?_)
 ·obtain ⟨tA, T, m, rfl, _⟩ := h
  rfl
 ·obtain ⟨tA, tr, m, rfl, hT, hnd, hz, hmost, hTab, kQ⟩ := h
  refine' ⟨_, ?hterm, ?_⟩
  case hterm =>
   refine' pss_cons ?q1 ?q2
   case q1 =>
    refine' ps_set (i := 2) sc__law_right.nd rfl (Or.inl rfl) ?q3
    case' q3 => refine' pe_callTy (callK_list (K := K) (by rfl)) (by rfl) T.n_list b_list ?q4
    case q4 => exact pa_cons (pv 0) pa_nil
   case' q2 => refine' pss_cons ?q5 ?q6
   case q5 =>
    refine' ps_set (i := 3) sc__law_right.nd rfl (Or.inl rfl) ?q7
    case' q7 => refine' pe_callC (C_fewest T) (hr.mono (by decide)) rfl ?q8
    case q8 => exact pa_cons (pv 2) pa_nil
   case' q6 => refine' pss_cons ?q9 ?q10
   case q9 =>
    refine' ps_if ?q11 ?q12 pss_nil
    case q11 =>
     refine' PW.pt ?q13
     case' q13 => refine' pw_or ?q14 ?q15
     case q14 =>
      refine' pt_not ?q16
      case' q16 => refine' pt_truK (K := K) (by rfl) ?q17 (fun _ => rfl)
      case q17 =>
       refine' pe_callB (callK_isinstance (K := K) (by rfl)) (by rfl) T.n_isinstance b_isinstance ?q18
       case q18 =>
        refine' pa_cons (pv 3) ?q19
        case' q19 => refine' pa_cons ?q20 pa_nil
        case q20 => exact pe_clsN (by rfl) T.c_Answer
     case' q15 => refine' pw_or ?q21 ?q22
     case q21 =>
      refine' pt_not ?q23
      case' q23 => refine' pt_truK (K := K) (by rfl) ?q24 (fun _ => rfl)
      case' q24 => refine' pe_callB (callK_isinstance (K := K) (by rfl)) (by rfl) T.n_isinstance b_isinstance ?q25
      case' q25 => refine' pa_cons (pv 3) ?q26
      case' q26 => refine' pa_cons ?q27 pa_nil
      case q27 => exact pe_clsN (by rfl) T.c_Fewest
     case' q22 => refine' pw_or1 ?q28
     case q28 => exact pt_cmpR (op_neK (K := K) (by rfl) (by exact hr.units)) (pv 2) (pv 0) (nomark _)
    case' q12 => refine' pss_one ?q29
    case q29 => exact ps_ret pe_bl
   case' q10 => refine' pss_cons ?q30 ?q31
   case q30 =>
    refine' ps_if ?q32 ?q33 pss_nil
    case q32 =>
     refine' pt_truK (K := K) (by rfl) ?q34 (fun _ => rfl)
     case' q34 => refine' pe_callB (callK_any (K := K) (by rfl) (by rfl)) (by rfl) T.n_any b_any ?q35
     case' q35 => refine' pa_cons ?q36 pa_nil
     case' q36 => refine' pe_lst ?q37
     case' q37 => refine' pa_cons ?q38 ?q39
     case q38 =>
      refine' pe_callB (callK_isinstance (K := K) (by rfl)) (by rfl) T.n_isinstance b_isinstance ?q40
      case' q40 => refine' pa_cons (pv 3) ?q41
      case' q41 => refine' pa_cons ?q42 pa_nil
      case q42 => exact pe_clsN (by rfl) T.c_Odd
     case' q39 => refine' pa_cons ?q43 ?q44
     case q43 =>
      refine' pe_callB (callK_isinstance (K := K) (by rfl)) (by rfl) T.n_isinstance b_isinstance ?q45
      case' q45 => refine' pa_cons (pv 3) ?q46
      case' q46 => refine' pa_cons ?q47 pa_nil
      case q47 => exact pe_clsN (by rfl) T.c_Shunted
     case' q44 => refine' pa_cons ?q48 ?q49
     case q48 =>
      refine' pe_callB (callK_isinstance (K := K) (by rfl)) (by rfl) T.n_isinstance b_isinstance ?q50
      case' q50 => refine' pa_cons (pv 3) ?q51
      case' q51 => refine' pa_cons ?q52 pa_nil
      case q52 => exact pe_clsN (by rfl) T.c_Given
     case' q49 => refine' pa_cons ?q53 pa_nil
     case' q53 => refine' pe_callB (callK_isinstance (K := K) (by rfl)) (by rfl) T.n_isinstance b_isinstance ?q54
     case' q54 => refine' pa_cons (pv 3) ?q55
     case' q55 => refine' pa_cons ?q56 pa_nil
     case q56 => exact pe_clsN (by rfl) T.c_Three
    case' q33 => refine' pss_one ?q57
    case q57 => exact ps_ret pe_bl
   case' q31 => refine' pss_cons ?q58 ?q59
   case q58 =>
    refine' ps_if ?q60 ?q61 pss_nil
    case q60 =>
     refine' PW.pt ?q62
     case' q62 => refine' pw_or ?q63 ?q64
     case q63 =>
      refine' pt_truK (K := K) (by rfl) ?q65 (fun _ => rfl)
      case' q65 => refine' pe_callB (callK_isinstance (K := K) (by rfl)) (by rfl) T.n_isinstance b_isinstance ?q66
      case' q66 => refine' pa_cons (pv 3) ?q67
      case' q67 => refine' pa_cons ?q68 pa_nil
      case q68 => exact pe_clsN (by rfl) T.c_Thrice
     case' q64 => refine' pw_or ?q69 ?q70
     case q69 =>
      refine' pt_truK (K := K) (by rfl) ?q71 (fun _ => rfl)
      case' q71 => refine' pe_callB (callK_isinstance (K := K) (by rfl)) (by rfl) T.n_isinstance b_isinstance ?q72
      case' q72 => refine' pa_cons (pv 3) ?q73
      case' q73 => refine' pa_cons ?q74 pa_nil
      case q74 => exact pe_clsN (by rfl) T.c_Falling
     case' q70 => refine' pw_or1 ?q75
     case' q75 => refine' pt_cmpR op_notC ?q76 pe_bl (nomark _)
     case' q76 => refine' pe_methC (pv 3) (m_Fewest_shows T) (hr.mono (by decide)) ?q77
     case q77 => exact pa_cons (pv 0) pa_nil
    case' q61 => refine' pss_one ?q78
    case q78 => exact ps_ret pe_bl
   case' q59 => refine' pss_cons ?q79 ?q80
   case q79 =>
    refine' ps_if ?q81 ?q82 pss_nil
    case q81 =>
     refine' PW.pt ?q83
     case' q83 => refine' pw_or ?q84 ?q85
     case q84 =>
      refine' pt_not ?q86
      case' q86 => refine' pt_truK (K := K) (by rfl) ?q87 (fun _ => rfl)
      case' q87 => refine' pe_callB (callK_isinstance (K := K) (by rfl)) (by rfl) T.n_isinstance b_isinstance ?q88
      case' q88 => refine' pa_cons ?q89 ?q90
      case q89 => exact pe_fldK (K := K) (by rfl) (pv 3) rfl
      case' q90 => refine' pa_cons ?q91 pa_nil
      case q91 => exact pe_tyN rfl T.n_list b_list
     case' q85 => refine' pw_or ?q92 ?q93
     case q92 =>
      refine' pt_not ?q94
      case' q94 => refine' pt_truK (K := K) (by rfl) ?q95 (fun _ => rfl)
      case' q95 => refine' pe_callC (C__law_falling T) (hr.mono (by decide)) rfl ?q96
      case' q96 => refine' pa_cons (pv 0) ?q97
      case' q97 => refine' pa_cons ?q98 pa_nil
      case q98 => exact pe_fldK (K := K) (by rfl) (pv 3) rfl
     case' q93 => refine' pw_or1 ?q99
     case' q99 => refine' pt_cmpR op_gt ?q100 (pv 1) (nomark _)
     case' q100 => refine' pe_callB (callK_len (K := K) (by rfl)) (by rfl) T.n_len b_len ?q101
     case' q101 => refine' pa_cons ?q102 pa_nil
     case q102 => exact pe_fldK (K := K) (by rfl) (pv 3) rfl
    case' q82 => refine' pss_one ?q103
    case q103 => exact ps_ret pe_bl
   case' q80 => refine' pss_cons ?q104 ?q105
   case q104 =>
    refine' ps_if ?q106 ?q107 pss_nil
    case q106 =>
     refine' pt_cmpR (op_neK (K := K) (by rfl) (by exact hr.units)) ?q108 ?q109 (nomark _)
     case q108 =>
      refine' pe_cmpR (op_eqK (K := K) (by rfl) (by exact hr.units)) ?q110 ?q111 (nomark _)
      case q110 => exact pe_fldK (K := K) (by rfl) (pv 3) rfl
      case q111 => exact pe_lst pa_nil
     case' q109 => refine' pe_cmpR (op_eqK (K := K) (by rfl) (by exact hr.units)) (pv 0) ?q112 (nomark _)
     case q112 => exact pe_lst pa_nil
    case' q107 => refine' pss_one ?q113
    case q113 => exact ps_ret pe_bl
   case' q105 => refine' pss_cons ?q114 ?q115
   case q114 =>
    refine' ps_if ?q116 ?q117 pss_nil
    case q116 =>
     refine' pt_cmpR (op_neK (K := K) (by rfl) (by exact hr.units)) ?q118 ?q119 (nomark _)
     case q118 =>
      refine' pe_callC (C__law_brought T) (hr.mono (by decide)) rfl ?q120
      case' q120 => refine' pa_cons (pv 0) ?q121
      case' q121 => refine' pa_cons pe_bl ?q122
      case' q122 => refine' pa_cons ?q123 ?q124
      case q123 =>
       refine' pe_callB (call_max2 rfl) (by rfl) T.n_max b_max ?q125
       case' q125 => refine' pa_cons pe_int ?q126
       case' q126 => refine' pa_cons ?q127 pa_nil
       case' q127 => refine' pe_callB (callK_len (K := K) (by rfl)) (by rfl) T.n_len b_len ?q128
       case' q128 => refine' pa_cons ?q129 pa_nil
       case q129 => exact pe_fldK (K := K) (by rfl) (pv 3) rfl
      case' q124 => refine' pa_cons ?q130 pa_nil
      case q130 => exact pe_fldK (K := K) (by rfl) (pv 3) rfl
     case' q119 => refine' pe_callB (callK_sorted (K := K) (by rfl)) (by rfl) T.n_sorted b_sorted ?q131
     case q131 => exact pa_cons (pv 0) pa_nil
    case' q117 => refine' pss_one ?q132
    case q132 => exact ps_ret pe_bl
   case' q115 => refine' pss_cons ?q133 ?q134
   case q133 =>
    refine' ps_expr ?q135
    case' q135 => refine' pe_bmK (K := K) (by rfl) PySem.F.plainAttrs_list PySem.F.slot_list_append PySem.F.type_list_append mt_append ?q136 ?q137
    case q136 => exact pe_fldK (K := K) (by rfl) (pv 3) rfl
    case' q137 => refine' pa_cons ?q138 pa_nil
    case' q138 => refine' pe_tup ?q139
    case' q139 => refine' pa_cons pe_str ?q140
    case q140 => exact pa_cons pe_int pa_nil
   case' q134 => refine' pss_cons ?q141 ?q142
   case q141 =>
    refine' ps_if ?q143 ?q144 pss_nil
    case q143 =>
     refine' pt_cmpR op_notC ?q145 pe_bl (nomark _)
     case' q145 => refine' pe_methC (pv 3) (m_Fewest_shows T) (hr.mono (by decide)) ?q146
     case q146 => exact pa_cons (pv 0) pa_nil
    case' q144 => refine' pss_one ?q147
    case q147 => exact ps_ret pe_bl
   case' q142 => refine' pss_cons ?q148 ?q149
   case q148 =>
    refine' ps_expr ?q150
    case' q150 => refine' pe_bmK0 (K := K) (by rfl) PySem.F.plainAttrs_list PySem.F.slot_list_pop PySem.F.type_list_pop mt_popU ?q151
    case q151 => exact pe_fldK (K := K) (by rfl) (pv 3) rfl
   case' q149 => refine' pss_cons ?q152 ?q153
   case q152 =>
    refine' ps_expr ?q154
    case' q154 => refine' pe_bmK (K := K) (by rfl) PySem.F.plainAttrs_list PySem.F.slot_list_append PySem.F.type_list_append mt_append ?q155 ?q156
    case q155 => exact pe_fldK (K := K) (by rfl) (pv 3) rfl
    case q156 => exact pa_cons pe_int pa_nil
   case' q153 => refine' pss_one ?q157
   case' q157 => refine' ps_ret ?q158
   case' q158 => refine' pe_or ?q159 ?q160
   case q159 =>
    refine' pe_cmpR op_isC ?q161 pe_bl (nomark _)
    case' q161 => refine' pe_methC (pv 3) (m_Fewest_shows T) (hr.mono (by decide)) ?q162
    case q162 => exact pa_cons (pv 0) pa_nil
   case' q160 => refine' pe_one ?q163
   case' q163 => refine' pe_cmpR (op_eqK (K := K) (by rfl) (by exact hr.units)) (pv 0) ?q164 (nomark _)
   case q164 => exact pe_lst pa_nil
  refine ⟨_, rfl, tA, _, rfl, .inl (SqL.of hT), fun hA hhA => ?_⟩
  have s1 := Same.upd (o := .lst (tr.map V.int)) hhA
  refine ⟨_, rfl, hA, tr, rfl, upd_same, hnd, hz, hTab.same s1, fun p mA pA gs ps H2 s2 hp2 hm2 hq2 ha hgok hgl hok => ?_⟩
  have s12 := s1.trans s2
  have hT2 := s12 _ _ hT
  have hA2 := s2 _ _ upd_same
  have hmn : H mA = none := s1.free hm2
  have hqn : H pA = none := s1.free hq2
  obtain ⟨dx, fs, h1, h2, h3, h4, h5, h6, h7⟩ := id ha
  have hok2 := hok
  unfold fewB at hok2
  rw [Bool.and_eq_true, Bool.and_eq_true] at hok2
  obtain ⟨⟨hfa, hne⟩, hsh⟩ := hok2
  have hpm := hmost ps hfa
  have hpl := falls_len hfa
  have hnil : (ps = []) ↔ (tr = []) := by
   constructor
   ·intro z
    rw [Bool.or_eq_true, decide_eq_true_iff, decide_eq_true_iff] at hne
    rcases hne with w | w
    ·exact absurd z w
    ·exact w
   ·intro z
    rw [z] at hpl
    exact List.length_eq_zero_iff.mp (by simpa using hpl)
  have ty := T.y_Fewest.ty T.k_Fewest h1
  refine ⟨_, rfl, _, _, _, _, _, rfl, rfl, ref_inj, ty, T.kit_Fewest_Answer, _, rfl, iteF ?_⟩
  refine ⟨_, rfl, _, _, _, _, _, rfl, rfl, ref_inj, ty, kit_same, _, rfl, iteF ?_⟩
  refine ⟨_, rfl, _, rfl, .inr ⟨dI tr, dI tr, .ints (SqL.of hA2), .ints (SqL.of hT2), ok_ints _ _, ok_ints _ _, _, rfl, iteNSc rfl ?_⟩⟩
  refine ⟨_, rfl, _, _, _, _, _, rfl, rfl, ref_inj, ty, T.kit_Fewest_Odd, _, rfl, _, _, _, _, _, rfl, rfl, ref_inj, ty, T.kit_Fewest_Shunted, _, rfl, _, _, _, _, _, rfl, rfl, ref_inj, ty, T.kit_Fewest_Given, _, rfl, _, _, _, _, _, rfl, rfl, ref_inj, ty, T.kit_Fewest_Three, ?_⟩
  refine ⟨(by show 4 <= sizeLine; decide), fun l hl => ⟨l, [false, false, false, false], rfl, SqL.of upd_same, _, rfl, iteF ?_⟩⟩
  have s3 := Same.upd (o := .lst [.bl false, .bl false, .bl false, .bl false]) hl
  generalize upd H2 l (.lst [.bl false, .bl false, .bl false, .bl false]) = H3 at s3 ⊢
  have h13 := s3 _ _ h1
  have f3 := ha.same s3
  have s13 := s12.trans s3
  have ty3 := T.y_Fewest.ty T.k_Fewest h13
  refine ⟨_, rfl, _, _, _, _, _, rfl, rfl, ref_inj, ty3, T.kit_Fewest_Thrice, _, rfl, iteF ?_⟩
  refine ⟨_, rfl, _, _, _, _, _, rfl, rfl, ref_inj, ty3, T.kit_Fewest_Falling, _, rfl, iteF ?_⟩
  refine ⟨_, rfl, p, dx, fs, rfl, h13, h4, _, rfl, p, mA, pA, tA, gs, ps, tr, rfl, f3, .inl hgok, by omega, by omega, s13 _ _ hT, hnd, hz, fun H4 s4 => ⟨_, rfl, _, rfl, ?_⟩⟩
  rw [hok]
  refine iteNSc rfl ?_
  have f4 := f3.same s4
  have s14 := s13.trans s4
  obtain ⟨dx4, fs4, e1, e2, e3, e4, e5, e6, e7⟩ := id f4
  refine ⟨_, rfl, p, _, dx4, _, _, rfl, e1, T.k_Fewest, T.a_Fewest_places, e3, _, _, _, _, _, rfl, rfl, ty_inj, .lst e6, kit_same, _, rfl, iteF ?_⟩
  refine ⟨_, rfl, _, rfl, p, _, dx4, _, _, rfl, e1, T.k_Fewest, T.a_Fewest_places, e3, tA, pA, tr, ps, rfl, s14 _ _ hT, e6, by omega, fun H5 s5 => ⟨_, rfl, ?_⟩⟩
  rw [hfa]
  refine iteF ?_
  have f5 := f4.same s5
  have s15 := s14.trans s5
  have e15 := s5 _ _ e1
  have e65 := s5 _ _ e6
  refine ⟨_, rfl, p, _, dx4, _, _, rfl, e15, T.k_Fewest, T.a_Fewest_places, e3, _, _, rfl, .inl ⟨_, SqL.of e65, rfl⟩, _, rfl, _, _, rfl, rfl, _, rfl, ?_⟩
  rw [List.length_map, decide_eq_false (show ¬ (m : Int) < (ps.length : Int) by omega)]
  refine iteF ?_
  refine ⟨_, rfl, p, _, dx4, _, _, rfl, e15, T.k_Fewest, T.a_Fewest_places, e3, Nat.zero_le _, fun n1 hn1 => .inr ⟨dI ps, dI [], .ints (SqL.of (upd_get e65 hn1)), .ints (SqL.of upd_same), ok_ints _ _, ok_ints _ _, ?_⟩⟩
  have s6 := Same.upd (o := .lst []) hn1
  refine ⟨_, rfl, Nat.zero_le _, fun n2 hn2 => .inr ⟨dI tr, dI [], .ints (SqL.of (upd_get (s6 _ _ (s15 _ _ hT)) hn2)), .ints (SqL.of upd_same), ok_ints _ _, ok_ints _ _, .inl ⟨rfl, _, rfl, iteNS ?_ ?_⟩⟩⟩
  ·congr 1
   refine decide_eq_decide.mpr ⟨fun z => ?_, fun z => ?_⟩
   ·rw [hnil.mp (dI_inj z)]
   ·rw [hnil.mpr (dI_inj z)]
  have s7 := s6.trans (Same.upd (o := .lst []) hn2)
  have s17 := s15.trans s7
  have f7 := f5.same s7
  generalize upd (upd H5 n1 (.lst [])) n2 (.lst []) = H7 at s17 f7 ⊢
  obtain ⟨dx7, fs7, g1, g2, g3, g4, g5, g6, g7⟩ := id f7
  have emx : ∀ k : Nat, (if (k : Int) > 1 then (k : Int) else 1) = ((max 1 k : Nat) : Int) := fun k => by
   by_cases h : (k : Int) > 1
   ·rw [if_pos h]; omega
   ·rw [if_neg h]; omega
  refine ⟨_, rfl, _, rfl, p, _, dx7, _, _, rfl, g1, T.k_Fewest, T.a_Fewest_places, g3, _, _, rfl, .inl ⟨_, SqL.of g6, rfl⟩, 1, _, rfl, ?_⟩
  rw [List.length_map, emx]
  refine ⟨_, rfl, p, _, dx7, _, _, rfl, g1, T.k_Fewest, T.a_Fewest_moves, g2, tA, mA, false, max 1 ps.length, tr, gs, rfl, SqL.of (s17 _ _ hT), by omega, g5, by omega, by omega, fun hn H8 s8 => ?_, fun st hst lA H8 s8 hl8 hl8' => ?_⟩
  ·rw [left_none hn] at hsh
   cases hsh
  have s18 := s17.trans s8
  refine ⟨_, rfl, tA, tr, rfl, SqL.of (s18 _ _ hT), hz, fun l9 ns hl9 hp hs => .inr ⟨dI st.left, dI ns, .ints (SqL.of (upd_get hl8' hl9)), .ints (SqL.of upd_same), ok_ints _ _, ok_ints _ _, _, rfl, iteNSc (by rw [(left_sorted hnd hst hp hs).mpr hsh]) ?_⟩⟩
  have s9 := s8.trans (Same.upd (o := .lst (ns.map V.int)) hl9)
  have s19 := s17.trans s9
  have f9 := f7.same s9
  generalize upd H8 l9 (.lst (ns.map V.int)) = H9 at s19 f9 ⊢
  obtain ⟨rs, hm, hrl, hadd⟩ := f9.add
  obtain ⟨dx9, fs9, u1, u2, u3, u4, u5, u6, u7⟩ := id f9
  refine ⟨_, rfl, p, _, dx9, _, _, rfl, u1, T.k_Fewest, T.a_Fewest_moves, u2, .inl ⟨rfl, _, SqL.of hm⟩, (by show 2 <= sizeLine; decide), fun t ht => ⟨mA, _, _, rfl, rfl, upd_get hm ht, (by rw [List.length_map, hrl]; exact small1000 (by omega)), ?_⟩⟩
  obtain ⟨f10, hback⟩ := hadd t (Str.ofString "out") ((0 : Nat) : Int) ht
  have s10 : Same H (upd (upd H9 t (.tup [.str (Str.ofString "out"), .int ((0 : Nat) : Int)])) mA (.lst (rs.map V.ref ++ [.ref t]))) := Same.updN (s19.trans (Same.upd ht)) hmn
  have hm10 : upd (upd H9 t (.tup [.str (Str.ofString "out"), .int ((0 : Nat) : Int)])) mA (.lst (rs.map V.ref ++ [.ref t])) mA = some (.lst (rs.map V.ref ++ [.ref t])) := upd_same
  obtain ⟨dxa, fsa, a1, a2, a3, a4, a5, a6, a7⟩ := id f10
  have hok10 : FwOk (gs ++ [(Str.ofString "out", ((0 : Nat) : Int))]) ps := by
   cases ps with
   | nil => exact .inr ⟨rfl, by rw [GOk.zero hgok]; rfl⟩
   | cons b r => exact .inl (hgok.snoc (by simp))
  refine ⟨_, rfl, p, dxa, fsa, rfl, a1, a4, _, rfl, p, mA, pA, tA, _, ps, tr, rfl, f10, hok10, by rw [List.length_append]; simp only [List.length_cons, List.length_nil]; omega, by omega, s10 _ _ hT, hnd, hz, fun H11 s11 => ⟨_, rfl, _, rfl, ?_⟩⟩
  have hfin : fewB tr (gs ++ [(Str.ofString "out", ((0 : Nat) : Int))]) ps = false := by
   unfold fewB
   rw [after_all (t := 0) hsh (by omega), Bool.and_false]
  rw [hfin]
  refine iteNSc rfl ?_
  have b1 := s11 _ _ a1
  have hm11 := s11 _ _ hm10
  refine ⟨_, rfl, p, _, dxa, _, _, rfl, b1, T.k_Fewest, T.a_Fewest_moves, a2, .inl ⟨rfl, _, SqL.of hm11⟩, .inl ⟨mA, _, .ref t, rfl, rfl, hm11, (by rw [List.length_append, List.getElem?_append_right (by simp)]; simp), ?_⟩⟩
  rw [List.dropLast_concat]
  have f12 := hback H11 s11
  have s12' : Same H (upd H11 mA (.lst (rs.map V.ref))) := Same.updN (s10.trans s11) hmn
  generalize upd H11 mA (.lst (rs.map V.ref)) = H12 at f12 s12' ⊢
  obtain ⟨dxb, fsb, c1, c2, c3, c4, c5, c6, c7⟩ := id f12
  refine ⟨_, rfl, p, _, dxb, _, _, rfl, c1, T.k_Fewest, T.a_Fewest_places, c3, .inl ⟨rfl, _, SqL.of c6⟩, pA, _, _, rfl, rfl, c6, (by rw [List.length_map]; exact small1000 (by omega)), ?_⟩
  have s13' : Same H (upd H12 pA (.lst (ps.map V.int ++ [.int 0]))) := Same.updN s12' hqn
  have npp : p ≠ pA := ne_of c1 c6 (by intro z; cases z)
  obtain ⟨rs', cm1, cm2⟩ := id c5
  have f13 : FwAt Z.cFewest (upd H12 pA (.lst (ps.map V.int ++ [.int 0]))) p mA pA gs (ps ++ [0]) := by
   refine ⟨dxb, fsb, by rw [upd_ne npp]; exact c1, c2, c3, c4, ⟨rs', by rw [upd_ne c7]; exact cm1, Paired.imp (fun r g z => ?_) cm2⟩, by rw [upd_same, List.map_append]; rfl, c7⟩
   have z6 : H12 r = some (.tup [.str g.1, .int g.2]) := z
   show upd H12 pA _ r = _
   rw [upd_ne (ne_of z6 c6 (by intro w; cases w))]
   exact z6
  refine ⟨_, rfl, p, dxb, fsb, rfl, (by rw [upd_ne npp]; exact c1), c4, _, rfl, p, mA, pA, tA, gs, ps ++ [0], tr, rfl, f13, .inl (hgok.mono (by rw [List.length_append]; omega)), by omega, by rw [List.length_append]; simp only [List.length_cons, List.length_nil]; omega, s13' _ _ hT, hnd, hz, fun H14 s14 => ⟨_, rfl, ?_⟩⟩
  have hno : fewB tr gs (ps ++ [0]) = false := by
   cases e : fewB tr gs (ps ++ [0]) with
   | false => rfl
   | true =>
    unfold fewB at e
    rw [Bool.and_eq_true, Bool.and_eq_true] at e
    obtain ⟨z1, z2⟩ := falls_nought tr ps e.1.1
    exact absurd (hnil.mp z1) z2
  rw [hno]
  exact ⟨_, rfl, iteT (kQ H14 (s13'.trans s14))⟩
theorem sc_law : FnScope ["_law_script", "_law_tracks", "_law_made_here", "_law_train", "_law_some"] ["_law_script"] (defScope s_law) := ⟨rfl, rfl, rfl, by decide +kernel, rfl, by decide +kernel, by decide +kernel⟩
theorem ok_law {f : Addr} {fd : FuncData} (T : Tx K mg Z) (F : Fun K "law" "law" s_law f fd) : FnOk P w K mg base CX0 11 f fd ["_law_script"] (sp_law K) := by
 refine F.ok sc_law (fun vs H Q E h => ?_) (fun cdv A outer s H vs Q E hr h => ?_)
 ·obtain ⟨a, ns, rfl, _⟩ := h
  rfl
 ·obtain ⟨a, ns, rfl, hS, hz, hL, kQ⟩ := h
  have hTab := TabH.of T hL
  refine' ⟨_, ?hterm, ?_⟩
  case hterm =>
   refine' pss_cons ?q1 ?q2
   case q1 =>
    refine' ps_set (i := 1) sc_law.nd rfl (Or.inl rfl) ?q3
    case' q3 => refine' pe_op (op_addK (K := K) (by rfl)) pe_int ?q4
    case' q4 => refine' pe_op op_mod ?q5 pe_int
    case' q5 => refine' pe_callB (callK_sum (K := K) (by rfl) (by rfl)) (by rfl) T.n_sum b_sum ?q6
    case q6 => exact pa_cons (pv 0) pa_nil
   case' q2 => refine' pss_cons ?q7 ?q8
   case q7 =>
    refine' ps_par (i := 2) (j := 3) rfl sc_law.nd rfl rfl (by decide) rfl rfl ?q9 (by kernel_rfl) (hs := by kernel_rfl)
    case' q9 => refine' pa_cons ?q10 ?q11
    case q10 =>
     refine' pe_callC (C__law_made T) (hr.mono (by decide)) rfl ?q12
     case' q12 => refine' pa_cons (pv 0) ?q13
     case' q13 => refine' pa_cons pe_bl ?q14
     case q14 => exact pa_cons (pv 1) pa_nil
    case' q11 => refine' pa_cons ?q15 pa_nil
    case' q15 => refine' pe_callC (C__law_inserted T) (hr.mono (by decide)) rfl ?q16
    case q16 => exact pa_cons (pv 0) pa_nil
   case' q8 => refine' pss_cons ?q17 ?q18
   case q17 =>
    refine' ps_for HP rfl ?q19 ?q20 ?q21
    case q19 =>
     refine' pi_listK (K := K) (by rfl) ?q22
     case' q22 => refine' pe_lst ?q23
     case' q23 => refine' pa_cons (pv 3) ?q24
     case' q24 => refine' pa_cons ?q25 ?q26
     case q25 =>
      refine' pe_rev (K := K) (by rfl) (pv 2) po_none ?q27
      case' q27 => refine' po_some ?q28
      case q28 => exact pe_un un_neg pe_int
     case' q26 => refine' pa_cons ?q29 pa_nil
     case' q29 => refine' pe_rev (K := K) (by rfl) (pv 3) po_none ?q30
     case' q30 => refine' po_some ?q31
     case q31 => exact pe_un un_neg pe_int
    case q20 => exact pg_name (i := 4) sc_law.nd (by rfl) (by exact Or.inl rfl)
    case' q21 => refine' pss_one ?q32
    case' q32 => refine' ps_if ?q33 ?q34 pss_nil
    case q33 =>
     refine' pt_not ?q35
     case' q35 => refine' pt_truK (K := K) (by rfl) ?q36 (fun _ => rfl)
     case' q36 => refine' pe_callC (C__law_right T) (hr.mono (by decide)) rfl ?q37
     case' q37 => refine' pa_cons (pv 4) ?q38
     case' q38 => refine' pa_cons ?q39 pa_nil
     case' q39 => refine' pe_callB (callK_len (K := K) (by rfl)) (by rfl) T.n_len b_len ?q40
     case q40 => exact pa_cons (pv 4) pa_nil
    case' q34 => refine' pss_one ?q41
    case q41 => exact ps_ret pe_bl
   case' q18 => refine' pss_one ?q42
   case' q42 => refine' ps_ret ?q43
   case' q43 => refine' pe_and ?q44 ?q45
   case q44 =>
    refine' pe_callC (C__law_right T) (hr.mono (by decide)) rfl ?q46
    case' q46 => refine' pa_cons (pv 2) ?q47
    case q47 => exact pa_cons (pv 1) pa_nil
   case' q45 => refine' pe_one ?q48
   case' q48 => refine' pe_callC (C__law_right T) (hr.mono (by decide)) rfl ?q49
   case' q49 => refine' pa_cons (pv 2) ?q50
   case q50 => exact pa_cons (pv 1) pa_nil
  refine ⟨_, rfl, a, ns, rfl, hS, _, 9, rfl, rfl, (by show (0 : Int) < 9; decide), .inl ⟨1, _, rfl, rfl, ?_⟩⟩
  obtain ⟨n, hn⟩ : ∃ n : Nat, 1 + ns.sum % 9 = (n : Int) := ⟨(1 + ns.sum % 9).toNat, by omega⟩
  have hn1 : 1 <= n := by omega
  have hn2 : n <= 9 := by omega
  dsimp only
  rw [hn]
  refine ⟨_, rfl, _, rfl, a, ns, false, n, rfl, hS, by omega, by omega, by omega, fun mA Tm ms H1 s1 f1 h1 hTp hB => ?_⟩
  have hml : Tm.length = ns.length := by rw [hTp.length_eq, Yd.R_len]
  have hmn : Tm.Nodup := hTp.nodup_iff.mpr (Yd.R_nodup _)
  refine ⟨_, rfl, a, ns, rfl, s1.seq hS, by omega, fun iA ps far H2 s2 f2 h2 hf1 hf2 hperm => ⟨_, _, rfl, ?_⟩⟩
  obtain ⟨Ti, eTi⟩ : ∃ Ti, Ti = ps.map (Ins.wag ns far) := ⟨_, rfl⟩
  rw [<- eTi] at h2
  have hil : Ti.length = ns.length := by rw [eTi, List.length_map, hperm.length_eq, List.length_range]
  have hin : Ti.Nodup := by rw [eTi]; exact Ins.train_nodup ns hf1 hperm
  have h12 := s2 _ _ h1
  refine ⟨_, rfl, _, rfl, 1, rfl, _, rfl, rfl, mA, _, rfl, SqL.of h12, fun q1 hq1 => ?_⟩
  rw [revV_all, <- List.map_reverse]
  have s3 := Same.upd (o := .lst (Tm.reverse.map V.int)) hq1
  refine ⟨_, rfl, 1, rfl, _, rfl, rfl, iA, _, rfl, SqL.of (s3 _ _ h2), fun q2 hq2 => ?_⟩
  rw [revV_all, <- List.map_reverse]
  have s4 := Same.upd (o := .lst (Ti.reverse.map V.int)) hq2
  refine ⟨(by show 3 <= sizeLine; decide), fun tA htA => ?_⟩
  have s5 := Same.upd (o := .lst [.ref iA, .ref q1, .ref q2]) htA
  have X5 : ∀ x ∈ ([.ref iA, .ref q1, .ref q2] : List V), ∃ (uA : Addr) (U : List Int), x = .ref uA /\ upd (upd (upd H2 q1 (.lst (Tm.reverse.map V.int))) q2 (.lst (Ti.reverse.map V.int))) tA (.lst [.ref iA, .ref q1, .ref q2]) uA = some (.lst (U.map V.int)) /\ U.Nodup /\ U.length < 64 := fun x hx => by
   simp only [List.mem_cons, List.not_mem_nil, or_false] at hx
   rcases hx with rfl | rfl | rfl
   ·exact ⟨iA, Ti, rfl, ((s3.trans s4).trans s5) _ _ h2, hin, by omega⟩
   ·exact ⟨q1, Tm.reverse, rfl, (s4.trans s5) _ _ upd_same, (List.reverse_perm Tm).nodup_iff.mpr hmn, by rw [List.length_reverse]; omega⟩
   ·exact ⟨q2, Ti.reverse, rfl, s5 _ _ upd_same, (List.reverse_perm Ti).nodup_iff.mpr hin, by rw [List.length_reverse]; omega⟩
  have ht5 : upd (upd (upd H2 q1 (.lst (Tm.reverse.map V.int))) q2 (.lst (Ti.reverse.map V.int))) tA (.lst [.ref iA, .ref q1, .ref q2]) tA = some (.lst [.ref iA, .ref q1, .ref q2]) := upd_same
  have h15 := ((s3.trans s4).trans s5) _ _ h12
  have hTab5 := hTab.same (((((s1.trans s2).trans s3).trans s4)).trans s5)
  generalize upd (upd (upd H2 q1 (.lst (Tm.reverse.map V.int))) q2 (.lst (Ti.reverse.map V.int))) tA (.lst [.ref iA, .ref q1, .ref q2]) = H5 at X5 ht5 h15 hTab5 ⊢
  refine ⟨tA, rfl, ⟨_, SqL.of ht5⟩, ?_⟩
  refine for_list (K := K) (a := tA) (xs := [.ref iA, .ref q1, .ref q2]) (fun i σ H6 => (∃ v4, σ = [some (.ref a), some (.int n), some (.ref mA), some (.ref iA), v4]) /\ Same H5 H6)
   ⟨⟨_, rfl⟩, Same.refl _⟩ (fun i σ H6 _ h => SqL.of (h.2 _ _ ht5)) ?_ ?_
  ·rintro i x σ H6 hx ⟨⟨v4, rfl⟩, s6⟩
   obtain ⟨uA, U, rfl, hU, hUn, hUz⟩ := X5 x (List.mem_of_getElem? hx)
   refine ⟨_, rfl, _, rfl, _, _, rfl, .inl ⟨_, SqL.of (s6 _ _ hU), rfl⟩, uA, U, U.length, (by rw [List.length_map]; rfl), s6 _ _ hU, hUn, hUz, fun ps h => falls_len h, hTab5.same s6, fun H7 s7 => ⟨_, rfl, iteF ⟨⟨_, rfl⟩, s6.trans s7⟩⟩⟩
  ·rintro σ H6 ⟨⟨v4, rfl⟩, s6⟩
   refine ⟨_, rfl, _, rfl, mA, Tm, n, rfl, s6 _ _ h15, hmn, by omega, fun ps h => falls_most hB h, hTab5.same s6, fun H7 s7 => ⟨_, rfl, iteT ?_⟩⟩
   exact ⟨_, rfl, _, rfl, mA, Tm, n, rfl, (s6.trans s7) _ _ h15, hmn, by omega, fun ps h => falls_most hB h, hTab5.same (s6.trans s7), fun H8 s8 => kQ H8⟩
end
end My
theorem PySem.Challenge.cw_sidings_k05_whole_fewest_holds : PySem.Challenge.rw_sidings_k05_whole_fewest.Holds :=
 My.early My.ok_law
#print axioms PySem.Challenge.cw_sidings_k05_whole_fewest_holds
